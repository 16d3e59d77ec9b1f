import PyProof.Rows.All
import Wide.All
import OpenK.AllK
import Wide.FinOn
import Lean
import PyProof.EqAt
import PyProof.EqKinds
import PyProof.TupleCall
import KE.KIntText
import PyProof.StrBlockH
import PyProof.StrLawsTight
import PyProof.StrLawsReplace
import PyProof.StrLawsJoin
import PyProof.StrLawsNeg
import KE.LcSums
import KE.KSortAsk
import KE.KItemsList
import KE.KRevIter
import PyProof.DictCompW
import PyProof.ZipIter
import PySem.Challenge.RW_swapstars_k67_papers_of_chains
set_option Elab.async false
set_option linter.all false
set_option maxRecDepth 100000
set_option maxHeartbeats 8000000
namespace L2
open PySem PySem.Spec PyProof.Rows
abbrev Key:=Sum Int Str
def keyIs:Key→Value→Bool
 | .inl k,v=>Value.isInt k v
 | .inr x,v=>Value.isStrOf x v
def keyH (w:World) : Key→Int
 | .inl k=>hashInt k
 | .inr x=>hashStr w x
theorem keyIs_shape : ∀ {k:Key} {v:Value},keyIs k v=true→(∃ i t,k=Sum.inl i∧v=Value.int i t)∨(∃ x t,k=Sum.inr x∧v=Value.str x t)
 | .inl i,v,h=>by
  obtain ⟨t,e⟩:=Value.isInt_shape (k:=i) (v:=v) h
  exact .inl ⟨i,t,rfl,e⟩
 | .inr x,v,h=>by
  obtain ⟨t,e⟩:=Value.isStrOf_shape (x:=x) (v:=v) h
  exact .inr ⟨x,t,rfl,e⟩
theorem keyIs_int (i:Int) (t:Tok) : keyIs (.inl i) (.int i t)=true:=by simp [keyIs,Value.isInt]
theorem keyIs_str (x:Str) (t:Tok) : keyIs (.inr x) (.str x t)=true:=by simp [keyIs,Value.isStrOf]
theorem key_ll (a b:Int) : decide ((Sum.inl a:Key)=Sum.inl b)=(a == b):=by
 by_cases e:a=b
 ·subst e; simp
 ·have h : ¬ (Sum.inl a:Key)=Sum.inl b:=fun q=>e (Sum.inl.inj q)
  rw [decide_eq_false h]
  exact (beq_eq_false_iff_ne.mpr e).symm
theorem key_rr (a b:Str) : decide ((Sum.inr a:Key)=Sum.inr b)=decide (a=b):=by
 by_cases e:a=b
 ·subst e; simp
 ·have h : ¬ (Sum.inr a:Key)=Sum.inr b:=fun q=>e (Sum.inr.inj q)
  rw [decide_eq_false h,decide_eq_false e]
theorem key_lr (a:Int) (b:Str) : decide ((Sum.inl a:Key)=Sum.inr b)=false:=decide_eq_false (fun q=>nomatch q)
theorem key_rl (a:Str) (b:Int) : decide ((Sum.inr a:Key)=Sum.inl b)=false:=decide_eq_false (fun q=>nomatch q)
def mixKind (prog:Program) (w:World) : PySem.KeyKind prog w Key where
 is:=keyIs
 hash:=keyH w
 inj:=fun v a b ha hb=>by
  rcases keyIs_shape ha with ⟨i,t,rfl,rfl⟩ | ⟨x,t,rfl,rfl⟩
  ·rcases keyIs_shape hb with ⟨j,u,rfl,e⟩ | ⟨y,u,rfl,e⟩
   ·injection e with e1 _; rw [e1]
   ·exact nomatch e
  ·rcases keyIs_shape hb with ⟨j,u,rfl,e⟩ | ⟨y,u,rfl,e⟩
   ·exact nomatch e
   ·injection e with e1 _; rw [e1]
 byValue:=fun k v h=>by
  rcases keyIs_shape h with ⟨i,t,rfl,rfl⟩ | ⟨x,t,rfl,rfl⟩ <;> rfl
 pyHash:=fun hv h=>by
  rcases keyIs_shape hv with ⟨i,t,rfl,rfl⟩ | ⟨x,t,rfl,rfl⟩
  ·exact wpAny_pyHash_int h
  ·exact wpAny_pyHash_str h
 eqBool:=fun hu hv h=>by
  rcases keyIs_shape hu with ⟨i,t,rfl,rfl⟩ | ⟨x,t,rfl,rfl⟩
  ·rcases keyIs_shape hv with ⟨j,u,rfl,rfl⟩ | ⟨y,u,rfl,rfl⟩
   ·rw [key_ll] at h; exact wpAny_eqBool_int h
   ·rw [key_lr] at h; exact SeqAt.EqAt.int_str i t y u _ _ _ _ h
  ·rcases keyIs_shape hv with ⟨j,u,rfl,rfl⟩ | ⟨y,u,rfl,rfl⟩
   ·rw [key_rl] at h; exact SeqAt.EqAt.str_int x t j u _ _ _ _ h
   ·rw [key_rr] at h; exact wpAny_eqBool_str h
 «strs»:=fun k x t v h=>by
  rcases keyIs_shape h with ⟨i,u,rfl,e⟩ | ⟨y,u,rfl,e⟩
  ·exact nomatch e
  ·injection e with e1 _
   subst e1
   cases v <;> rfl
theorem mixKind_int (prog:Program) (w:World) (i:Int) (t:Tok) : (mixKind prog w).is (.inl i) (.int i t)=true:=keyIs_int i t
theorem mixKind_str (prog:Program) (w:World) (x:Str) (t:Tok) : (mixKind prog w).is (.inr x) (.str x t)=true:=keyIs_str x t
end L2
namespace L2
open PySem PySem.Spec PyProof.Rows
inductive V where
 | non | bl (b:Bool) | int (i:Int) | str (x:Str) | byt (b:Array UInt8) | flt (b:UInt64) | ref (a:Addr) | ty (n:String)
 deriving DecidableEq
def RelV:V→Value→Prop
 | .non,u=>u=Value.none
 | .bl b,u=>u=Value.bool b
 | .int i,u=>∃ t,u=Value.int i t
 | .str x,u=>∃ t,u=Value.str x t
 | .byt b,u=>∃ t,u=Value.bytes b t
 | .flt b,u=>∃ t,u=Value.float b t
 | .ref a,u=>u=Value.ref a
 | .ty n,u=>u=Value.type n
abbrev Vals:List V→List Value→Prop:=Paired RelV
theorem Vals.length {xs:List V} {us:List Value} (r:Vals xs us) : xs.length=us.length:=Paired.length r
theorem Vals.get : ∀ {xs:List V} {us:List Value} {i:Nat} {x:V},Vals xs us→xs[i]?=some x→∃ u,us[i]?=some u∧RelV x u
 | _,_,_,_,.nil,e=>by simp at e
 | _,_,0,_,.cons r _,e=>by simp at e; subst e; exact ⟨_,rfl,r⟩
 | _,_,i+1,x,.cons _ t,e=>by
  obtain ⟨u,h1,h2⟩:=Vals.get (i:=i) (x:=x) t (by simpa using e)
  exact ⟨u,by simpa using h1,h2⟩
theorem Vals.set {x:V} {u:Value} (r:RelV x u) : ∀ {xs:List V} {us:List Value} (i:Nat),Vals xs us→Vals (xs.set i x) (us.set i u)
 | _,_,_,.nil=>.nil
 | _,_,0,.cons _ t=>.cons r t
 | _,_,i+1,.cons q t=>.cons q (Vals.set r i t)
theorem Vals.append : ∀ {xs ys:List V} {us ws:List Value},Vals xs us→Vals ys ws→Vals (xs++ys) (us++ws)
 | _,_,_,_,.nil,s=>s
 | _,_,_,_,.cons r t,s=>.cons r (Vals.append t s)
theorem Vals.take : ∀ {xs:List V} {us:List Value} (n:Nat),Vals xs us→Vals (xs.take n) (us.take n)
 | _,_,0,_=>.nil
 | _,_,_+1,.nil=>.nil
 | _,_,n+1,.cons r t=>.cons r (Vals.take n t)
theorem Vals.drop : ∀ {xs:List V} {us:List Value} (n:Nat),Vals xs us→Vals (xs.drop n) (us.drop n)
 | _,_,0,r=>r
 | _,_,_+1,.nil=>.nil
 | _,_,n+1,.cons _ t=>Vals.drop n t
def RelO:Option V→Option Value→Prop
 | some v,some u=>RelV v u
 | none,none=>True
 | _,_=>False
def KV {κ : Type} : List (κ × V)→List (κ × Value)→Prop:=Paired fun (p : κ × V) (q : κ × Value)=>p.1=q.1∧RelV p.2 q.2
def kV:Key→V
 | .inl i=>.int i
 | .inr x=>.str x
inductive HO where
 | lst (xs:List V)
 | tup (xs:List V)
 | dK (kvs:List (Key × V)) | dT (kvs:List (List Key × V))
 | set (S:Int→Bool) (n:Nat)
 | ins (C dx:Addr) (fs:List (Str × V))
 | own (x:Addr)
 | xd (fs:List (Str × V))
 | met (f x:Addr)
 | rng (lo hi:Int)
 | frz (o:Obj) (u:HO)
 | tbl (ps:Array Value)
 | ext (φ : Heap→Prop)
abbrev Hp:=Addr→Option HO
def upd (H:Hp) (a:Addr) (o:HO) : Hp:=fun b=>if b=a then some o else H b
theorem upd_same {H:Hp} {a:Addr} {o:HO} : upd H a o a=some o:=by unfold upd; rw [if_pos rfl]
theorem upd_ne {H:Hp} {a b:Addr} {o:HO} (h:b≠a) : upd H a o b=H b:=by unfold upd; rw [if_neg h]
theorem ne_of {H:Hp} {a b:Addr} {o u:HO} (h:H a=some o) (h':H b=some u) (d:o≠u) : a≠b:=by
 intro e; subst e; rw [h] at h'; exact d (Option.some.inj h')
theorem ne_of_none {H:Hp} {a b:Addr} {o:HO} (h:H a=some o) (h':H b=none) : a≠b:=by
 intro e; subst e; rw [h] at h'; cases h'
section
variable (P:Program) (w:World)
def ObjOk (H:Hp) (h:Heap) (a:Addr) : HO→Prop
 | .lst xs=>xs.length≤sizeLine∧∃ (its:List Value) (n:Nat),Vals xs its∧h.get? a=some { cls:=.type "list", data:=.seq its.toArray n }
 | .tup xs=>xs.length≤sizeLine∧∃ its:List Value,Vals xs its∧IsTup h a its.toArray
 | .dK kvs=>kvs.length≤sizeLine∧(a == sysModules)=false∧∃ vs,KV kvs vs∧h.DictOf (mixKind P w) a vs
 | .dT kvs=>kvs.length≤sizeLine∧(a == sysModules)=false∧∃ xs:List (List Key × Addr × Value),
   Paired (fun (p:List Key × V) (q:List Key × Addr × Value)=>p.1=q.1∧H q.2.1=some (.tup (p.1.map kV))∧RelV p.2 q.2.2) kvs xs ∧
   ∃ o es ep,h.get? a=some o∧o.ExactDict∧o.data=.dict es ep∧es.toList=xs.map (entryOfKey (tupleKind (mixKind P w)))∧(xs.map (·.1)).Nodup
 | .set S n=>h.SetOf (intKind P w) a S n
 | .ins C dx fs=>H dx=some (.own a)∧fs.length≤1000∧dx≠a∧h.get? a=some (PySem.W.instObj C dx) ∧
   ∃ mA,h.Ns1 dx mA∧(∀ f,RelO (fs.lookup f) (mA f))∧PySem.Within mA (fs.map (·.1))
 | .own _=>∃ o,h.get? a=some o
 | .xd fs=>∃ mA,h.Ns1 a mA∧∀ f,RelO (fs.lookup f) (mA f)
 | .rng lo hi=>∃ t u v,h.get? a=some { cls:=.type "range", data:=.fields #[.int lo t,.int hi u,.int 1 v] }
 | .frz o u=>h.get? a=some o∧ObjOk H h a u
 | .tbl ps=>h.get? a=some { cls:=.none,data:=.fields ps }
 | .met f x=>h.get? a=some (PySem.W.methodObj (.ref f) (.ref x))
 | .ext φ=>φ h∧(∃ o,h.get? a=some o)∧∀ h1 h2:Heap,φ h1→(∀ o,h1.get? a=some o→h2.get? a=some o)→φ h2
def HOk (H:Hp) (h:Heap) : Prop:=∀ a o,H a=some o→ObjOk P w H h a o
end
section
variable {P:Program} {w:World} {H H':Hp} {h h':Heap} {a:Addr} {o:HO}
theorem ObjOk.lt (x:ObjOk P w H h a o) : a<h.objs.size:=by
 cases o with
 | lst xs=>obtain ⟨_,_,_,_,e⟩:=x; exact Heap.lt_size e
 | tup xs=>obtain ⟨_,_,_,p⟩:=x; exact p.lt
 | dK kvs=>obtain ⟨_,_,_,_,o,_,_,e,_⟩:=x; exact Heap.lt_size e
 | dT kvs=>obtain ⟨_,_,_,_,o,_,_,e,_⟩:=x; exact Heap.lt_size e
 | set S n=>obtain ⟨o,_,_,_,e,_⟩:=x; exact Heap.lt_size e
 | ins C dx fs=>obtain ⟨_,_,_,e,_⟩:=x; exact Heap.lt_size e
 | own y=>obtain ⟨_,e⟩:=x; exact Heap.lt_size e
 | xd fs=>obtain ⟨_,⟨_,_,_,e,_⟩,_⟩:=x; exact Heap.lt_size e
 | rng lo hi=>obtain ⟨_,_,_,e⟩:=x; exact Heap.lt_size e
 | frz ob u=>obtain ⟨e,_⟩:=x; exact Heap.lt_size e
 | tbl ps=>exact Heap.lt_size (show h.get? a=some _ from x)
 | met f y=>exact Heap.lt_size (show h.get? a=some _ from x)
 | ext φ=>obtain ⟨_,⟨_,e⟩,_⟩:=x; exact Heap.lt_size e
theorem Paired.mapP {α β : Type} {F G : α→β→Prop} : ∀ {l₁ : List α} {l₂ : List β},Paired F l₁ l₂→(∀ a b,F a b→G a b)→Paired G l₁ l₂
 | _,_,.nil,_=>.nil
 | _,_,.cons r t,f=>.cons (f _ _ r) (Paired.mapP t f)
theorem ObjOk.stay (x:ObjOk P w H h a o) (k : ∀ b u,(b=a∨H b=some (.own a))→h.get? b=some u→h'.get? b=some u)
  (ho : ∀ b,H b=some (.own a)→H' b=some (.own a)) (ht : ∀ b xs,H b=some (.tup xs)→H' b=some (.tup xs)) : ObjOk P w H' h' a o:=by
 induction o with
 | lst xs=>obtain ⟨z,its,n,r,e⟩:=x; exact ⟨z,its,n,r,k _ _ (.inl rfl) e⟩
 | tup xs=>obtain ⟨z,its,r,ob,e,c⟩:=x; exact ⟨z,its,r,ob,k _ _ (.inl rfl) e,c⟩
 | dK kvs=>obtain ⟨z,y,vs,r,ob,es,ep,e,c⟩:=x; exact ⟨z,y,vs,r,ob,es,ep,k _ _ (.inl rfl) e,c⟩
 | dT kvs =>
  obtain ⟨z,y,xs,r,ob,es,ep,e,c⟩:=x
  exact ⟨z,y,xs,Paired.mapP r fun p q z=>⟨z.1,ht _ _ z.2.1,z.2.2⟩,ob,es,ep,k _ _ (.inl rfl) e,c⟩
 | set S n=>obtain ⟨ob,es,ep,t,e,c⟩:=x; exact ⟨ob,es,ep,t,k _ _ (.inl rfl) e,c⟩
 | ins C dx fs =>
  obtain ⟨d,z,ne,e,mA,⟨od,es,ep,e2,c⟩,r⟩:=x
  exact ⟨ho _ d,z,ne,k _ _ (.inl rfl) e,mA,⟨od,es,ep,k _ _ (.inr d) e2,c⟩,r⟩
 | own y=>obtain ⟨ob,e⟩:=x; exact ⟨ob,k _ _ (.inl rfl) e⟩
 | xd fs=>obtain ⟨mA,⟨od,es,ep,e,c⟩,r⟩:=x; exact ⟨mA,⟨od,es,ep,k _ _ (.inl rfl) e,c⟩,r⟩
 | rng lo hi=>obtain ⟨t,u,v,e⟩:=x; exact ⟨t,u,v,k _ _ (.inl rfl) e⟩
 | frz ob u ih=>obtain ⟨e,q⟩:=x; exact ⟨k _ _ (.inl rfl) e,ih q⟩
 | tbl ps =>
  have e:h.get? a=some { cls:=.none,data:=.fields ps }:=x
  show h'.get? a=some { cls:=.none,data:=.fields ps }
  exact k a _ (.inl rfl) e
 | met f y =>
  have e:h.get? a=some (PySem.W.methodObj (.ref f) (.ref y)):=x
  show h'.get? a=some (PySem.W.methodObj (.ref f) (.ref y))
  exact k a _ (.inl rfl) e
 | ext φ=>obtain ⟨p,⟨o,e⟩,st⟩:=x; exact ⟨st _ _ p fun o q=>k _ _ (.inl rfl) q,⟨o,k _ _ (.inl rfl) e⟩,st⟩
theorem HOk.lt (x:HOk P w H h) (e:H a=some o) : a<h.objs.size:=(x a o e).lt
theorem HOk.fresh (x:HOk P w H h) (e:h.objs.size≤a) : H a=none:=by
 cases q:H a with
 | none=>rfl
 | some u=>exact absurd (Nat.lt_of_lt_of_le (x.lt q) e) (Nat.lt_irrefl _)
theorem HOk.kept (x:HOk P w H h) (k : ∀ b u,h.get? b=some u→h'.get? b=some u) : HOk P w H h':=fun a o e =>
 (x a o e).stay (fun b u _ q=>k b u q) (fun _ q=>q) fun _ _ q=>q
theorem HOk.laid (x:HOk P w H h) (k : ∀ b u,h.get? b=some u→h'.get? b=some u) (hp:h.objs.size≤a) (new:ObjOk P w (upd H a o) h' a o) : HOk P w (upd H a o) h':=fun b u e=>by
 have hn:=x.fresh hp
 by_cases hb:b=a
 ·subst hb; rw [upd_same] at e; cases e; exact new
 ·rw [upd_ne hb] at e
  exact (x b u e).stay (fun c v _ q=>k c v q) (fun c q=>by rw [upd_ne (ne_of_none q hn)]; exact q) fun c xs q=>by rw [upd_ne (ne_of_none q hn)]; exact q
end
def Rd (H:Hp) (a:Addr) (u:HO) : Prop:=H a=some u∨∃ o,H a=some (.frz o u)
theorem Rd.ok {P:Program} {w:World} {H:Hp} {h:Heap} {a:Addr} {u:HO} (r:Rd H a u) (x:HOk P w H h) : ObjOk P w H h a u:=by
 rcases r with r | ⟨o,r⟩
 ·exact x a u r
 ·obtain ⟨_,q⟩:=x a _ r
  exact q
def Mut:Option HO→Prop
 | some (.lst _)=>True
 | some (.dK _)=>True
 | some (.dT _)=>True
 | some (.set _ _)=>True
 | some (.ins _ _ _)=>True
 | some (.ext _)=>True
 | _=>False
section
variable {P:Program} {w:World} {H:Hp} {h h':Heap} {x e:Addr} {o':HO}
theorem HOk.write (ok:HOk P w H h) (mu:Mut (H x)) (he:e=x∨H e=some (.own x)) (k : ∀ b u,b≠e→h.get? b=some u→h'.get? b=some u) (heo : ∃ u,h'.get? e=some u)
  (new:ObjOk P w (upd H x o') h' x o') : HOk P w (upd H x o') h':=fun b u q=>by
 have nown : ∀ c y,H c=some (.own y)→c≠x:=fun c y r z=>by subst z; rw [r] at mu; exact mu
 have ntup : ∀ c xs,H c=some (.tup xs)→c≠x:=fun c xs r z=>by subst z; rw [r] at mu; exact mu
 by_cases hb:b=x
 ·subst hb; rw [upd_same] at q; cases q; exact new
 ·rw [upd_ne hb] at q
  by_cases hbe:b=e
  ·have q':H b=some (.own x):=by
    rcases he with z | z
    ·exact absurd (hbe.trans z) hb
    ·rw [hbe]; exact z
   rw [q] at q'; cases q'
   obtain ⟨v,hv⟩:=heo
   exact ⟨v,by rw [hbe]; exact hv⟩
  ·refine (ok b u q).stay (fun c v hc r=>k c v ?_ r) (fun c r=>by rw [upd_ne (nown c b r)]; exact r) fun c xs r=>by rw [upd_ne (ntup c xs r)]; exact r
   rcases hc with rfl | hc
   ·exact hbe
   ·rintro rfl
    rcases he with z | z
    ·exact nown c b hc z
    ·rw [hc] at z; cases z; exact hb rfl
end
structure Un (fs ex:List Addr) (H H':Hp) (h h':Heap) : Prop where
 keep : ∀ b o,h.get? b=some o→H b=none→b∉fs→b∉ex→h'.get? b=some o
 slot : ∀ b o,h.get? b=some o→H b=none→b∈fs→b∉ex→∃ sl,h'.get? b=some { o with slots:=sl }
 free : ∀ b o,h.get? b=some o→H b=none→b∉ex→H' b=none
 there : ∀ b o,h.get? b=some o→b∉ex→∃ o',h'.get? b=some o'
 tups : ∀ b xs,H b=some (.tup xs)→H' b=some (.tup xs)
 frzs : ∀ b o u,H b=some (.frz o u)→H' b=some (.frz o u)
 tbls : ∀ b ps,H b=some (.tbl ps)→∃ more,H' b=some (.tbl (ps++more))
section
variable {fs fs' ex ex':List Addr} {H H1 H2:Hp} {h h1 h2 h':Heap} {a x e:Addr} {o:HO}
theorem Un.any (u:Un fs ex H H1 h h1) {b:Addr} {ob:Obj} (q:h.get? b=some ob) (n:H b=none) (hx:b∉ex) : ∃ sl,h1.get? b=some { ob with slots:=sl }:=by
 by_cases hb:b∈fs
 ·exact u.slot b ob q n hb hx
 ·exact ⟨ob.slots,u.keep b ob q n hb hx⟩
theorem Un.kept (k : ∀ b u,h.get? b=some u→h'.get? b=some u) : Un fs ex H H h h' :=
 ⟨fun b ob q _ _ _=>k b ob q,fun b ob q _ _ _=>⟨ob.slots,k b ob q⟩,fun _ _ _ n _=>n,fun b ob q _=>⟨ob,k b ob q⟩,fun _ _ q=>q,fun _ _ _ q=>q,fun _ ps q=>⟨#[],by rw [q]; simp⟩⟩
theorem Un.refl:Un fs ex H H h h:=Un.kept fun _ _ q=>q
theorem Un.laid (k : ∀ b u,h.get? b=some u→h'.get? b=some u) (hp:h.objs.size≤a) (hn:H a=none) : Un fs ex H (upd H a o) h h' where
 keep:=fun b u q _ _ _=>k b u q
 slot:=fun b u q _ _ _=>⟨u.slots,k b u q⟩
 free:=fun b u q n _=>by rw [upd_ne (Nat.ne_of_lt (Nat.lt_of_lt_of_le (Heap.lt_size q) hp))]; exact n
 there:=fun b u q _=>⟨u,k b u q⟩
 tups:=fun b xs q=>by rw [upd_ne (ne_of_none q hn)]; exact q
 frzs:=fun b u xs q=>by rw [upd_ne (ne_of_none q hn)]; exact q
 tbls:=fun b ps q=>⟨#[],by rw [upd_ne (ne_of_none q hn),q]; simp⟩
theorem Un.write (mu:Mut (H x)) (he:e=x∨H e=some (.own x)) (k : ∀ b u,b≠e→h.get? b=some u→h'.get? b=some u) (heo : ∃ u,h'.get? e=some u) : Un fs ex H (upd H x o) h h':=by
 have hx : ∀ b,H b=none→b≠x:=fun b n z=>by subst z; rw [n] at mu; exact mu
 have hb : ∀ b,H b=none→b≠e:=fun b n z=>by
  subst z
  rcases he with r | r
  ·exact hx b n r
  ·rw [n] at r; cases r
 have hm : ∀ b u,H b=some u→¬ Mut (some u)→b≠x:=fun b u q nm z=>by subst z; rw [q] at mu; exact nm mu
 refine ⟨fun b u q n _ _=>k b u (hb b n) q,fun b u q n _ _=>⟨u.slots,k b u (hb b n) q⟩,fun b u q n _=>by rw [upd_ne (hx b n)]; exact n,fun b u q _=>?_,
  fun b xs q=>by rw [upd_ne (hm b _ q fun z=>z)]; exact q,fun b u xs q=>by rw [upd_ne (hm b _ q fun z=>z)]; exact q,fun b ps q=>⟨#[],by rw [upd_ne (hm b _ q fun z=>z),q]; simp⟩⟩
 by_cases hbe:b=e
 ·subst hbe; exact heo
 ·exact ⟨u,k b u hbe q⟩
end
def trk (h:Heap) (H:Hp) : List Addr:=(List.range h.objs.size).filter fun a=>(H a).isSome
def hidT (h:Heap) (H:Hp) : Heap:=PySem.W.hideAll h (trk h H)
theorem hidT_size (h:Heap) (H:Hp) : (hidT h H).objs.size=h.objs.size:=PySem.W.hideAll_size _ _
theorem hidT_get {h:Heap} {H:Hp} {b:Addr} {o:Obj} (e:h.get? b=some o) (n:H b=none) : (hidT h H).get? b=some o :=
 PySem.W.hideAll_get _ e fun hm=>by
  have q:(H b).isSome=true:=(List.mem_filter.mp hm).2
  rw [n] at q; simp at q
theorem of_hidT {h:Heap} {H:Hp} {b:Addr} {o:Obj} (e:(hidT h H).get? b=some o) : h.get? b=some o∧H b=none:=by
 have e':h.get? b=some o:=PySem.W.of_hideAll (trk h H) e
 refine ⟨e',?_⟩
 cases q:H b with
 | none=>rfl
 | some x =>
  have hm:b∈trk h H:=List.mem_filter.mpr ⟨List.mem_range.mpr (Heap.lt_size e'),by simp [q]⟩
  have z:(hidT h H).get? b=none:=PySem.W.hideAll_none (trk h H) hm
  rw [z] at e; cases e
def allNews (g h:Heap) (L:Addr) : List (Addr × Obj):=(List.range h.objs.size).filterMap fun a=>if a=L∨(g.get? a).isSome=true then none else (h.get? a).map fun o=>(a,o)
def rest (g h:Heap) (L d:Addr) : List (Addr × Obj):=(allNews g h L).filter fun p=>decide (p.1≠d)
end L2
namespace L2
open PySem PySem.Spec PyProof.Rows
structure Mod (K:PySem.W.Frag) (mg:Str→Option Value) (base:Heap) : Prop where
 kin:K.In base
 glob:base.Ns mainGlobals mg
 blt : ∃ mb,base.Ns builtinsNs mb∧∀ x:Str,x ≠ "__name__" → mb x=bootBuiltins x
 nolimit:base.NoLimit
structure Cx where
 prog:Program
 w:World
 K:PySem.W.Frag
 mg:Str→Option Value
 base:Heap
 A:Around
 N:List Str
 s₀ : Shared
 H₀ : Hp
 env:Env
 outer:List Env
 stack:List Env
 ex:List Addr
 fn:Str→Bool
 calm:Bool
 pn:List (Addr × Obj)
 xe:Value→Shared→Prop
def frs (l:List Env) : List Addr:=l.filterMap (·.frame)
abbrev Cx.fs (X:Cx) : List Addr:=frs X.outer
def Vis (sc:Scope) (x:Str) : Prop:=sc.names.lookup x=some .local∨sc.names.lookup x=some .cell∨sc.names.lookup x=some .free
def Loc (sc:Scope) (x:Str) : Prop:=sc.names.lookup x=some .local∨sc.names.lookup x=some .cell
def Look (env:Env) (h:Heap) (m:Str→Option Value) (x:Str) (u:Value) : Prop :=
 (env.kindOf x=some .local∧m x=some u)∨((env.kindOf x=some .cell∨env.kindOf x=some .free)∧∃ c,env.cells.lookup x=some c∧h.IsCell c (some u))
structure Cx.Ok (X:Cx) : Prop where
 mod:Mod X.K X.mg X.base
 kind:X.env.scope.kind=.function
 glob:X.env.globals=mainGlobals
 blt:X.env.builtins=builtinsNs
 above:X.s₀.heap.objs.size≤X.env.locals
 inj : ∀ x y c,X.env.cells.lookup x=some c→X.env.cells.lookup y=some c→x=y
 has : ∀ x,(X.env.kindOf x=some .cell∨X.env.kindOf x=some .free)→∃ c,X.env.cells.lookup x=some c
 cab : ∀ x c,X.fn x=true→X.env.cells.lookup x=some c→X.s₀.heap.objs.size≤c
 hd:X.calm=true→X.A.handled=none
 frames:X.A.frames=some X.stack
 stk:X.stack=X.outer∨(X.stack=X.env :: X.outer∧X.env.frame=some X.env.locals)
 exf : ∀ b∈X.ex,b≠X.env.locals∧∀ x c,X.env.cells.lookup x=some c→c≠b
 bs : ∀ b o,X.base.get? b=some o→X.s₀.heap.get? b=some o∧X.H₀ b=none
 bsz:X.base.objs.size≤X.s₀.heap.objs.size
 noex : ∀ b o,X.base.get? b=some o→b∉X.ex
 exfs : ∀ b∈X.ex,b∉X.fs
 funs:X.s₀.heap.FunFrames X.base X.outer
 frf : ∀ b∈X.fs,X.H₀ b=none
structure Inv (X:Cx) (pins:List (Addr × Obj)) (σ : List (Option V)) (H:Hp) (s:Shared) : Prop where
 ok:X.Ok
 os:s.os=X.s₀.os
 bare:AllBare s.gens
 base:Un X.fs X.ex X.H₀ H X.s₀.heap s.heap
 loc : ∃ m,s.heap.Ns X.env.locals m∧∀ (i:Nat) (x:Str) (v:V),X.N[i]?=some x→σ[i]?=some (some v)→Vis X.env.scope x→∃ u,RelV v u∧Look X.env s.heap m x u
 cell : ∀ x c,X.env.cells.lookup x=some c→∃ v,s.heap.IsCell c v
 free:H X.env.locals=none
 freeC : ∀ x c,X.env.cells.lookup x=some c→H c=none
 pin : ∀ p∈X.pn++pins,s.heap.get? p.1=some p.2∧H p.1=none∧p.1≠X.env.locals∧p.1∉X.fs∧∀ v,p.2.data≠.cell v
 hok:HOk X.prog X.w H s.heap
 len : σ.length=X.N.length
section
variable {X:Cx} {pins:List (Addr × Obj)} {σ : List (Option V)} {H H':Hp} {s:Shared} {h':Heap}
theorem Cx.Ok.nofr (ok:X.Ok) {b:Addr} {o:Obj} (e:X.base.get? b=some o) : b∉X.fs:=fun hb=>by
 have:=(ok.funs.mem hb).1
 rw [e] at this; cases this
theorem Inv.bs (I:Inv X pins σ H s) : ∀ b o,X.base.get? b=some o→s.heap.get? b=some o∧H b=none:=fun b o e =>
 ⟨I.base.keep b o (I.ok.bs b o e).1 (I.ok.bs b o e).2 (I.ok.nofr e) (I.ok.noex b o e),I.base.free b o (I.ok.bs b o e).1 (I.ok.bs b o e).2 (I.ok.noex b o e)⟩
theorem Inv.bk (I:Inv X pins σ H s) : ∀ b o,X.base.get? b=some o→s.heap.get? b=some o:=fun b o e=>(I.bs b o e).1
theorem Inv.mod (I:Inv X pins σ H s) : Mod X.K X.mg X.base:=I.ok.mod
theorem Inv.kIn (I:Inv X pins σ H s) : X.K.In s.heap:=I.ok.mod.kin.keeps I.bk
theorem Inv.lt (I:Inv X pins σ H s) : X.env.locals<s.heap.objs.size:=let ⟨_,hn,_⟩:=I.loc; hn.lt
theorem Inv.sz (I:Inv X pins σ H s) : X.s₀.heap.objs.size≤s.heap.objs.size:=Nat.le_trans I.ok.above (Nat.le_of_lt I.lt)
theorem Inv.nofs (I:Inv X pins σ H s) {a:Addr} (h:s.heap.objs.size≤a) : a∉X.fs:=fun hb=>by
 obtain ⟨_,o,ho,_⟩:=I.ok.funs.mem hb
 exact absurd (Nat.lt_of_lt_of_le (Heap.lt_size ho) (Nat.le_trans I.sz h)) (Nat.lt_irrefl _)
theorem Inv.cne (I:Inv X pins σ H s) : ∀ x c,X.env.cells.lookup x=some c→c≠X.env.locals:=fun x c e z=>by
 obtain ⟨v,o,ho,hd⟩:=I.cell x c e
 obtain ⟨m,⟨o',es,ep,ho',hd',_⟩,_⟩:=I.loc
 rw [z,ho'] at ho; cases ho; rw [hd'] at hd; cases hd
theorem Inv.funs (I:Inv X pins σ H s) : s.heap.FunFrames X.base X.outer:=by
 have all : ∀ (l:List Env),(∀ b∈frs l,b∈X.fs)→X.s₀.heap.FunFrames X.base l→s.heap.FunFrames X.base l:=by
  intro l
  induction l with
  | nil=>intro _ _; trivial
  | cons env r ih =>
   intro hs hl
   obtain ⟨hk,⟨L,o,hf,hn,ho,hd⟩,hr⟩:=hl
   have hL:L∈X.fs:=hs L (by unfold frs; rw [List.filterMap_cons,hf]; exact List.mem_cons_self)
   obtain ⟨sl,e⟩:=I.base.slot L o ho (I.ok.frf L hL) hL fun z=>I.ok.exfs L z hL
   exact ⟨hk,⟨L,_,hf,hn,e,hd⟩,ih (fun b hb=>hs b (by unfold frs; rw [List.filterMap_cons,hf]; exact List.mem_cons_of_mem _ hb)) hr⟩
 exact all X.outer (fun _ hb=>hb) I.ok.funs
theorem Inv.stack (I:Inv X pins σ H s) : s.heap.FunFrames X.base X.stack:=by
 rcases I.ok.stk with e | ⟨e,hf⟩
 ·rw [e]; exact I.funs
 ·rw [e]
  obtain ⟨m,hn,_⟩:=I.loc
  refine .cons (by rw [I.ok.kind]; decide) hf hn ?_ I.funs
  exact Heap.get?_none_of_le (Nat.le_trans I.ok.bsz I.ok.above)
theorem Inv.stkSub (I:Inv X pins σ H s) : ∀ b∈frs X.stack,b∈X.env.locals :: X.fs:=fun b hb=>by
 rcases I.ok.stk with e | ⟨e,hf⟩
 ·rw [e] at hb; exact List.mem_cons_of_mem _ hb
 ·rw [e] at hb
  unfold frs at hb
  rw [List.filterMap_cons,hf] at hb
  exact hb
theorem Inv.stkFree (I:Inv X pins σ H s) : ∀ b∈frs X.stack,H b=none:=fun b hb=>by
 rcases List.mem_cons.mp (I.stkSub b hb) with e | hb
 ·rw [e]; exact I.free
 ·obtain ⟨_,o,ho,_⟩:=I.ok.funs.mem hb
  exact I.base.free b o ho (I.ok.frf b hb) fun z=>I.ok.exfs b z hb
theorem Inv.step {g':Array GenState} {t':Nat} {d':Drawn} {ch:List Addr} (I:Inv X pins σ H s)
  (hch : ∀ b∈ch,(b∈X.ex∨X.s₀.heap.objs.size≤b)∧b≠X.env.locals∧(∀ x c,X.env.cells.lookup x=some c→c≠b)∧∀ p∈X.pn++pins,p.1≠b)
  (keep : ∀ b o,b≠X.env.locals→b∉X.fs→b∉ch→s.heap.get? b=some o→H b=none→h'.get? b=some o)
  (slot : ∀ b o,b≠X.env.locals→b∈X.fs→b∉ch→s.heap.get? b=some o→H b=none→∃ sl,h'.get? b=some { o with slots:=sl }) (free : ∀ b o,b∉ch→s.heap.get? b=some o→H b=none→H' b=none)
  (there : ∀ b o,b∉ch→s.heap.get? b=some o→∃ o',h'.get? b=some o')
  (tups : ∀ b xs,H b=some (.tup xs)→H' b=some (.tup xs)) (frzs : ∀ b o u,H b=some (.frz o u)→H' b=some (.frz o u)) (tbls : ∀ b ps,H b=some (.tbl ps)→∃ more,H' b=some (.tbl (ps++more)))
  (ns : ∀ m,s.heap.Ns X.env.locals m→h'.Ns X.env.locals m) (hok:HOk X.prog X.w H' h') (hg:AllBare g') :
  Inv X pins σ H' { s with heap:=h',gens:=g',drawn:=d',toks:=t' }:=by
 have neL : ∀ b o,X.s₀.heap.get? b=some o→b≠X.env.locals:=fun b o e=>Nat.ne_of_lt (Nat.lt_of_lt_of_le (Heap.lt_size e) I.ok.above)
 have neC : ∀ b o,X.s₀.heap.get? b=some o→b∉X.ex→b∉ch:=fun b o e hx hb=>by
  rcases (hch b hb).1 with z | z
  ·exact hx z
  ·exact absurd (Nat.lt_of_lt_of_le (Heap.lt_size e) z) (Nat.lt_irrefl _)
 have cellK : ∀ x c,X.env.cells.lookup x=some c→∀ v,s.heap.IsCell c v→h'.IsCell c v:=fun x c e v ⟨o,ho,hd⟩=>by
  have nch:c∉ch:=fun z=>(hch c z).2.2.1 x c e rfl
  by_cases hc:c∈X.fs
  ·obtain ⟨sl,q⟩:=slot c o (I.cne x c e) hc nch ho (I.freeC x c e)
   exact ⟨_,q,hd⟩
  ·exact ⟨o,keep c o (I.cne x c e) hc nch ho (I.freeC x c e),hd⟩
 refine ⟨I.ok,I.os,hg,⟨fun b o e n hb hx=>?_,fun b o e n hb hx=>?_,fun b o e n hx=>?_,fun b o e hx=>?_,fun b xs e=>tups b xs (I.base.tups b xs e),fun b o xs e=>frzs b o xs (I.base.frzs b o xs e),fun b ps e=>?_⟩,?_,fun x c e=>?_,?_,fun x c e=>?_,fun p hp=>?_,hok,I.len⟩
 ·exact keep b o (neL b o e) hb (neC b o e hx) (I.base.keep b o e n hb hx) (I.base.free b o e n hx)
 ·obtain ⟨sl,e1⟩:=I.base.slot b o e n hb hx
  obtain ⟨sl',e2⟩:=slot b _ (neL b o e) hb (neC b o e hx) e1 (I.base.free b o e n hx)
  exact ⟨sl',e2⟩
 ·obtain ⟨o',e1⟩:=I.base.there b o e hx
  exact free b o' (neC b o e hx) e1 (I.base.free b o e n hx)
 ·obtain ⟨o',e1⟩:=I.base.there b o e hx
  exact there b o' (neC b o e hx) e1
 ·obtain ⟨m1,e1⟩:=I.base.tbls b ps e
  obtain ⟨m2,e2⟩:=tbls b _ e1
  exact ⟨m1++m2,by rw [e2,Array.append_assoc]⟩
 ·obtain ⟨m,hn,hl⟩:=I.loc
  refine ⟨m,ns m hn,fun i x v e1 e2 e3=>?_⟩
  obtain ⟨u,r,l⟩:=hl i x v e1 e2 e3
  refine ⟨u,r,?_⟩
  rcases l with l | ⟨k,c,e,z⟩
  ·exact .inl l
  ·exact .inr ⟨k,c,e,cellK x c e _ z⟩
 ·obtain ⟨v,z⟩:=I.cell x c e
  exact ⟨v,cellK x c e v z⟩
 ·obtain ⟨m,⟨o,_,_,ho,_⟩,_⟩:=I.loc
  exact free _ o (fun z=>(hch _ z).2.1 rfl) ho I.free
 ·obtain ⟨v,o,ho,hd⟩:=I.cell x c e
  exact free c o (fun z=>(hch c z).2.2.1 x c e rfl) ho (I.freeC x c e)
 ·obtain ⟨e,n,ne,nf,d⟩:=I.pin p hp
  have nch:p.1∉ch:=fun z=>(hch p.1 z).2.2.2 p hp rfl
  exact ⟨keep p.1 p.2 ne nf nch e n,free p.1 p.2 nch e n,ne,nf,d⟩
theorem Inv.un {t':Nat} (I:Inv X pins σ H s) (u:Un X.fs [] H H' s.heap h') (hok:HOk X.prog X.w H' h') : Inv X pins σ H' { s with heap:=h',toks:=t' }:=by
 obtain ⟨m,⟨o,es,ep,ho,r⟩,_⟩:=id I.loc
 obtain ⟨sl,hL⟩:=u.any ho I.free (by simp)
 exact I.step (g':=s.gens) (d':=s.drawn) (ch:=[]) (fun _ z=>nomatch z) (fun b o _ hb _ e n=>u.keep b o e n hb (by simp)) (fun b o _ hb _ e n=>u.slot b o e n hb (by simp)) (fun b o _ e n=>u.free b o e n (by simp)) (fun b o _ e=>u.there b o e (by simp)) u.tups u.frzs u.tbls (fun m' hm=>by
  obtain ⟨o',es',ep',ho',r'⟩:=hm
  rw [ho] at ho'; cases ho'
  exact ⟨_,es',ep',hL,r'⟩) hok I.bare
theorem Inv.call {g':Array GenState} {t':Nat} {d':Drawn} {ch:List Addr} (I:Inv X pins σ H s) (u:Un (frs X.stack) ch H H' s.heap h') (hok:HOk X.prog X.w H' h') (hg:AllBare g')
  (hch : ∀ b∈ch,(b∈X.ex∨X.s₀.heap.objs.size≤b)∧b≠X.env.locals∧(∀ x c,X.env.cells.lookup x=some c→c≠b)∧∀ p∈X.pn++pins,p.1≠b) :
  Inv X pins σ H' { s with heap:=h',gens:=g',drawn:=d',toks:=t' }:=by
 obtain ⟨m,⟨o,es,ep,ho,r⟩,_⟩:=id I.loc
 obtain ⟨sl,hL⟩:=u.any ho I.free fun z=>(hch _ z).2.1 rfl
 exact I.step (ch:=ch) hch (fun b o hL hb hc e n=>u.keep b o e n (fun z=>(List.mem_cons.mp (I.stkSub b z)).elim hL hb) hc) (fun b o _ _ hc e n=>u.any e n hc) (fun b o hc e n=>u.free b o e n hc) (fun b o hc e=>u.there b o e hc) u.tups u.frzs u.tbls (fun m' hm=>by
  obtain ⟨o',es',ep',ho',r'⟩:=hm
  rw [ho] at ho'; cases ho'
  exact ⟨_,es',ep',hL,r'⟩) hok hg
theorem Inv.turned {t':Nat} {it:Addr} (I:Inv X pins σ H s) (k : ∀ b o,b≠it→s.heap.get? b=some o→h'.get? b=some o) (hn:H it=none) (hL:it≠X.env.locals)
  (h1:it∈X.ex∨X.s₀.heap.objs.size≤it) (h2 : ∀ x c,X.env.cells.lookup x=some c→c≠it) (h3 : ∀ p∈X.pn++pins,p.1≠it) : Inv X pins σ H { s with heap:=h',toks:=t' }:=by
 have nit : ∀ b u,H b=some u→b≠it:=fun b u e z=>by rw [z,hn] at e; cases e
 refine I.step (g':=s.gens) (d':=s.drawn) (ch:=[it]) (fun b hb=>?_) (fun b o _ _ hc e _=>k b o (fun z=>hc (by simp [z])) e) (fun b o _ _ hc e _=>⟨o.slots,k b o (fun z=>hc (by simp [z])) e⟩) (fun _ _ _ _ n=>n)
  (fun b o hc e=>⟨o,k b o (fun z=>hc (by simp [z])) e⟩) (fun _ _ e=>e) (fun _ _ _ e=>e) (fun b ps e=>⟨#[],by rw [e]; simp⟩) (fun m hm=>?_) (fun b u e=>?_) I.bare
 ·have e:b=it:=by simpa using hb
  subst e
  exact ⟨h1,hL,h2,h3⟩
 ·obtain ⟨o,es,ep,ho,r⟩:=hm
  exact ⟨o,es,ep,k _ o (Ne.symm hL) ho,r⟩
 ·refine (I.hok b u e).stay (fun c v hc q=>k c v ?_ q) (fun _ q=>q) fun _ _ q=>q
  rcases hc with z | z
  ·rw [z]; exact nit b u e
  ·exact nit c _ z
theorem Inv.tok (I:Inv X pins σ H s) (t:Nat) : Inv X pins σ H { s with toks:=t }:=I.un (h':=s.heap) (t':=t) Un.refl I.hok
theorem Inv.kept {t':Nat} (I:Inv X pins σ H s) (k : ∀ b u,s.heap.get? b=some u→h'.get? b=some u) : Inv X pins σ H { s with heap:=h',toks:=t' }:=I.un (Un.kept k) (I.hok.kept k)
theorem Inv.laid {a:Addr} {o:HO} {t':Nat} (I:Inv X pins σ H s) (k : ∀ b u,s.heap.get? b=some u→h'.get? b=some u) (hp:s.heap.objs.size≤a) (new:ObjOk X.prog X.w (upd H a o) h' a o) :
  Inv X pins σ (upd H a o) { s with heap:=h',toks:=t' }:=I.un (Un.laid k hp (I.hok.fresh hp)) (I.hok.laid k hp new)
theorem Inv.write {x e:Addr} {o:HO} {t':Nat} (I:Inv X pins σ H s) (mu:Mut (H x)) (he:e=x∨H e=some (.own x)) (k : ∀ b u,b≠e→s.heap.get? b=some u→h'.get? b=some u) (heo : ∃ u,h'.get? e=some u)
  (new:ObjOk X.prog X.w (upd H x o) h' x o) : Inv X pins σ (upd H x o) { s with heap:=h',toks:=t' }:=I.un (Un.write mu he k heo) (I.hok.write mu he k heo new)
theorem Inv.pins_of {pins':List (Addr × Obj)} (I:Inv X pins σ H s) (h : ∀ p∈pins',s.heap.get? p.1=some p.2∧H p.1=none∧p.1≠X.env.locals∧p.1∉X.fs∧∀ v,p.2.data≠.cell v) : Inv X pins' σ H s :=
 ⟨I.ok,I.os,I.bare,I.base,I.loc,I.cell,I.free,I.freeC,fun p hp=>(List.mem_append.mp hp).elim (fun z=>I.pin p (List.mem_append_left _ z)) (h p),I.hok,I.len⟩
theorem nodup_ix {N:List Str} (hN:N.Nodup) {i j:Nat} {x:Str} (a:N[i]?=some x) (b:N[j]?=some x) : i=j:=by
 obtain ⟨h1,e1⟩:=List.getElem?_eq_some_iff.mp a
 obtain ⟨h2,e2⟩:=List.getElem?_eq_some_iff.mp b
 exact (List.getElem_inj hN).mp (e1.trans e2.symm)
theorem store_ok2 {M:Model} {A:Around} {E:Value→Shared→Prop} {i:Nat} {x:Str} {v:V} {u:Value} {Q:Unit→Shared→Prop} (I:Inv X pins σ H s) (hN:X.N.Nodup) (hi:X.N[i]?=some x) (hx:Loc X.env.scope x) (r:RelV v u)
  (h : ∀ s',Inv X pins (σ.set i (some v)) H s'→(∃ a,Heap.SameBut a s.heap s'.heap∧(a=X.env.locals∨X.env.cells.lookup x=some a))→Q () s') (hf:X.fn x=true∨X.env.scope.names.lookup x=some .local:=by first | exact .inl rfl | exact .inr rfl | assumption) : wpAny M A (storeName X.env x u) Q E s:=by
 obtain ⟨m,hn,hl⟩:=id I.loc
 have hcls:(X.env.scope.kind == .class || (X.env.scope.kind == .module && X.env.locals != X.env.globals))=false:=by rw [I.ok.kind]; rfl
 have hiσ : i<σ.length:=by rw [I.len]; exact (List.getElem?_eq_some_iff.mp hi).1
 have cne:=I.cne
 have tracked : ∀ {a:Addr} {h':Heap},(∃ o,s.heap.get? a=some o∧H a=none)→Heap.SameBut a s.heap h'→HOk X.prog X.w H h':=fun {a h'} ha hs b ob e=>by
  obtain ⟨_,_,hfree⟩:=ha
  refine (I.hok b ob e).stay (fun c w' hc q=>(hs.2 c ?_).trans q) (fun _ q=>q) fun _ _ q=>q
  rintro rfl
  rcases hc with rfl | hc
  ·rw [hfree] at e; cases e
  ·rw [hfree] at hc; cases hc
 rcases hx with hk | hk
 ·refine wpAny_storeName_local hk hn (fun h' hn' hs=>?_) hcls
  obtain ⟨oL,_,_,hoL,_⟩:=id hn
  refine h _ ⟨I.ok,I.os,I.bare,⟨fun b o e n hb hx=>?_,fun b o e n hb hx=>?_,I.base.free,fun b o e hx=>?_,I.base.tups,I.base.frzs,I.base.tbls⟩,⟨_,hn',fun j y v' e1 e2 e3=>?_⟩,fun y c e=>?_,I.free,I.freeC,fun p hp=>?_,tracked ⟨oL,hoL,I.free⟩ hs,by simpa using I.len⟩ ⟨_,hs,.inl rfl⟩
  ·exact (hs.2 b (Nat.ne_of_lt (Nat.lt_of_lt_of_le (Heap.lt_size e) I.ok.above))).trans (I.base.keep b o e n hb hx)
  ·obtain ⟨sl,e1⟩:=I.base.slot b o e n hb hx
   exact ⟨sl,(hs.2 b (Nat.ne_of_lt (Nat.lt_of_lt_of_le (Heap.lt_size e) I.ok.above))).trans e1⟩
  ·obtain ⟨o',e1⟩:=I.base.there b o e hx
   exact ⟨o',(hs.2 b (Nat.ne_of_lt (Nat.lt_of_lt_of_le (Heap.lt_size e) I.ok.above))).trans e1⟩
  ·by_cases hj:j=i
   ·subst hj
    rw [hi] at e1; cases e1
    rw [List.getElem?_set_self hiσ] at e2
    cases e2
    exact ⟨u,r,.inl ⟨hk,by simp⟩⟩
   ·rw [List.getElem?_set_ne (Ne.symm hj)] at e2
    obtain ⟨u',r',q⟩:=hl j y v' e1 e2 e3
    refine ⟨u',r',?_⟩
    rcases q with ⟨k,e⟩ | ⟨k,c,e,z⟩
    ·refine .inl ⟨k,?_⟩
     have:y≠x:=fun e=>hj (nodup_ix hN e1 (e ▸ hi))
     simp [this,e]
    ·exact .inr ⟨k,c,e,z.sameBut hs (cne y c e)⟩
  ·obtain ⟨w',z⟩:=I.cell y c e
   exact ⟨w',z.sameBut hs (cne y c e)⟩
  ·obtain ⟨e,n,ne,nf,d⟩:=I.pin p hp
   exact ⟨(hs.2 p.1 ne).trans e,n,ne,nf,d⟩
 ·have hfn:X.fn x=true:=by
   rcases hf with z | z
   ·exact z
   ·rw [z] at hk; cases hk
  obtain ⟨c,hc⟩:=I.ok.has x (.inl hk)
  obtain ⟨w',z⟩:=I.cell x c hc
  refine wpAny_storeName_cell I.ok.kind hk hc z (fun h' hc' hs=>?_)
  obtain ⟨oc,hoc,hocd⟩:=id z
  refine h { s with heap:=h' } ⟨I.ok,I.os,I.bare,⟨fun b o e n hb hx=>?_,fun b o e n hb hx=>?_,I.base.free,fun b o e hx=>?_,I.base.tups,I.base.frzs,I.base.tbls⟩,⟨m,hn.sameBut hs (Ne.symm (cne x c hc)),fun j y v' e1 e2 e3=>?_⟩,fun y c' e=>?_,I.free,I.freeC,fun p hp=>?_,tracked ⟨oc,hoc,I.freeC x c hc⟩ hs,by simpa using I.len⟩ ⟨c,hs,.inr hc⟩
  ·exact (hs.2 b (Nat.ne_of_lt (Nat.lt_of_lt_of_le (Heap.lt_size e) (I.ok.cab x c hfn hc)))).trans (I.base.keep b o e n hb hx)
  ·obtain ⟨sl,e1⟩:=I.base.slot b o e n hb hx
   exact ⟨sl,(hs.2 b (Nat.ne_of_lt (Nat.lt_of_lt_of_le (Heap.lt_size e) (I.ok.cab x c hfn hc)))).trans e1⟩
  ·obtain ⟨o',e1⟩:=I.base.there b o e hx
   exact ⟨o',(hs.2 b (Nat.ne_of_lt (Nat.lt_of_lt_of_le (Heap.lt_size e) (I.ok.cab x c hfn hc)))).trans e1⟩
  ·by_cases hj:j=i
   ·subst hj
    rw [hi] at e1; cases e1
    rw [List.getElem?_set_self hiσ] at e2
    cases e2
    exact ⟨u,r,.inr ⟨.inl hk,c,hc,hc'⟩⟩
   ·rw [List.getElem?_set_ne (Ne.symm hj)] at e2
    obtain ⟨u',r',q⟩:=hl j y v' e1 e2 e3
    refine ⟨u',r',?_⟩
    rcases q with q | ⟨k,c',e,z'⟩
    ·exact .inl q
    ·refine .inr ⟨k,c',e,z'.sameBut hs ?_⟩
     rintro rfl
     exact hj (nodup_ix hN e1 (I.ok.inj _ _ _ e hc ▸ hi))
  ·by_cases hcc:c'=c
   ·subst hcc; exact ⟨_,hc'⟩
   ·obtain ⟨w2,z2⟩:=I.cell y c' e
    exact ⟨w2,z2.sameBut hs hcc⟩
  ·obtain ⟨e,n,ne,nf,d⟩:=I.pin p hp
   refine ⟨(hs.2 p.1 ?_).trans e,n,ne,nf,d⟩
   intro q
   rw [q,hoc] at e
   have q':oc=p.2:=Option.some.inj e
   exact d w' (by rw [← q']; exact hocd)
theorem store_ok {M:Model} {A:Around} {E:Value→Shared→Prop} {i:Nat} {x:Str} {v:V} {u:Value} {Q:Unit→Shared→Prop} (I:Inv X pins σ H s) (hN:X.N.Nodup) (hi:X.N[i]?=some x) (hx:Loc X.env.scope x) (r:RelV v u)
  (h : ∀ s',Inv X pins (σ.set i (some v)) H s'→Q () s') (hf:X.fn x=true∨X.env.scope.names.lookup x=some .local:=by first | exact .inl rfl | exact .inr rfl | assumption) : wpAny M A (storeName X.env x u) Q E s :=
 store_ok2 I hN hi hx r (fun s' I' _=>h s' I') hf
theorem Inv.call' {s':Shared} {ch:List Addr} (I:Inv X pins σ H s) (ho:s'.os=s.os) (u:Un (frs X.stack) ch H H' s.heap s'.heap) (hok:HOk X.prog X.w H' s'.heap) (hg:AllBare s'.gens)
  (hch : ∀ b∈ch,(b∈X.ex∨X.s₀.heap.objs.size≤b)∧b≠X.env.locals∧(∀ x c,X.env.cells.lookup x=some c→c≠b)∧∀ p∈X.pn++pins,p.1≠b) : Inv X pins σ H' s':=by
 obtain ⟨h',g',d',t',o'⟩:=s'
 have e:o'=s.os:=ho
 subst e
 exact I.call (g':=g') (t':=t') (d':=d') u hok hg hch
end
abbrev XK:=Value→Option Addr→Hp→Prop
abbrev St:=List (Option V)
abbrev VK:=V→Hp→Prop
abbrev TE:=St→Hp→VK→Prop
abbrev TT:=St→Hp→(Bool→Hp→Prop)→Prop
abbrev TA:=St→Hp→(List V→Hp→Prop)→Prop
structure Ends where
 nx:St→Hp→Prop
 rt:VK
 bk:St→Hp→Prop:=fun _ _=>False
 ct:St→Hp→Prop:=fun _ _=>False
abbrev TS:=Ends→St→Hp→Prop
def EP (X:Cx) (pins:List (Addr × Obj)) (σ : St) (Q:VK) (u:Value) (s':Shared) : Prop:=∃ v H',Inv X pins σ H' s'∧RelV v u∧Q v H'
def TP (X:Cx) (pins:List (Addr × Obj)) (σ : St) (Q:Bool→Hp→Prop) (b:Bool) (s':Shared) : Prop:=∃ H',Inv X pins σ H' s'∧Q b H'
def AP (X:Cx) (pins:List (Addr × Obj)) (σ : St) (Q:List V→Hp→Prop) (us:List Value) (s':Shared) : Prop:=∃ vs H',Inv X pins σ H' s'∧Vals vs us∧Q vs H'
def SP (X:Cx) (pins:List (Addr × Obj)) (D:Ends) (f:Flow) (s':Shared) : Prop :=
 match f with
 | .next=>∃ σ' H',Inv X pins σ' H' s'∧D.nx σ' H'
 | .brk=>∃ σ' H',Inv X pins σ' H' s'∧D.bk σ' H'
 | .cont=>∃ σ' H',Inv X pins σ' H' s'∧D.ct σ' H'
 | .ret u=>∃ v σ' H',Inv X pins σ' H' s'∧RelV v u∧D.rt v H'
def PE (X:Cx) (e:Expr) (t:TE) : Prop :=
 ∀ (pins:List (Addr × Obj)) (s:Shared) (σ : St) (H:Hp) (Q:VK),Inv X pins σ H s→t σ H Q→wpAny (model X.prog X.w) X.A (eval e X.env) (EP X pins σ Q) X.xe s
def PT (X:Cx) (e:Expr) (t:TT) : Prop :=
 ∀ (pins:List (Addr × Obj)) (s:Shared) (σ : St) (H:Hp) (Q:Bool→Hp→Prop),Inv X pins σ H s→t σ H Q→wpAny (model X.prog X.w) X.A (isTrue e X.env (eval e X.env)) (TP X pins σ Q) X.xe s
def PW (X:Cx) (e:Expr) (t:TT) : Prop :=
 ∀ (whole:Sem Value) (pins:List (Addr × Obj)) (s:Shared) (σ : St) (H:Hp) (Q:Bool→Hp→Prop),Inv X pins σ H s→t σ H Q→wpAny (model X.prog X.w) X.A (isTrue e X.env whole) (TP X pins σ Q) X.xe s
theorem PW.pt {X:Cx} {e:Expr} {t:TT} (h:PW X e t) : PT X e t:=h _
def PA (X:Cx) (es:List Expr) (t:TA) : Prop :=
 ∀ (pos:Pos) (pins:List (Addr × Obj)) (s:Shared) (σ : St) (H:Hp) (Q:List V→Hp→Prop),Inv X pins σ H s→t σ H Q→wpAny (model X.prog X.w) X.A (spliced (backTo pos (starEach es X.env))) (AP X pins σ Q) X.xe s
def PS (X:Cx) (st:Stmt) (t:TS) : Prop :=
 ∀ (pins:List (Addr × Obj)) (s:Shared) (σ : St) (H:Hp) (D:Ends),Inv X pins σ H s→t D σ H→wpAny (model X.prog X.w) X.A (exec st X.env) (SP X pins D) X.xe s
def PSs (X:Cx) (st:List Stmt) (t:TS) : Prop :=
 ∀ (pins:List (Addr × Obj)) (s:Shared) (σ : St) (H:Hp) (D:Ends),Inv X pins σ H s→t D σ H→wpAny (model X.prog X.w) X.A (execs st X.env) (SP X pins D) X.xe s
theorem thn {α : Type} {t:Sem α} {Q Q' : α→Shared→Prop} {M:Model} {A:Around} {E:Value→Shared→Prop} {s:Shared} (h:wpAny M A t Q E s) (hQ : ∀ a s,Q a s→Q' a s) : wpAny M A t Q' E s:=wpAny_mono h hQ fun _ _ x=>x
end L2
namespace L2
open PySem PySem.Spec PyProof.Rows
section
variable {X:Cx}
theorem bin {a b:Expr} {ta tb:TE} (ha:PE X a ta) (hb:PE X b tb) {pins:List (Addr × Obj)} {s:Shared} {σ : St} {H:Hp} {R:V→V→Hp→Prop} (I:Inv X pins σ H s) (h:ta σ H fun x H1=>tb σ H1 fun y H2=>R x y H2)
  {α : Type} {Q : α→Shared→Prop} {f:Value→Value→Sem α}
  (hf : ∀ v u s2 x y H2,Inv X pins σ H2 s2→RelV x v→RelV y u→R x y H2→wpAny (model X.prog X.w) X.A (f v u) Q X.xe s2) :
  wpAny (model X.prog X.w) X.A (eval a X.env) (fun v s₁=>wpAny (model X.prog X.w) X.A (eval b X.env) (fun u s₂=>wpAny (model X.prog X.w) X.A (f v u) Q X.xe s₂) X.xe s₁) X.xe s:=by
 refine thn (ha pins s σ H _ I h) fun v s1 ⟨x,H1,I1,r1,q1⟩=>?_
 refine thn (hb pins s1 σ H1 _ I1 q1) fun u s2 ⟨y,H2,I2,r2,q2⟩=>?_
 exact hf v u s2 x y H2 I2 r1 r2 q2
def tVar (i:Nat) : TE:=fun σ H Q=>∃ v,σ[i]?=some (some v)∧Q v H
def tC (v:V) : TE:=fun _ H Q=>Q v H
theorem pe_var {i:Nat} {x:Str} {pos:Pos} (hN:X.N[i]?=some x) (hv:Vis X.env.scope x) (hd:(x == ("__debug__" : Str))=false:=by decide) (hcd:(x == ("__classdict__" : Str))=false:=by decide) : PE X (.Name x pos) (tVar i):=by
 intro pins s σ H Q I h
 obtain ⟨v,e,h⟩:=h
 obtain ⟨m,hn,hl⟩:=I.loc
 obtain ⟨u,r,l⟩:=hl i x v hN e hv
 have fin:EP X pins σ Q u s:=⟨v,H,I,r,h⟩
 rcases l with ⟨hk,hm⟩ | ⟨hk,c,hc,hcell⟩
 ·exact wpAny_Name (wpAny_loadName_local I.ok.kind hk hn hm fin) hd
 ·rcases hk with hk | hk
  ·exact wpAny_Name (wpAny_loadName_cell I.ok.kind hk hc hcell fin) hd
  ·exact wpAny_Name (wpAny_loadName_free I.ok.kind hk hc hcell fin hcd) hd
theorem pe_int {i j pos} : PE X (.Constant (.int i) j pos) (tC (.int i)):=fun _ _ _ H _ I h=>wpAny_Constant_int ⟨.int i,H,I.tok _,⟨_,rfl⟩,h⟩
theorem pe_bl {b j pos} : PE X (.Constant (.bool b) j pos) (tC (.bl b)):=fun _ _ _ H _ I h=>Constant_bool ⟨.bl b,H,I,rfl,h⟩
theorem pe_non {j pos} : PE X (.Constant .none j pos) (tC .non):=fun _ _ _ H _ I h=>Constant_none ⟨.non,H,I,rfl,h⟩
theorem pe_str {x j pos} : PE X (.Constant (.str x) j pos) (tC (.str x)):=fun _ _ _ H _ I h=>Calls.Constant_str ⟨.str x,H,I.tok _,⟨_,rfl⟩,h⟩
def Gl (X:Cx) (x:Str) : Prop:=X.env.kindOf x=some .globalImplicit
theorem ld_glob {E:Value→Shared→Prop} {pins:List (Addr × Obj)} {s:Shared} {σ : St} {H:Hp} {x:Str} {u:Value} {pos:Pos} {Q:Value→Shared→Prop} (I:Inv X pins σ H s) (hg:Gl X x) (hm:X.mg x=some u) (h:Q u s)
  (hd:(x == ("__debug__" : Str))=false:=by decide) : wpAny (model X.prog X.w) X.A (eval (.Name x pos) X.env) Q E s :=
 Calls.Name_function_global I.ok.kind hg (Calls.loadGlobal_global (by rw [I.ok.glob]; exact I.mod.glob.keeps I.bk) hm h) hd
theorem ld_blt {E:Value→Shared→Prop} {pins:List (Addr × Obj)} {s:Shared} {σ : St} {H:Hp} {x:Str} {u:Value} {pos:Pos} {Q:Value→Shared→Prop} (I:Inv X pins σ H s) (hg:Gl X x) (hm:X.mg x=none) (hv:bootBuiltins x=some u) (h:Q u s)
  (hn:x ≠ "__name__" := by decide) (hd:(x == ("__debug__" : Str))=false:=by decide) : wpAny (model X.prog X.w) X.A (eval (.Name x pos) X.env) Q E s:=by
 obtain ⟨mb,h1,h2⟩:=I.mod.blt
 exact Calls.Name_function_global I.ok.kind hg (Calls.loadGlobal_builtin (by rw [I.ok.glob]; exact I.mod.glob.keeps I.bk) hm (by rw [I.ok.blt]; exact h1.keeps I.bk) ((h2 x hn).trans hv) h) hd
theorem pe_glob {x:Str} {v:V} {u:Value} {pos:Pos} (hg:Gl X x) (hm:X.mg x=some u) (r:RelV v u) (hd:(x == ("__debug__" : Str))=false:=by decide) : PE X (.Name x pos) (tC v) :=
 fun _ _ _ H _ I h=>ld_glob I hg hm ⟨v,H,I,r,h⟩ hd
theorem pe_bltn {x:Str} {v:V} {u:Value} {pos:Pos} (hg:Gl X x) (hm:X.mg x=none) (hv:bootBuiltins x=some u) (r:RelV v u) (hn:x ≠ "__name__" := by decide) (hd:(x == ("__debug__" : Str))=false:=by decide) : PE X (.Name x pos) (tC v) :=
 fun _ _ _ H _ I h=>ld_blt I hg hm hv ⟨v,H,I,r,h⟩ hn hd
variable {a b:Expr} {ta tb:TE} {pos:Pos}
def PC (X:Cx) (op:CmpOp) (a b:Expr) (t:TE) : Prop :=
 ∀ (pins:List (Addr × Obj)) (s:Shared) (σ : St) (H:Hp) (Q:VK),Inv X pins σ H s→t σ H Q →
  wpAny (model X.prog X.w) X.A (eval a X.env) (fun v s₁=>wpAny (model X.prog X.w) X.A (eval b X.env) (fun u s₂=>wpAny (model X.prog X.w) X.A (compareOp op v u) (EP X pins σ Q) X.xe s₂) X.xe s₁) X.xe s
def tB (t:TE) : TT:=fun σ H Q=>t σ H fun x H1=>∃ c,x=.bl c∧Q c H1
theorem pt_cmp {op:CmpOp} {t:TE} (h:PC X op a b t) (h1:behindInMarks op b=false:=by first | exact nobehind _ (by decide) (by decide) | rfl) : PT X (.Compare a [op] [b] pos) (tB t):=by
 intro pins s σ H Q I hw
 refine wpAny_isTrue_Compare1 (thn (h pins s σ H _ I hw) fun v s1 h1=>thn h1 fun u s2 h2=>thn h2 fun c s3 ⟨x,H1,I1,r1,q1⟩=>?_) h1
 obtain ⟨d,rfl,q⟩:=q1
 cases r1
 exact wpAny_truthy_bool ⟨H1,I1,q⟩
theorem pt_val {e:Expr} {t:TE} (h:PE X e t) (he : ∀ whole,isTrue e X.env whole=(do let v ← whole; standAt e.pos; holding [v] (truthy v)):=by intro _; rfl) : PT X e (tB t):=by
 intro pins s σ H Q I hw
 refine isTrue_plain (thn (h pins s σ H _ I hw) fun v s1 ⟨x,H1,I1,r1,q1⟩=>?_) (he _)
 obtain ⟨d,rfl,q⟩:=q1
 cases r1
 exact wpAny_truthy_bool ⟨H1,I1,q⟩
variable {tA tB':TT} {rest:List Expr}
def tAnd (t u:TT) : TT:=fun σ H Q=>t σ H fun c H1=>if c=true then u σ H1 Q else Q false H1
def tOr (t u:TT) : TT:=fun σ H Q=>t σ H fun c H1=>if c=true then Q true H1 else u σ H1 Q
def tNot (t:TT) : TT:=fun σ H Q=>t σ H fun c H1=>Q (!c) H1
theorem pw_and1 (ha:PT X a tA) : PW X (.BoolOp .And [a] pos) tA:=by
 intro wh pins s σ H Q I h
 refine isTrue_and (thn (ha pins s σ H Q I h) fun c s1 e=>?_)
 cases c with
 | true=>exact isTrue_and_nil e
 | false=>exact e
theorem pw_or1 (ha:PT X a tA) : PW X (.BoolOp .Or [a] pos) tA:=by
 intro wh pins s σ H Q I h
 refine isTrue_or (thn (ha pins s σ H Q I h) fun c s1 e=>?_)
 cases c with
 | false=>exact isTrue_or_nil e
 | true=>exact e
theorem pw_and (ha:PT X a tA) (hb:PW X (.BoolOp .And (b :: rest) pos) tB') : PW X (.BoolOp .And (a :: b :: rest) pos) (tAnd tA tB'):=by
 intro wh pins s σ H Q I h
 refine isTrue_and (thn (ha pins s σ H _ I h) fun c s1 ⟨H1,I1,q1⟩=>?_)
 cases c with
 | true=>exact hb wh pins s1 σ H1 Q I1 q1
 | false=>exact ⟨H1,I1,q1⟩
theorem pw_or (ha:PT X a tA) (hb:PW X (.BoolOp .Or (b :: rest) pos) tB') : PW X (.BoolOp .Or (a :: b :: rest) pos) (tOr tA tB'):=by
 intro wh pins s σ H Q I h
 refine isTrue_or (thn (ha pins s σ H _ I h) fun c s1 ⟨H1,I1,q1⟩=>?_)
 cases c with
 | true=>exact ⟨H1,I1,q1⟩
 | false=>exact hb wh pins s1 σ H1 Q I1 q1
theorem pt_not (ha:PT X a tA) : PT X (.UnaryOp .Not a pos) (tNot tA):=by
 intro pins s σ H Q I h
 exact isTrue_not (ha pins s σ H (fun c H1=>Q (!c) H1) I h)
def tAndV (ta tb:TE) : TE:=fun σ H Q=>ta σ H fun x H1=>∃ c,x=.bl c∧if c=true then tb σ H1 Q else Q (.bl false) H1
def tNotV (ta:TE) : TE:=fun σ H Q=>ta σ H fun x H1=>∃ c,x=.bl c∧Q (.bl (!c)) H1
theorem pe_one {op} {t:TE} (h:PE X a t) : PE X (.BoolOp op [a] pos) t:=fun pins s σ H Q I hw=>BoolOp_one (h pins s σ H Q I hw)
theorem pe_and (ha:PE X a ta) (hb:PE X (.BoolOp .And (b :: rest) pos) tb) : PE X (.BoolOp .And (a :: b :: rest) pos) (tAndV ta tb):=by
 intro pins s σ H Q I h
 refine BoolOp_and (thn (ha pins s σ H _ I h) fun v s1 ⟨x,H1,I1,r1,q1⟩=>?_)
 obtain ⟨c,rfl,q1⟩:=q1
 cases r1
 refine wpAny_truthy_bool ?_
 cases c with
 | true=>exact hb pins s1 σ H1 Q I1 q1
 | false=>exact ⟨.bl false,H1,I1,rfl,q1⟩
theorem pe_not (ha:PE X a ta) : PE X (.UnaryOp .Not a pos) (tNotV ta):=by
 intro pins s σ H Q I h
 refine UnaryOp_ (thn (ha pins s σ H _ I h) fun v s1 ⟨x,H1,I1,r1,q1⟩=>?_)
 obtain ⟨c,rfl,q1⟩:=q1
 cases r1
 exact not_of (wpAny_truthy_bool ⟨.bl (!c),H1,I1,rfl,q1⟩)
end
end L2
namespace L2
open PySem PySem.Spec PyProof.Rows
def SqL (K:PySem.W.Frag) (H:Hp) (a:Addr) (xs:List V) : Prop :=
 Rd H a (.lst xs) ∨
  ∃ (o:Obj) (its:Array Value) (n:Nat),K.lookup a=some o∧o.cls=.type "list" ∧ o.dict=none∧o.data=.seq its n∧its.size≤sizeLine∧Vals xs its.toList
def SqT (K:PySem.W.Frag) (H:Hp) (a:Addr) (xs:List V) : Prop :=
 Rd H a (.tup xs) ∨
  ∃ (o:Obj) (its:Array Value) (n:Nat),K.lookup a=some o∧o.cls=.type "tuple" ∧ o.data=.seq its n∧its.size≤sizeLine∧Vals xs its.toList
def absV:Value→Option V
 | .none=>some .non
 | .bool b=>some (.bl b)
 | .int i _=>some (.int i)
 | .str x _=>some (.str x)
 | .bytes b _=>some (.byt b)
 | .float b _=>some (.flt b)
 | .ref a=>some (.ref a)
 | .type n=>some (.ty n)
 | _=>none
theorem RelV.abs {x:V} {u:Value} (r:RelV x u) : absV u=some x:=by
 cases x with
 | non=>cases r; rfl
 | bl _=>cases r; rfl
 | int _=>obtain ⟨t,rfl⟩:=r; rfl
 | str _=>obtain ⟨t,rfl⟩:=r; rfl
 | byt _=>obtain ⟨t,rfl⟩:=r; rfl
 | flt _=>obtain ⟨t,rfl⟩:=r; rfl
 | ref _=>cases r; rfl
 | ty _=>cases r; rfl
theorem RelV.inj {x y:V} {u:Value} (r:RelV x u) (q:RelV y u) : x=y:=Option.some.inj (r.abs.symm.trans q.abs)
theorem Vals.inj : ∀ {xs ys:List V} {us:List Value},Vals xs us→Vals ys us→xs=ys
 | _,_,_,.nil,.nil=>rfl
 | _,_,_,.cons r t,.cons r' t'=>by rw [r.inj r',Vals.inj t t']
section
variable {X:Cx} {pins:List (Addr × Obj)} {σ : St} {H:Hp} {s:Shared} {a:Addr} {xs ys:List V}
theorem SqL.of {K:PySem.W.Frag} (h:H a=some (.lst xs)) : SqL K H a xs:=.inl (.inl h)
theorem SqT.of {K:PySem.W.Frag} (h:H a=some (.tup xs)) : SqT K H a xs:=.inl (.inl h)
theorem Inv.list (I:Inv X pins σ H s) (h:SqL X.K H a xs) : ∃ its:List Value,Vals xs its∧PlainL s.heap a its.toArray∧xs.length≤sizeLine:=by
 rcases h with h | ⟨o,its,n,hk,hc,hd,hs,hz,r⟩
 ·obtain ⟨z,its,n,r,e⟩:=h.ok I.hok
  exact ⟨its,r,⟨_,n,e,rfl,rfl,rfl⟩,z⟩
 ·refine ⟨its.toList,r,⟨o,n,I.kIn a o hk,hc,hd,by simpa using hs⟩,?_⟩
  have e:=r.length
  simp only [Array.length_toList] at e
  omega
theorem Inv.tuple (I:Inv X pins σ H s) (h:SqT X.K H a xs) : ∃ its:List Value,Vals xs its∧IsTup s.heap a its.toArray∧xs.length≤sizeLine:=by
 rcases h with h | ⟨o,its,n,hk,hc,hs,hz,r⟩
 ·obtain ⟨z,its,r,p⟩:=h.ok I.hok
  exact ⟨its,r,p,z⟩
 ·refine ⟨its.toList,r,⟨o,I.kIn a o hk,hc,n,by simpa using hs⟩,?_⟩
  have e:=r.length
  simp only [Array.length_toList] at e
  omega
theorem Inv.list_inj (I:Inv X pins σ H s) (h:SqL X.K H a xs) (h':SqL X.K H a ys) : xs=ys:=by
 obtain ⟨its,r,⟨o,n,e,_,_,d⟩,_⟩:=I.list h
 obtain ⟨its',r',⟨o',n',e',_,_,d'⟩,_⟩:=I.list h'
 rw [e] at e'; cases e'
 rw [d] at d'
 injection d' with d1 _
 have:its=its':=by simpa using congrArg Array.toList d1
 subst this
 exact r.inj r'
theorem Inv.tuple_inj (I:Inv X pins σ H s) (h:SqT X.K H a xs) (h':SqT X.K H a ys) : xs=ys:=by
 obtain ⟨its,r,⟨o,e,_,n,d⟩,_⟩:=I.tuple h
 obtain ⟨its',r',⟨o',e',_,n',d'⟩,_⟩:=I.tuple h'
 rw [e] at e'; cases e'
 rw [d] at d'
 injection d' with d1 _
 have:its=its':=by simpa using congrArg Array.toList d1
 subst this
 exact r.inj r'
end
abbrev Cx.wish (X:Cx) (E:Value→Shared→Prop) : Cx:={ X with xe:=E }
abbrev Cx.nox (X:Cx) : Cx:=X.wish fun _ _=>False
theorem Cx.Ok.wish {X:Cx} (ok:X.Ok) (E:Value→Shared→Prop) : (X.wish E).Ok :=
 ⟨ok.mod,ok.kind,ok.glob,ok.blt,ok.above,ok.inj,ok.has,ok.cab,ok.hd,ok.frames,ok.stk,ok.exf,ok.bs,ok.bsz,ok.noex,ok.exfs,ok.funs,ok.frf⟩
theorem Cx.Ok.unwish {X:Cx} {E:Value→Shared→Prop} (ok:(X.wish E).Ok) : X.Ok :=
 ⟨ok.mod,ok.kind,ok.glob,ok.blt,ok.above,ok.inj,ok.has,ok.cab,ok.hd,ok.frames,ok.stk,ok.exf,ok.bs,ok.bsz,ok.noex,ok.exfs,ok.funs,ok.frf⟩
section
variable {X:Cx} {pins:List (Addr × Obj)} {σ : St} {H:Hp} {s:Shared} {E:Value→Shared→Prop}
theorem Inv.wish (I:Inv X pins σ H s) (E:Value→Shared→Prop) : Inv (X.wish E) pins σ H s:=⟨I.ok.wish E,I.os,I.bare,I.base,I.loc,I.cell,I.free,I.freeC,I.pin,I.hok,I.len⟩
theorem Inv.unwish (I:Inv (X.wish E) pins σ H s) : Inv X pins σ H s:=⟨I.ok.unwish,I.os,I.bare,I.base,I.loc,I.cell,I.free,I.freeC,I.pin,I.hok,I.len⟩
theorem SP.unwish {D:Ends} {f:Flow} {s':Shared} (h:SP (X.wish E) pins D f s') : SP X pins D f s':=by
 cases f with
 | next=>obtain ⟨σ',H',I,q⟩:=h; exact ⟨σ',H',I.unwish,q⟩
 | brk=>obtain ⟨σ',H',I,q⟩:=h; exact ⟨σ',H',I.unwish,q⟩
 | cont=>obtain ⟨σ',H',I,q⟩:=h; exact ⟨σ',H',I.unwish,q⟩
 | ret u=>obtain ⟨v,σ',H',I,r,q⟩:=h; exact ⟨v,σ',H',I.unwish,r,q⟩
theorem PSs.nox {st:List Stmt} {t:TS} (h:PSs X.nox st t) : PSs X st t:=fun pins s σ H D I hw =>
 wpAny_mono (h pins s σ H D (I.wish _) hw) (fun _ _ q=>q.unwish) fun _ _ z=>False.elim z
end
section
variable {X:Cx} {st:Stmt} {rest:List Stmt} {t u:TS} {e:Expr} {te:TE} {pos:Pos}
def tNext:TS:=fun D σ H=>D.nx σ H
def tSeq (t u:TS) : TS:=fun D σ H=>t { D with nx:=u D } σ H
theorem pss_nil:PSs X [] tNext:=fun _ _ σ H _ I h=>wpAny_execs_nil ⟨σ,H,I,h⟩
theorem pss_cons (h1:PS X st t) (h2:PSs X rest u) : PSs X (st :: rest) (tSeq t u):=by
 intro pins s σ H D I h
 refine wpAny_execs_cons (thn (h1 pins s σ H { D with nx:=u D } I h) fun f s1 q=>?_)
 cases f with
 | next =>
  obtain ⟨σ',H',I',q⟩:=q
  exact h2 pins s1 σ' H' D I' q
 | ret v=>exact q
 | brk=>exact q
 | cont=>exact q
theorem pss_one (h1:PS X st t) : PSs X [st] t:=by
 intro pins s σ H D I h
 refine wpAny_execs_cons (thn (h1 pins s σ H D I h) fun f s1 q=>?_)
 cases f with
 | next=>exact wpAny_execs_nil q
 | ret v=>exact q
 | brk=>exact q
 | cont=>exact q
theorem Inv.quiet {pins:List (Addr × Obj)} {σ : St} {H:Hp} {s:Shared} (I:Inv X pins σ H s) : interactive X.env=false:=by simp [interactive,I.ok.kind]
def tDrop (te:TE) : TS:=fun D σ H=>te σ H fun _ H1=>D.nx σ H1
theorem ps_expr (he:PE X e te) (hs:swapsWith e none pos.line X.env=pure false:=by rfl) : PS X (.Expr e pos) (tDrop te):=by
 intro pins s σ H D I h
 exact wpAny_Expr_any (thn (he pins s σ H _ I h) fun v s1 ⟨x,H1,I1,r1,q1⟩=>⟨σ,H1,I1,q1⟩) I.quiet hs
def tRet (te:TE) : TS:=fun D σ H=>te σ H D.rt
theorem ps_ret (he:PE X e te) : PS X (.Return (some e) pos) (tRet te):=by
 intro pins s σ H D I h
 exact wpAny_Return_some (thn (he pins s σ H _ I h) fun v s1 ⟨x,H1,I1,r1,q1⟩=>⟨x,σ,H1,I1,r1,q1⟩)
def tIfS (c:TT) (t u:TS) : TS:=fun D σ H=>c σ H fun b H1=>if b=true then t D σ H1 else u D σ H1
theorem ps_if {c:Expr} {a b:List Stmt} {tc:TT} (hc:PT X c tc) (ha:PSs X a t) (hb:PSs X b u) : PS X (.If c a b pos) (tIfS tc t u):=by
 intro pins s σ H D I h
 refine wpAny_If (thn (hc pins s σ H _ I h) fun d s1 ⟨H1,I1,q1⟩=>?_)
 cases d with
 | true=>exact ha pins s1 σ H1 D I1 q1
 | false=>exact hb pins s1 σ H1 D I1 q1
def tNever:TS:=fun _ _ _=>False
theorem ps_never:PS X st tNever:=fun _ _ _ _ _ _ h=>h.elim
end
abbrev TG:=V→St→Hp→(St→Hp→Prop)→Prop
abbrev TGs:=List V→St→Hp→(St→Hp→Prop)→Prop
def PG (X:Cx) (target:Expr) (t:TG) : Prop :=
 ∀ (pins:List (Addr × Obj)) (s:Shared) (σ : St) (H:Hp) (v:V) (u:Value) (Q:St→Hp→Prop),Inv X pins σ H s→RelV v u→t v σ H Q →
  wpAny (model X.prog X.w) X.A (assign target X.env u) (fun _ s'=>∃ σ' H',Inv X pins σ' H' s'∧Q σ' H') X.xe s
def PGs (X:Cx) (ts:List Expr) (t:TGs) : Prop :=
 ∀ (pins:List (Addr × Obj)) (s:Shared) (σ : St) (H:Hp) (vs:List V) (us:List Value) (Q:St→Hp→Prop),Inv X pins σ H s→Vals vs us→t vs σ H Q →
  wpAny (model X.prog X.w) X.A (assignInOrder ((assignEach ts X.env).map (·.2)) us) (fun _ s'=>∃ σ' H',Inv X pins σ' H' s'∧Q σ' H') X.xe s
abbrev TSet:=V→V→V→Hp→(Hp→Prop)→Prop
def PSet (X:Cx) (t:TSet) : Prop :=
 ∀ (pins:List (Addr × Obj)) (s:Shared) (σ : St) (H:Hp) (o i v:V) (ov iv u:Value) (Q:Hp→Prop),Inv X pins σ H s→RelV o ov→RelV i iv→RelV v u→t o i v H Q →
  wpAny (model X.prog X.w) X.A (setItem ov iv u) (fun _ s'=>∃ H',Inv X pins σ H' s'∧Q H') X.xe s
section
variable {X:Cx} {pos:Pos}
def gName (i:Nat) : TG:=fun v σ H Q=>Q (σ.set i (some v)) H
theorem pg_name {i:Nat} {x:Str} (hN:X.N.Nodup) (hi:X.N[i]?=some x) (hx:Loc X.env.scope x) (hf:X.fn x=true∨X.env.scope.names.lookup x=some .local:=by first | exact .inl rfl | exact .inr rfl | assumption) : PG X (.Name x pos) (gName i):=by
 intro pins s σ H v u Q I r h
 exact wpAny_assign_Name (store_ok I hN hi hx r (fun s' I'=>⟨_,H,I',h⟩) hf)
def gNil:TGs:=fun vs σ H Q=>vs=[]∧Q σ H
def gCons (t:TG) (u:TGs) : TGs:=fun vs σ H Q=>∃ v r,vs=v :: r∧t v σ H fun σ' H'=>u r σ' H' Q
theorem pgs_nil:PGs X [] gNil:=by
 intro pins s σ H vs us Q I r h
 obtain ⟨e,h⟩:=h
 subst e
 cases r
 exact assignInOrder_nil ⟨σ,H,I,h⟩
theorem pgs_cons {e:Expr} {es:List Expr} {t:TG} {u:TGs} (h1:PG X e t) (h2:PGs X es u)
  (hs:(assignEach (e :: es) X.env).map (·.2)=assign e X.env :: (assignEach es X.env).map (·.2):=by rfl) : PGs X (e :: es) (gCons t u):=by
 intro pins s σ H vs us Q I r h
 obtain ⟨v,vr,e1,h⟩:=h
 subst e1
 cases r with
 | cons r rr =>
  rw [hs]
  refine assignInOrder_cons (thn (h1 pins s σ H _ _ _ I r h) fun _ s1 ⟨σ1,H1,I1,q1⟩=>?_)
  exact h2 pins s1 σ1 H1 _ _ Q I1 rr q1
def gTup (K:PySem.W.Frag) (n:Nat) (t:TGs) : TG:=fun v σ H Q=>∃ a xs,v=.ref a∧SqT K H a xs∧xs.length=n∧t xs σ H Q
theorem pg_tup {es:List Expr} {k:Nat} {t:TGs} {n:Nat} (hc:X.calm=true) (h:PGs X es t)
  (hn:(assignEach es X.env).length=n:=by rfl) (hst:(assignEach es X.env).findIdx? (·.1)=none:=by rfl) : PG X (.Tuple es k pos) (gTup X.K n t):=by
 intro pins s σ H v u Q I r hw
 obtain ⟨a,xs,e1,hq,hl,hw⟩:=hw
 subst e1
 cases r
 obtain ⟨its,rv,ht,hz⟩:=I.tuple hq
 refine assign_Tuple_tuple (I.ok.hd hc) ht (by simp [hn,← hl,rv.length]) hst fun h' hx=>?_
 have I1:Inv X pins σ H { s with heap:=h' }:=I.kept (t':=s.toks) fun b o e=>hx b o (Nat.ne_of_lt (Heap.lt_size e)) e
 exact h pins _ σ H xs _ Q I1 (by simpa using rv) hw
def gSub (to ti:TE) (t:TSet) : TG:=fun v σ H Q=>to σ H fun o H1=>ti σ H1 fun i H2=>t o i v H2 fun H3=>Q σ H3
theorem pg_sub {o i:Expr} {to ti:TE} {t:TSet} (ho:PE X o to) (hi:PE X i ti) (hs:PSet X t)
  (ha : ∀ v,assign (.Subscript o i pos) X.env v=(do
   let ov ← holding [v] (eval o X.env)
   let iv ← holding [v,ov] (eval i X.env)
   standAt pos
   holding [v,ov,iv] (setItem ov iv v)
   release [v,ov,iv] []):=by intro _; rfl) : PG X (.Subscript o i pos) (gSub to ti t):=by
 intro pins s σ H v u Q I r h
 rw [ha]
 refine wpAny_bind (wpAny_holding (thn (ho pins s σ H _ I h) fun ov s1 ⟨x,H1,I1,r1,q1⟩=>?_))
 refine wpAny_bind (wpAny_holding (thn (hi pins s1 σ H1 _ I1 q1) fun iv s2 ⟨y,H2,I2,r2,q2⟩=>?_))
 refine wpAny_bind (wpAny_standAt (wpAny_bind (wpAny_holding (thn (hs pins s2 σ H2 x y v ov iv u _ I2 r1 r2 r q2) fun _ s3 ⟨H3,I3,q3⟩=>?_))))
 exact wpAny_release ⟨σ,H3,I3,q3⟩
def tAsg (te:TE) (g:TG) : TS:=fun D σ H=>te σ H fun x H1=>g x σ H1 D.nx
theorem ps_asg {tg e:Expr} {te:TE} {g:TG} (he:PE X e te) (hg:PG X tg g) (hs:swapsWithSole [tg] e pos.line X.env=pure false:=by rfl) (hw:swappedStores [tg] e X.env=pure none:=by rfl)
  (h1:(assignEach [tg] X.env).map (·.2)=[assign tg X.env]:=by rfl) : PS X (.Assign [tg] e pos) (tAsg te g):=by
 intro pins s σ H D I h
 refine wpAny_Assign_stores (thn (he pins s σ H _ I h) fun v s1 ⟨x,H1,I1,r1,q1⟩=>?_) hs hw
 rw [h1]
 exact thn (hg pins s1 σ H1 x v _ I1 r1 q1) fun _ s2 q=>q
theorem ps_set {i:Nat} {x:Str} {e:Expr} {te:TE} {pos':Pos} (hN:X.N.Nodup) (hi:X.N[i]?=some x) (hx:Loc X.env.scope x) (he:PE X e te) (hs:swapsWith e (some (.Name x pos')) pos.line X.env=pure false:=by rfl) (hf:X.fn x=true∨X.env.scope.names.lookup x=some .local:=by first | exact .inl rfl | exact .inr rfl | assumption) :
  PS X (.Assign [.Name x pos'] e pos) (tAsg te (gName i)):=by
 intro pins s σ H D I h
 refine wpAny_Assign_Name (thn (he pins s σ H _ I h) fun v s1 ⟨y,H1,I1,r1,q1⟩=>?_) hs
 exact store_ok I1 hN hi hx r1 (fun s2 I2=>⟨_,H1,I2,q1⟩) hf
end
section
variable {X:Cx} {pos:Pos}
def tWhile (c:TT) (tb:TS) : TS:=fun D σ H=>∃ W:Nat→St→Hp→Prop,(∃ m,W m σ H)∧∀ m σ H,W m σ H →
 c σ H fun b H1=>if b=true then ∃ N:St→Hp→Prop,(∀ σ' H',N σ' H'→∃ m',m'<m∧W m' σ' H')∧tb { D with nx:=N,ct:=N,bk:=D.nx } σ H1 else D.nx σ H1
theorem ps_while {c:Expr} {body:List Stmt} {tc:TT} {tb:TS} (hp:PassesOwn (model X.prog X.w) X.A X.env X.xe) (hc:PT X c tc) (hb:PSs X body tb) : PS X (.While c body [] pos) (tWhile tc tb):=by
 intro pins s σ H D I h
 obtain ⟨W,⟨m0,w0⟩,turn⟩:=h
 refine wpAny_While (codeAny_whileLoop (fun n s'=>∃ σ' H',Inv X pins σ' H' s'∧W n σ' H') ?_ m0 ⟨σ,H,I,w0⟩)
 rintro n s1 ⟨σ1,H1,I1,w1⟩
 refine wpAny_passesOwn hp (thn (hc pins s1 σ1 H1 _ I1 (turn n σ1 H1 w1)) fun b s2 ⟨H2,I2,q2⟩=>?_)
 cases b with
 | true =>
  obtain ⟨N,hN,q2⟩:=q2
  rw [if_pos rfl]
  refine wpAny_passesOwn hp (thn (hb pins s2 σ1 H2 _ I2 q2) fun f s3 q3=>?_)
  cases f with
  | next =>
   obtain ⟨σ3,H3,I3,n3⟩:=q3
   obtain ⟨m',hm,w3⟩:=hN σ3 H3 n3
   exact ⟨m',hm,σ3,H3,I3,w3⟩
  | cont =>
   obtain ⟨σ3,H3,I3,n3⟩:=q3
   obtain ⟨m',hm,w3⟩:=hN σ3 H3 n3
   exact ⟨m',hm,σ3,H3,I3,w3⟩
  | brk=>exact q3
  | ret v=>exact q3
 | false =>
  rw [if_neg Bool.false_ne_true]
  exact wpAny_execs_nil ⟨σ1,H2,I2,q2⟩
end
structure It where
 go:Nat→Hp→Prop
 yld:Nat→Hp→V→Hp→Prop
 stop:Nat→Hp→Prop
def FpOk (X:Cx) (pins:List (Addr × Obj)) (H:Hp) (b:Addr) : Prop :=
 H b=none∧b≠X.env.locals∧b∉X.fs∧(b∈X.ex∨X.s₀.heap.objs.size≤b)∧(∀ x c,X.env.cells.lookup x=some c→c≠b)∧∀ p∈X.pn++pins,p.1≠b
theorem Inv.fpOk {X:Cx} {pins:List (Addr × Obj)} {σ : St} {H H':Hp} {s:Shared} {b:Addr} (I:Inv X pins σ H s) (hb:s.heap.objs.size≤b) (hn:H' b=none) : FpOk X pins H' b:=by
 refine ⟨hn,Nat.ne_of_gt (Nat.lt_of_lt_of_le I.lt hb),I.nofs hb,.inr (Nat.le_trans I.sz hb),fun x c e z=>?_,fun p hp z=>?_⟩
 ·obtain ⟨v,q⟩:=I.cell x c e
  exact absurd (Nat.lt_of_lt_of_le q.lt (by rw [z]; exact hb)) (Nat.lt_irrefl _)
 ·exact absurd (Nat.lt_of_lt_of_le (Heap.lt_size (I.pin p hp).1) (by rw [z]; exact hb)) (Nat.lt_irrefl _)
structure Turn (P:Program) (w:World) (K:PySem.W.Frag) (tg:Expr) (J:It) (fp:List Addr) (it:Addr) (tn:Nat→Heap→Prop) : Prop where
 mem:it∈fp
 obj : ∀ i h,tn i h→∀ b∈fp,∃ o,h.get? b=some o∧∀ v,o.data≠.cell v
 keep : ∀ i h h',tn i h→(∀ b∈fp,∀ o,h.get? b=some o→h'.get? b=some o)→tn i h'
 item : ∀ (X:Cx),X.prog=P→X.w=w→X.K=K→X.calm=true→∀ (i:Nat) (pins:List (Addr × Obj)) (s:Shared) (σ : St) (H:Hp) (E:Value→Shared→Prop),Inv X pins σ H s→(∀ b∈fp,FpOk X pins H b)→tn i s.heap→J.go i H →
  wpAny (model P w) X.A (pyNext (.ref it)) (fun r s1=>∃ u,r=some u ∧
   wpAny (model P w) X.A (letOwnedTupleGo tg (.ref it) u) (fun _ s2=>∃ x H',Inv X pins σ H' s2∧RelV x u∧J.yld i H x H'∧tn (i+1) s2.heap∧∀ b∈fp,H' b=none) E s1) E s
 done : ∀ (X:Cx),X.prog=P→X.w=w→X.K=K→X.calm=true→∀ (i:Nat) (pins:List (Addr × Obj)) (s:Shared) (σ : St) (H:Hp) (E:Value→Shared→Prop),Inv X pins σ H s→(∀ b∈fp,FpOk X pins H b)→tn i s.heap→J.stop i H →
  wpAny (model P w) X.A (pyNext (.ref it)) (fun r s1=>r=none∧Inv X pins σ H s1) E s
 self : ∀ (A:Around) (i:Nat) (s:Shared) (Q:Value→Shared→Prop) (E:Value→Shared→Prop),tn i s.heap→Q (.ref it) s→wpAny (model P w) A (pyIter (.ref it)) Q E s
abbrev TI:=St→Hp→(It→Hp→Prop)→Prop
def PIE (X:Cx) (pins:List (Addr × Obj)) (σ : St) (tg:Expr) (R:It→Hp→Prop) (itv:Value) (s2:Shared) : Prop :=
 ∃ (it:Addr) (fp:List Addr) (tn:Nat→Heap→Prop) (J:It) (H':Hp),itv=.ref it∧Inv X pins σ H' s2∧Turn X.prog X.w X.K tg J fp it tn∧tn 0 s2.heap∧(∀ b∈fp,FpOk X pins H' b)∧R J H'
def PI (X:Cx) (tg iter:Expr) (wi:TI) : Prop :=
 ∀ (pins:List (Addr × Obj)) (s:Shared) (σ : St) (H:Hp) (R:It→Hp→Prop),Inv X pins σ H s→wi σ H R →
  wpAny (model X.prog X.w) X.A (eval iter X.env) (fun v s1=>wpAny (model X.prog X.w) X.A (pyIter v) (PIE X pins σ tg R) X.xe s1) X.xe s
theorem go_of {M:Model} {A:Around} {E:Value→Shared→Prop} {s:Shared} {tg:Expr} {it:Addr} {u:Value} {o:Obj} {n:String} {vs:Array Value} {Q:Unit→Shared→Prop} (ho:s.heap.get? it=some o) (hc:o.cls=.type n) (hd:o.data=.fields vs)
  (hn : ["enumerate", "zip", "dict_itemiterator", "dict_reverseitemiterator", "odict_iterator", "itertools.zip_longest", "itertools.pairwise"].contains n=false) (hQ:Q () s) : wpAny M A (letOwnedTupleGo tg (.ref it) u) Q E s:=by
 unfold letOwnedTupleGo
 cases tg <;> first
  | exact wpAny_pure hQ
  | (cases u <;> first
    | exact wpAny_pure hQ
    | (refine wpAny_bind (wpAny_load ho ?_)
       rw [hc,hd]
       show wpAny M A (if (["enumerate", "zip", "dict_itemiterator", "dict_reverseitemiterator", "odict_iterator", "itertools.zip_longest", "itertools.pairwise"].contains n && vs[0]? == some (rawInt _))=true then _ else _) Q E s
       rw [if_neg (by intro h; rw [hn,Bool.false_and] at h; cases h)]
       exact wpAny_pure hQ))
def Itl (K:PySem.W.Frag) (a:Addr) : It :=
 ⟨fun i H=>∃ xs x,SqL K H a xs∧xs[i]?=some x,fun i H x H'=>H'=H∧∀ xs,SqL K H a xs→xs[i]?=some x,fun i H=>∃ xs,SqL K H a xs∧xs.length≤i⟩
def Itt (K:PySem.W.Frag) (a:Addr) : It :=
 ⟨fun i H=>∃ xs x,SqT K H a xs∧xs[i]?=some x,fun i H x H'=>H'=H∧∀ xs,SqT K H a xs→xs[i]?=some x,fun i H=>∃ xs,SqT K H a xs∧xs.length≤i⟩
def Itr (lo:Int) (n:Nat) : It:=⟨fun i _=>i<n,fun i H x H'=>H'=H∧x=.int (lo+i),fun i _=>n≤i⟩
theorem turn_list {P:Program} {w:World} {K:PySem.W.Frag} {tg:Expr} (a it:Addr) : Turn P w K tg (Itl K a) [it] it (fun i h=>h.IsListIter it a i) where
 mem:=by simp
 obj:=fun i h st b hb=>by
  have e:b=it:=by simpa using hb
  subst e
  obtain ⟨o,e,c,d⟩:=st
  exact ⟨o,e,fun v z=>by rw [d] at z; cases z⟩
 keep:=fun i h h' st k=>st.at fun o e=>k it (by simp) o e
 item:=by
  intro X hP hw hK hc i pins s σ H E I hf st hg
  subst hP hw hK
  obtain ⟨xs,x,hq,hx⟩:=hg
  obtain ⟨its,rv,p,hz⟩:=I.list hq
  obtain ⟨u,hu,ru⟩:=rv.get hx
  obtain ⟨f0,f1,f2,f3,f4,f5⟩:=hf it (by simp)
  refine wpAny_pyNext_list_item st p.isList (x:=u) (by simpa using hu) fun h' st' sb=>?_
  have I1:Inv X pins σ H { s with heap:=h' }:=I.turned (t':=s.toks) (fun b o hb e=>(sb.2 b hb).trans e) f0 f1 f3 f4 f5
  obtain ⟨o,e,c,d⟩:=id st'
  exact ⟨u,rfl,go_of (s:={ s with heap:=h' }) e c d (by decide) ⟨x,H,I1,ru,⟨rfl,fun ys hy=>by rw [I.list_inj hy hq]; exact hx⟩,st',fun b hb=>(hf b hb).1⟩⟩
 done:=by
  intro X hP hw hK hc i pins s σ H E I hf st hg
  subst hP hw hK
  obtain ⟨xs,hq,hx⟩:=hg
  obtain ⟨its,rv,p,hz⟩:=I.list hq
  obtain ⟨f0,f1,f2,f3,f4,f5⟩:=hf it (by simp)
  have hl:=rv.length
  exact wpAny_pyNext_list_end (I.ok.hd hc) st p.isList (by simp; omega) fun h' eb=>⟨rfl,I.turned (t':=s.toks) (fun b o hb e=>eb b o hb e) f0 f1 f3 f4 f5⟩
 self:=fun _ _ _ _ _ st h=>wpAny_pyIter_listiter st h
theorem turn_tuple {P:Program} {w:World} {K:PySem.W.Frag} {tg:Expr} (a it:Addr) : Turn P w K tg (Itt K a) [it] it (fun i h=>h.IsTupleIter it a i) where
 mem:=by simp
 obj:=fun i h st b hb=>by
  have e:b=it:=by simpa using hb
  subst e
  obtain ⟨o,e,c,d⟩:=st
  exact ⟨o,e,fun v z=>by rw [d] at z; cases z⟩
 keep:=fun i h h' st k=>st.at fun o e=>k it (by simp) o e
 item:=by
  intro X hP hw hK hc i pins s σ H E I hf st hg
  subst hP hw hK
  obtain ⟨xs,x,hq,hx⟩:=hg
  obtain ⟨its,rv,p,hz⟩:=I.tuple hq
  obtain ⟨u,hu,ru⟩:=rv.get hx
  obtain ⟨f0,f1,f2,f3,f4,f5⟩:=hf it (by simp)
  refine wpAny_pyNext_tuple_item st (show s.heap.IsTuple a its.toArray from p) (x:=u) (by simpa using hu) fun h' st' sb=>?_
  have I1:Inv X pins σ H { s with heap:=h' }:=I.turned (t':=s.toks) (fun b o hb e=>(sb.2 b hb).trans e) f0 f1 f3 f4 f5
  obtain ⟨o,e,c,d⟩:=id st'
  exact ⟨u,rfl,go_of (s:={ s with heap:=h' }) e c d (by decide) ⟨x,H,I1,ru,⟨rfl,fun ys hy=>by rw [I.tuple_inj hy hq]; exact hx⟩,st',fun b hb=>(hf b hb).1⟩⟩
 done:=by
  intro X hP hw hK hc i pins s σ H E I hf st hg
  subst hP hw hK
  obtain ⟨xs,hq,hx⟩:=hg
  obtain ⟨its,rv,p,hz⟩:=I.tuple hq
  obtain ⟨f0,f1,f2,f3,f4,f5⟩:=hf it (by simp)
  have hl:=rv.length
  exact wpAny_pyNext_tuple_end (I.ok.hd hc) st (show s.heap.IsTuple a its.toArray from p) (by simp; omega) fun h' eb=>⟨rfl,I.turned (t':=s.toks) (fun b o hb e=>eb b o hb e) f0 f1 f3 f4 f5⟩
 self:=fun _ _ _ _ _ st h=>wpAny_pyIter_tupleiter st h
theorem turn_range {P:Program} {w:World} {K:PySem.W.Frag} {tg:Expr} (it:Addr) (lo:Int) (n:Nat) : Turn P w K tg (Itr lo n) [it] it (fun i h=>IsRangeIter h it (lo+(i:Nat) * 1) ((n:Int) - (i:Nat)) 1) where
 mem:=by simp
 obj:=fun i h st b hb=>by
  have e:b=it:=by simpa using hb
  subst e
  exact ⟨_,st,fun v z=>by
   have z':Data.fields _=Data.cell v:=z
   cases z'⟩
 keep:=fun i h h' st k=>k it (by simp) _ st
 item:=by
  intro X hP hw hK hc i pins s σ H E I hf st hg
  subst hP hw hK
  obtain ⟨f0,f1,f2,f3,f4,f5⟩:=hf it (by simp)
  have W:=Walks.range (prog:=X.prog) (w:=X.w) (I.ok.hd hc) it lo 1 n
  refine W.item i s _ _ hg st fun v h' tk hv st' kk=>?_
  obtain ⟨t,rfl⟩:=hv
  have I1:Inv X pins σ H { s with heap:=h',toks:=tk }:=I.turned (fun b o hb e=>kk b o (by simpa using hb) e) f0 f1 f3 f4 f5
  refine ⟨_,rfl,go_of (s:={ s with heap:=h',toks:=tk }) (n := "range_iterator") st' rfl rfl (by decide) ⟨.int (lo+i),H,I1,⟨t,?_⟩,⟨rfl,rfl⟩,st',fun b hb=>(hf b hb).1⟩⟩
  rw [Int.mul_one]
 done:=by
  intro X hP hw hK hc i pins s σ H E I hf st hg
  subst hP hw hK
  obtain ⟨f0,f1,f2,f3,f4,f5⟩:=hf it (by simp)
  exact wpAny_pyNext_range_end (I.ok.hd hc) st (by have:n≤i:=hg; omega) fun h' eb=>⟨rfl,I.turned (t':=s.toks) (fun b o hb e=>eb b o hb e) f0 f1 f3 f4 f5⟩
 self:=fun _ _ _ _ _ st h=>wpAny_pyIter_rangeiter st h
end L2
namespace L2
open PySem PySem.Spec PyProof.Rows
section
variable {X:Cx} {tg:Expr}
def iList (K:PySem.W.Frag) (tl:TE) : TI:=fun σ H R=>tl σ H fun x H1=>∃ a,x=.ref a∧(∃ xs,SqL K H1 a xs)∧R (Itl K a) H1
def iTup (K:PySem.W.Frag) (tl:TE) : TI:=fun σ H R=>tl σ H fun x H1=>∃ a,x=.ref a∧(∃ xs,SqT K H1 a xs)∧R (Itt K a) H1
theorem pi_list {l:Expr} {tl:TE} (hl:PE X l tl) : PI X tg l (iList X.K tl):=by
 intro pins s σ H R I h
 refine thn (hl pins s σ H _ I h) fun v s1 ⟨x,H1,I1,r1,q1⟩=>?_
 obtain ⟨a,e,⟨xs,hq⟩,q⟩:=q1
 subst e
 cases r1
 obtain ⟨its,rv,p,hz⟩:=I1.list hq
 refine wpAny_pyIter_list p.isList ?_
 refine ⟨s1.heap.objs.size,[s1.heap.objs.size],_,_,H1,rfl,I1.kept (t':=s1.toks) fun b o e=>Heap.get?_push_of_some _ e,turn_list a _,⟨_,Heap.get?_push_size _ rfl,rfl,rfl⟩,fun b hb=>?_,q⟩
 have e:b=s1.heap.objs.size:=by simpa using hb
 subst e
 exact I1.fpOk (Nat.le_refl _) (I1.hok.fresh (Nat.le_refl _))
theorem pi_tup {l:Expr} {tl:TE} (hl:PE X l tl) : PI X tg l (iTup X.K tl):=by
 intro pins s σ H R I h
 refine thn (hl pins s σ H _ I h) fun v s1 ⟨x,H1,I1,r1,q1⟩=>?_
 obtain ⟨a,e,⟨xs,hq⟩,q⟩:=q1
 subst e
 cases r1
 obtain ⟨its,rv,p,hz⟩:=I1.tuple hq
 refine wpAny_pyIter_tuple (show s1.heap.IsTuple a its.toArray from p) ?_
 refine ⟨s1.heap.objs.size,[s1.heap.objs.size],_,_,H1,rfl,I1.kept (t':=s1.toks) fun b o e=>Heap.get?_push_of_some _ e,turn_tuple a _,⟨_,Heap.get?_push_size _ rfl,rfl,rfl⟩,fun b hb=>?_,q⟩
 have e:b=s1.heap.objs.size:=by simpa using hb
 subst e
 exact I1.fpOk (Nat.le_refl _) (I1.hok.fresh (Nat.le_refl _))
theorem range_it {pins:List (Addr × Obj)} {σ : St} {H:Hp} {s:Shared} {R:It→Hp→Prop} {E:Value→Shared→Prop} {lo hi:Int} {t u v:Tok} {tk:Nat} (I:Inv X pins σ H s) (h1 : -(2 ^ 62)≤lo) (h2:lo<2 ^ 62) (h3 : -(2 ^ 62)≤hi) (h4:hi<2 ^ 62)
  (q:R (Itr lo (hi - lo).toNat) H) : wpAny (model X.prog X.w) X.A (pyIter (.ref s.heap.objs.size)) (PIE X pins σ tg R) E { s with heap:=s.heap.push { cls:=.type "range", data:=.fields #[.int lo t,.int hi u,.int 1 v] },toks:=tk }:=by
 refine wpAny_pyIter_range (IsRange.new ..) (small_one h1 h2 h3 h4) ?_
 have I1:Inv X pins σ H { s with heap:=s.heap.push { cls:=.type "range", data:=.fields #[.int lo t,.int hi u,.int 1 v] },toks:=tk }:=I.kept fun b o e=>Heap.get?_push_of_some _ e
 refine ⟨(s.heap.push { cls:=.type "range", data:=.fields #[.int lo t,.int hi u,.int 1 v] }).objs.size,[(s.heap.push { cls:=.type "range", data:=.fields #[.int lo t,.int hi u,.int 1 v] }).objs.size],_,_,H,rfl,
  I1.kept (t':=tk) fun b o e=>Heap.get?_push_of_some _ e,turn_range _ lo (hi - lo).toNat,?_,fun b hb=>?_,q⟩
 ·have e1:lo+((0:Nat) : Int) * 1=lo:=by simp
  have e2:(((hi - lo).toNat:Nat) : Int) - ((0:Nat) : Int)=Builtin.Range.rangeSize lo hi 1:=by rw [rangeSize_one]; split <;> omega
  show IsRangeIter _ _ (lo+((0:Nat) : Int) * 1) ((((hi - lo).toNat:Nat) : Int) - ((0:Nat) : Int)) 1
  rw [e1,e2]
  exact Heap.get?_push_size _ rfl
 ·have e:b=(s.heap.push { cls:=.type "range", data:=.fields #[.int lo t,.int hi u,.int 1 v] }).objs.size:=by simpa using hb
  subst e
  exact I1.fpOk (Nat.le_refl _) (I1.hok.fresh (Nat.le_refl _))
def iRng1 (ta:TA) : TI:=fun σ H R=>ta σ H fun vs H1=>∃ j:Int,vs=[.int j]∧-(2 ^ 62)≤j∧j<2 ^ 62∧R (Itr 0 j.toNat) H1
def iRng2 (ta:TA) : TI:=fun σ H R=>ta σ H fun vs H1=>∃ i j:Int,vs=[.int i,.int j]∧(-(2 ^ 62)≤i∧i<2 ^ 62∧-(2 ^ 62)≤j∧j<2 ^ 62)∧R (Itr i (j - i).toNat) H1
theorem pi_range1 {a:Expr} {ta:TA} {p pos:Pos} (hg:Gl X "range") (hm:X.mg "range" = none) (ha:PA X [a] ta) (hs:starEach [a] X.env=[(false,eval a X.env)]:=by rfl) : PI X tg (.Call (.Name "range" p) [a] [] pos) (iRng1 ta):=by
 intro pins s σ H R I h
 refine Call_ (ld_blt I hg hm boot_range (PyProof.Rows.callWith_type1 (thn (ha pos pins s σ H _ I h) fun us s1 ⟨vs,H1,I1,r1,q1⟩=>?_) hs rfl))
 obtain ⟨j,e,q1,q2,q⟩:=q1
 subst e
 cases r1 with
 | cons r rr =>
  cases rr
  obtain ⟨t,rfl⟩:=r
  exact call_range_1 (range_it I1 (by omega) (by omega) q1 q2 (by simpa using q))
theorem pi_range2 {a b:Expr} {ta:TA} {p pos:Pos} (hg:Gl X "range") (hm:X.mg "range" = none) (ha:PA X [a,b] ta) (hs:starEach [a,b] X.env=[(false,eval a X.env),(false,eval b X.env)]:=by rfl) (hs2:starEach [b] X.env=[(false,eval b X.env)]:=by rfl) :
  PI X tg (.Call (.Name "range" p) [a,b] [] pos) (iRng2 ta):=by
 intro pins s σ H R I h
 refine Call_ (ld_blt I hg hm boot_range (PyProof.Rows.callWith_type1 (thn (ha pos pins s σ H _ I h) fun us s1 ⟨vs,H1,I1,r1,q1⟩=>?_) (by rw [hs,hs2]) (by rw [hs2]; rfl)))
 obtain ⟨i,j,e,⟨q1,q2,q3,q4⟩,q⟩:=q1
 subst e
 cases r1 with
 | cons r rr =>
  cases rr with
  | cons r' rr =>
   cases rr
   obtain ⟨t,rfl⟩:=r
   obtain ⟨t',rfl⟩:=r'
   exact call_range_2 (range_it I1 q1 q2 q3 q4 q)
def tFor (wi:TI) (g:TG) (tb:TS) : TS:=fun D σ H=>wi σ H fun J H1=>∃ W:Nat→Nat→St→Hp→Prop,(∃ m,W 0 m σ H1)∧∀ i m σ H,W i m σ H →
 (J.stop i H∧D.nx σ H)∨(J.go i H∧∃ N:St→Hp→Prop,(∀ σ' H',N σ' H'→∃ m',m'<m∧W (i+1) m' σ' H')∧∀ x H',J.yld i H x H'→g x σ H' fun σ2 H2=>tb { D with nx:=N,ct:=N,bk:=D.nx } σ2 H2)
def pinsAt (fp:List Addr) (h:Heap) : List (Addr × Obj):=fp.filterMap fun b=>(h.get? b).map fun o=>(b,o)
theorem mem_pinsAt {fp:List Addr} {h:Heap} {b:Addr} {o:Obj} (hb:b∈fp) (e:h.get? b=some o) : (b,o)∈pinsAt fp h:=List.mem_filterMap.mpr ⟨b,hb,by rw [e]; rfl⟩
theorem of_pinsAt {fp:List Addr} {h:Heap} {p:Addr × Obj} (hp:p∈pinsAt fp h) : p.1∈fp∧h.get? p.1=some p.2:=by
 obtain ⟨b,hb,e⟩:=List.mem_filterMap.mp hp
 cases q:h.get? b with
 | none=>rw [q] at e; cases e
 | some o =>
  rw [q] at e
  have e':(b,o)=p:=Option.some.inj e
  subst e'
  exact ⟨hb,q⟩
theorem Inv.pinned {pins:List (Addr × Obj)} {σ : St} {H:Hp} {s:Shared} {fp:List Addr} (I:Inv X pins σ H s) (hf : ∀ b∈fp,FpOk X pins H b) (ho : ∀ b∈fp,∃ o,s.heap.get? b=some o∧∀ v,o.data≠.cell v) : Inv X (pins++pinsAt fp s.heap) σ H s :=
 I.pins_of fun p hp=>(List.mem_append.mp hp).elim (fun z=>I.pin p (List.mem_append_right _ z)) fun z=>by
  obtain ⟨hb,e⟩:=of_pinsAt z
  obtain ⟨f0,f1,f2,_⟩:=hf p.1 hb
  obtain ⟨o,e',d⟩:=ho p.1 hb
  rw [e] at e'; cases e'
  exact ⟨e,f0,f1,f2,d⟩
theorem Inv.unpinned {pins pl:List (Addr × Obj)} {σ : St} {H:Hp} {s:Shared} (I:Inv X (pins++pl) σ H s) : Inv X pins σ H s:=I.pins_of fun p hp=>I.pin p (List.mem_append_right _ (List.mem_append_left _ hp))
theorem ps_for {iter:Expr} {body:List Stmt} {wi:TI} {g:TG} {tb:TS} {pos:Pos} (hp:PassesOwn (model X.prog X.w) X.A X.env X.xe) (hc:X.calm=true) (hi:PI X tg iter wi) (hg:PG X tg g) (hb:PSs X body tb)
  (hs : ∀ x,foldedSetIterable iter X.env x=pure x:=by intro _; rfl) : PS X (.For tg iter body [] pos) (tFor wi g tb):=by
 intro pins s σ H D I h
 refine wpAny_For (thn (hi pins s σ H _ I h) fun v s1 h1=>thn h1 fun itv s2 h2=>?_) hs
 obtain ⟨it,fp,tn,J,H2,e,I2,T,st2,f2,W,⟨m0,w0⟩,turn⟩:=h2
 subst e
 -- what stays true of the iterator's objects through the loop
 have stat : ∀ {H':Hp},(∀ b∈fp,H' b=none)→∀ b∈fp,FpOk X pins H' b:=fun hn b hb=>⟨hn b hb,(f2 b hb).2⟩
 refine codeAny_forLoop_any (fun n s'=>∃ i σ' H',Inv X pins σ' H' s'∧tn i s'.heap∧(∀ b∈fp,H' b=none)∧W i n σ' H') ?_ m0 ⟨0,σ,H2,I2,st2,fun b hb=>(f2 b hb).1,w0⟩
 rintro n s3 ⟨i,σ3,H3,I3,st3,fr3,w3⟩
 rcases turn i n σ3 H3 w3 with ⟨stop,qn⟩ | ⟨go,N,hN,step⟩
 ·refine wpAny_passesOwn hp (thn (T.done X rfl rfl rfl hc i pins s3 σ3 H3 X.xe I3 (stat fr3) st3 stop) fun r s4 ⟨hr,I4⟩=>?_)
  subst hr
  exact wpAny_execs_nil ⟨σ3,H3,I4,qn⟩
 ·refine wpAny_passesOwn hp (thn (T.item X rfl rfl rfl hc i pins s3 σ3 H3 X.xe I3 (stat fr3) st3 go) fun r s4 ⟨u,hr,h4⟩=>?_)
  subst hr
  refine wpAny_passesOwn hp (thn h4 fun _ s5 ⟨x,H5,I5,r5,y5,st5,fr5⟩=>?_)
  have I5':=I5.pinned (stat fr5) (T.obj _ _ st5)
  refine wpAny_passesOwn hp (thn (hg _ s5 σ3 H5 x u _ I5' r5 (step x H5 y5)) fun _ s6 ⟨σ6,H6,I6,q6⟩=>?_)
  refine wpAny_passesOwn hp (thn (hb _ s6 σ6 H6 _ I6 q6) fun f s7 q7=>?_)
  have again : ∀ {σ7:St} {H7:Hp},Inv X (pins++pinsAt fp s5.heap) σ7 H7 s7→N σ7 H7→∃ m,m<n∧∃ i σ' H',Inv X pins σ' H' s7∧tn i s7.heap∧(∀ b∈fp,H' b=none)∧W i m σ' H':=fun {σ7 H7} I7 n7=>by
   obtain ⟨m',hm,w7⟩:=hN σ7 H7 n7
   refine ⟨m',hm,i+1,σ7,H7,I7.unpinned,T.keep _ _ _ st5 fun b hb o e=>(I7.pin (b,o) (List.mem_append_right _ (List.mem_append_right _ (mem_pinsAt hb e)))).1,fun b hb=>?_,w7⟩
   obtain ⟨o,e,d⟩:=T.obj _ _ st5 b hb
   exact (I7.pin (b,o) (List.mem_append_right _ (List.mem_append_right _ (mem_pinsAt hb e)))).2.1
  cases f with
  | next=>obtain ⟨σ7,H7,I7,n7⟩:=q7; exact again I7 n7
  | cont=>obtain ⟨σ7,H7,I7,n7⟩:=q7; exact again I7 n7
  | brk=>obtain ⟨σ7,H7,I7,q7⟩:=q7; exact ⟨σ7,H7,I7.unpinned,q7⟩
  | ret v=>obtain ⟨x7,σ7,H7,I7,r7,q7⟩:=q7; exact ⟨x7,σ7,H7,I7.unpinned,r7,q7⟩
end
theorem for_list {K:PySem.W.Frag} {a:Addr} {xs:List V} {g:TG} {tb:TS} {D:Ends} {σ : St} {H:Hp} (Pv:Nat→St→Hp→Prop) (h0:Pv 0 σ H) (hl : ∀ i σ H,i≤xs.length→Pv i σ H→SqL K H a xs)
  (hs : ∀ i x σ H,xs[i]?=some x→Pv i σ H→g x σ H fun σ2 H2=>tb { D with nx:=Pv (i+1),ct:=Pv (i+1),bk:=D.nx } σ2 H2) (hd : ∀ σ H,Pv xs.length σ H→D.nx σ H) :
  ∃ W:Nat→Nat→St→Hp→Prop,(∃ m,W 0 m σ H)∧∀ i m σ H,W i m σ H →
   ((Itl K a).stop i H∧D.nx σ H)∨((Itl K a).go i H∧∃ N:St→Hp→Prop,(∀ σ' H',N σ' H'→∃ m',m'<m∧W (i+1) m' σ' H')∧∀ x H',(Itl K a).yld i H x H'→g x σ H' fun σ2 H2=>tb { D with nx:=N,ct:=N,bk:=D.nx } σ2 H2):=by
 refine ⟨fun i m σ H=>m=xs.length - i∧i≤xs.length∧Pv i σ H,⟨xs.length,by simp,Nat.zero_le _,h0⟩,?_⟩
 rintro i m σ H ⟨rfl,hi,p⟩
 have q:=hl i σ H hi p
 by_cases hlt:i<xs.length
 ·refine .inr ⟨⟨xs,xs[i],q,by simp [hlt]⟩,Pv (i+1),fun σ' H' p'=>⟨xs.length - (i+1),by omega,rfl,hlt,p'⟩,fun x H' y=>?_⟩
  obtain ⟨e,y⟩:=y
  subst e
  exact hs i x σ _ (y xs q) p
 ·have e:i=xs.length:=by omega
  subst e
  exact .inl ⟨⟨xs,q,Nat.le_refl _⟩,hd σ H p⟩
theorem for_tup {K:PySem.W.Frag} {a:Addr} {xs:List V} {g:TG} {tb:TS} {D:Ends} {σ : St} {H:Hp} (Pv:Nat→St→Hp→Prop) (h0:Pv 0 σ H) (hl : ∀ i σ H,i≤xs.length→Pv i σ H→SqT K H a xs)
  (hs : ∀ i x σ H,xs[i]?=some x→Pv i σ H→g x σ H fun σ2 H2=>tb { D with nx:=Pv (i+1),ct:=Pv (i+1),bk:=D.nx } σ2 H2) (hd : ∀ σ H,Pv xs.length σ H→D.nx σ H) :
  ∃ W:Nat→Nat→St→Hp→Prop,(∃ m,W 0 m σ H)∧∀ i m σ H,W i m σ H →
   ((Itt K a).stop i H∧D.nx σ H)∨((Itt K a).go i H∧∃ N:St→Hp→Prop,(∀ σ' H',N σ' H'→∃ m',m'<m∧W (i+1) m' σ' H')∧∀ x H',(Itt K a).yld i H x H'→g x σ H' fun σ2 H2=>tb { D with nx:=N,ct:=N,bk:=D.nx } σ2 H2):=by
 refine ⟨fun i m σ H=>m=xs.length - i∧i≤xs.length∧Pv i σ H,⟨xs.length,by simp,Nat.zero_le _,h0⟩,?_⟩
 rintro i m σ H ⟨rfl,hi,p⟩
 have q:=hl i σ H hi p
 by_cases hlt:i<xs.length
 ·refine .inr ⟨⟨xs,xs[i],q,by simp [hlt]⟩,Pv (i+1),fun σ' H' p'=>⟨xs.length - (i+1),by omega,rfl,hlt,p'⟩,fun x H' y=>?_⟩
  obtain ⟨e,y⟩:=y
  subst e
  exact hs i x σ _ (y xs q) p
 ·have e:i=xs.length:=by omega
  subst e
  exact .inl ⟨⟨xs,q,Nat.le_refl _⟩,hd σ H p⟩
theorem for_range {lo:Int} {n:Nat} {g:TG} {tb:TS} {D:Ends} {σ : St} {H:Hp} (Pv:Nat→St→Hp→Prop) (h0:Pv 0 σ H)
  (hs : ∀ i σ H,i<n→Pv i σ H→g (.int (lo+i)) σ H fun σ2 H2=>tb { D with nx:=Pv (i+1),ct:=Pv (i+1),bk:=D.nx } σ2 H2) (hd : ∀ σ H,Pv n σ H→D.nx σ H) :
  ∃ W:Nat→Nat→St→Hp→Prop,(∃ m,W 0 m σ H)∧∀ i m σ H,W i m σ H →
   ((Itr lo n).stop i H∧D.nx σ H)∨((Itr lo n).go i H∧∃ N:St→Hp→Prop,(∀ σ' H',N σ' H'→∃ m',m'<m∧W (i+1) m' σ' H')∧∀ x H',(Itr lo n).yld i H x H'→g x σ H' fun σ2 H2=>tb { D with nx:=N,ct:=N,bk:=D.nx } σ2 H2):=by
 refine ⟨fun i m σ H=>m=n - i∧i≤n∧Pv i σ H,⟨n,by simp,Nat.zero_le _,h0⟩,?_⟩
 rintro i m σ H ⟨rfl,hi,p⟩
 by_cases hlt:i<n
 ·refine .inr ⟨hlt,Pv (i+1),fun σ' H' p'=>⟨n - (i+1),by omega,rfl,hlt,p'⟩,fun x H' y=>?_⟩
  obtain ⟨e,y⟩:=y
  subst e y
  exact hs i σ _ hlt p
 ·have e:i=n:=by omega
  subst e
  exact .inl ⟨Nat.le_refl _,hd σ H p⟩
end L2
namespace L2
open PySem PySem.Spec PyProof.Rows
abbrev R2:=V→V→Hp→VK→Prop
def OpR (X:Cx) (f:Value→Value→Sem Value) (r:R2) : Prop :=
 ∀ (pins:List (Addr × Obj)) (s:Shared) (σ : St) (H:Hp) (x y:V) (v u:Value) (Q:VK),Inv X pins σ H s→RelV x v→RelV y u→r x y H Q →
  wpAny (model X.prog X.w) X.A (f v u) (EP X pins σ Q) X.xe s
def UnR (X:Cx) (f:Value→Sem Value) (r:V→Hp→VK→Prop) : Prop :=
 ∀ (pins:List (Addr × Obj)) (s:Shared) (σ : St) (H:Hp) (x:V) (v:Value) (Q:VK),Inv X pins σ H s→RelV x v→r x H Q →
  wpAny (model X.prog X.w) X.A (f v) (EP X pins σ Q) X.xe s
def CallR (X:Cx) (f:Value) (r:List V→Hp→VK→Prop) : Prop :=
 ∀ (pins:List (Addr × Obj)) (s:Shared) (σ : St) (H:Hp) (xs:List V) (us:List Value) (Q:VK),Inv X pins σ H s→Vals xs us→r xs H Q →
  wpAny (model X.prog X.w) X.A (call f us) (EP X pins σ Q) X.xe s
def tOp (r:R2) (ta tb:TE) : TE:=fun σ H Q=>ta σ H fun x H1=>tb σ H1 fun y H2=>r x y H2 Q
def tUn (r:V→Hp→VK→Prop) (ta:TE) : TE:=fun σ H Q=>ta σ H fun x H1=>r x H1 Q
def rI (C:Int→Int→Prop) (g:Int→Int→V) : R2:=fun x y H Q=>∃ i j,x=.int i∧y=.int j∧C i j∧Q (g i j) H
def rI0 (g:Int→Int→V) : R2:=fun x y H Q=>∃ i j,x=.int i∧y=.int j∧Q (g i j) H
def rU (g:Int→V) : V→Hp→VK→Prop:=fun x H Q=>∃ i,x=.int i∧Q (g i) H
section
variable {X:Cx} {a b c:Expr} {ta tb tc:TE} {pos:Pos}
theorem binT (ha:PE X a ta) (hb:PE X b tb) {pins:List (Addr × Obj)} {s:Shared} {σ : St} {H:Hp} {R:V→V→Hp→Prop} (I:Inv X pins σ H s)
  (h:ta σ H fun x H1=>tb σ H1 fun y H2=>R x y H2) {Q:Value→Shared→Prop} {f:Value→Value→Sem Value}
  (hf : ∀ v u s2 x y H2,Inv X pins σ H2 s2→RelV x v→RelV y u→R x y H2→wpAny (model X.prog X.w) X.A (f v u) Q X.xe s2) :
  wpAny (model X.prog X.w) X.A (eval a X.env) (fun v s₁=>wpAny (model X.prog X.w) X.A (eval b X.env) (fun u s₂=>wpAny (model X.prog X.w) X.A (f v u) Q X.xe s₂) X.xe s₁) X.xe s:=by
 refine thn (ha pins s σ H _ I h) fun v s1 ⟨x,H1,I1,r1,q1⟩=>?_
 refine thn (hb pins s1 σ H1 _ I1 q1) fun u s2 ⟨y,H2,I2,r2,q2⟩=>?_
 exact hf v u s2 x y H2 I2 r1 r2 q2
theorem pe_op {op:Operator} {r:R2} (ho:OpR X (binaryOp op) r) (ha:PE X a ta) (hb:PE X b tb) : PE X (.BinOp a op b pos) (tOp r ta tb):=by
 intro pins s σ H Q I h
 exact wpAny_BinOp (binT ha hb I h fun v u s2 x y H2 I2 rx ry q=>ho pins s2 σ H2 x y v u Q I2 rx ry q)
theorem pe_un {op:UnaryOp} {r:V→Hp→VK→Prop} (ho:UnR X (unaryOp op) r) (ha:PE X a ta) : PE X (.UnaryOp op a pos) (tUn r ta):=by
 intro pins s σ H Q I h
 exact UnaryOp_ (thn (ha pins s σ H _ I h) fun v s1 ⟨x,H1,I1,r1,q1⟩=>ho pins s1 σ H1 x v Q I1 r1 q1)
theorem opI {f:Value→Value→Sem Value} {C:Int→Int→Prop} {g:Int→Int→Int}
  (rule : ∀ (i j:Int) (t u:Tok) (s:Shared) (Q:Value→Shared→Prop) (E:Value→Shared→Prop),C i j→Q (.int (g i j) s.toks) { s with toks:=s.toks+1 }→wpAny (model X.prog X.w) X.A (f (.int i t) (.int j u)) Q E s) :
  OpR X f (rI C fun i j=>.int (g i j)):=by
 intro pins s σ H x y v u Q I rx ry h
 obtain ⟨i,j,rfl,rfl,hc,q⟩:=h
 obtain ⟨t,rfl⟩:=rx
 obtain ⟨t',rfl⟩:=ry
 exact rule i j t t' s _ _ hc ⟨.int (g i j),H,I.tok _,⟨_,rfl⟩,q⟩
theorem opI0 {f:Value→Value→Sem Value} {g:Int→Int→Int}
  (rule : ∀ (i j:Int) (t u:Tok) (s:Shared) (Q:Value→Shared→Prop) (E:Value→Shared→Prop),Q (.int (g i j) s.toks) { s with toks:=s.toks+1 }→wpAny (model X.prog X.w) X.A (f (.int i t) (.int j u)) Q E s) :
  OpR X f (rI0 fun i j=>.int (g i j)):=by
 intro pins s σ H x y v u Q I rx ry h
 obtain ⟨i,j,rfl,rfl,q⟩:=h
 obtain ⟨t,rfl⟩:=rx
 obtain ⟨t',rfl⟩:=ry
 exact rule i j t t' s _ _ ⟨.int (g i j),H,I.tok _,⟨_,rfl⟩,q⟩
theorem opB0 {f:Value→Value→Sem Value} {g:Int→Int→Bool}
  (rule : ∀ (i j:Int) (t u:Tok) (s:Shared) (Q:Value→Shared→Prop) (E:Value→Shared→Prop),Q (.bool (g i j)) s→wpAny (model X.prog X.w) X.A (f (.int i t) (.int j u)) Q E s) :
  OpR X f (rI0 fun i j=>.bl (g i j)):=by
 intro pins s σ H x y v u Q I rx ry h
 obtain ⟨i,j,rfl,rfl,q⟩:=h
 obtain ⟨t,rfl⟩:=rx
 obtain ⟨t',rfl⟩:=ry
 exact rule i j t t' s _ _ ⟨.bl (g i j),H,I,rfl,q⟩
def CPow (i j:Int) : Prop:=0≤j∧j≤1000000∧i.natAbs<2 ^ 64
def CMul (i j:Int) : Prop:=(-(2 ^ 64)<i∧i<2 ^ 64)∨(-(2 ^ 64)<j∧j<2 ^ 64)
theorem CMul.ok {i j:Int} (h:CMul i j) : IntMulOk i j:=by
 rcases h with ⟨h1,h2⟩ | ⟨h1,h2⟩
 ·exact .of_left (intBits_le_64 h1 h2)
 ·exact .of_right (intBits_le_64 h1 h2)
theorem op_add:OpR X (binaryOp .Add) (rI0 fun i j=>.int (i+j)):=opI0 fun _ _ _ _ _ _ _ q=>add_int q
theorem op_sub:OpR X (binaryOp .Sub) (rI0 fun i j=>.int (i - j)):=opI0 fun _ _ _ _ _ _ _ q=>sub_int q
theorem op_mul:OpR X (binaryOp .Mult) (rI CMul fun i j=>.int (i * j)):=opI fun _ _ _ _ _ _ _ hc q=>mul_int q hc.ok
theorem op_mod:OpR X (binaryOp .Mod) (rI (fun _ j=>0<j) fun i j=>.int (i % j)):=opI fun i j _ _ _ _ _ hc q=>by
 have h1:(0:Int)<j:=hc
 exact mod_int' (by omega) (by rw [Int.fmod_eq_emod_of_nonneg i (by omega)]; exact q)
theorem op_pow:OpR X (binaryOp .Pow) (rI CPow fun i j=>.int (i ^ j.toNat)):=opI fun _ _ _ _ _ _ _ hc q=>pow_int_small hc.1 hc.2.1 hc.2.2 q
theorem unI {f:Value→Sem Value} {g:Int→Int}
  (rule : ∀ (i:Int) (t:Tok) (s:Shared) (Q:Value→Shared→Prop) (E:Value→Shared→Prop),Q (.int (g i) s.toks) { s with toks:=s.toks+1 }→wpAny (model X.prog X.w) X.A (f (.int i t)) Q E s) :
  UnR X f (rU fun i=>.int (g i)):=by
 intro pins s σ H x v Q I rx h
 obtain ⟨i,rfl,q⟩:=h
 obtain ⟨t,rfl⟩:=rx
 exact rule i t s _ _ ⟨.int (g i),H,I.tok _,⟨_,rfl⟩,q⟩
theorem un_neg:UnR X (unaryOp .USub) (rU fun i=>.int (-i)):=unI fun _ _ _ _ _ q=>neg_int q
end
def scal:V→V→Bool
 | .non,.non=>true | .non,.int _=>true | .int _,.non=>true | .non,.bl _=>true | .bl _,.non=>true | .non,.str _=>true | .str _,.non=>true
 | .int _,.int _=>true | .bl _,.bl _=>true | .str _,.str _=>true | .byt _,.byt _=>true
 | .int _,.str _=>true | .str _,.int _=>true | .bl _,.str _=>true | .str _,.bl _=>true
 | _,_=>false
def rEq:R2:=fun x y H Q=>scal x y=true∧Q (.bl (decide (x=y))) H
def rNe:R2:=fun x y H Q=>scal x y=true∧Q (.bl (!decide (x=y))) H
theorem dec_int {i j:Int} : decide (V.int i=V.int j)=(i == j):=by
 rw [Bool.eq_iff_iff]
 simp
theorem dec_bl {i j:Bool} : decide (V.bl i=V.bl j)=(i == j):=by
 rw [Bool.eq_iff_iff]
 simp
theorem dec_str {i j:Str} : decide (V.str i=V.str j)=(i == j):=by
 rw [Bool.eq_iff_iff]
 simp
theorem dec_byt {i j:Array UInt8} : decide (V.byt i=V.byt j)=(i.toList == j.toList):=by
 rw [Bool.eq_iff_iff]
 cases i
 cases j
 simp
section
variable {X:Cx} {a b c:Expr} {ta tb tc:TE} {pos:Pos}
theorem fin_bl {pins:List (Addr × Obj)} {σ : St} {H:Hp} {s:Shared} {Q:VK} {k k':Bool} (I:Inv X pins σ H s) (q:Q (.bl k) H) (e:k=k') : EP X pins σ Q (.bool k') s:=by
 subst e
 exact ⟨.bl k,H,I,rfl,q⟩
theorem op_eq:OpR X (compareOp .Eq) rEq:=by
 intro pins s σ H x y v u Q I rx ry h
 obtain ⟨hs,q⟩:=h
 cases x with
 | non =>
  cases rx
  cases y with
  | non=>cases ry; exact PySem.EqNone.eq_none_none (fin_bl I q (by simp))
  | bl j=>cases ry; exact PySem.EqNone.eq_none_bool (fin_bl I q (by simp))
  | int j=>obtain ⟨t',rfl⟩:=ry; exact PySem.EqNone.eq_none_int (fin_bl I q (by simp))
  | str j=>obtain ⟨t',rfl⟩:=ry; exact PySem.EqNone.eq_none_str (fin_bl I q (by simp))
  | _=>exact absurd (show false=true from hs) Bool.false_ne_true
 | bl i =>
  cases rx
  cases y with
  | non=>cases ry; exact PySem.EqNone.eq_bool_none (fin_bl I q (by simp))
  | bl j=>cases ry; exact eq_bool (fin_bl I q dec_bl)
  | str j=>obtain ⟨t',rfl⟩:=ry; exact PySem.EqMixed.eq_bool_str (fin_bl I q (by simp))
  | _=>exact absurd (show false=true from hs) Bool.false_ne_true
 | int i =>
  obtain ⟨t,rfl⟩:=rx
  cases y with
  | non=>cases ry; exact PySem.EqNone.eq_int_none (fin_bl I q (by simp))
  | int j=>obtain ⟨t',rfl⟩:=ry; exact eq_int (fin_bl I q dec_int)
  | str j=>obtain ⟨t',rfl⟩:=ry; exact PySem.EqMixed.eq_int_str (fin_bl I q (by simp))
  | _=>exact absurd (show false=true from hs) Bool.false_ne_true
 | str i =>
  obtain ⟨t,rfl⟩:=rx
  cases y with
  | non=>cases ry; exact PySem.EqNone.eq_str_none (fin_bl I q (by simp))
  | bl j=>cases ry; exact PySem.EqMixed.eq_str_bool (fin_bl I q (by simp))
  | int j=>obtain ⟨t',rfl⟩:=ry; exact PySem.EqMixed.eq_str_int (fin_bl I q (by simp))
  | str j=>obtain ⟨t',rfl⟩:=ry; exact eq_str (fin_bl I q dec_str)
  | _=>exact absurd (show false=true from hs) Bool.false_ne_true
 | byt i =>
  obtain ⟨t,rfl⟩:=rx
  cases y with
  | byt j=>obtain ⟨t',rfl⟩:=ry; exact PySem.W.eq_bytes (fin_bl I q dec_byt)
  | _=>exact absurd (show false=true from hs) Bool.false_ne_true
 | _=>cases y <;> exact absurd (show false=true from hs) Bool.false_ne_true
theorem op_ne:OpR X (compareOp .NotEq) rNe:=by
 intro pins s σ H x y v u Q I rx ry h
 obtain ⟨hs,q⟩:=h
 cases x with
 | non =>
  cases rx
  cases y with
  | non=>cases ry; exact PySem.EqNone.ne_none_none (fin_bl I q (by simp))
  | bl j=>cases ry; exact PySem.EqNone.ne_none_bool (fin_bl I q (by simp))
  | int j=>obtain ⟨t',rfl⟩:=ry; exact PySem.EqNone.ne_none_int (fin_bl I q (by simp))
  | str j=>obtain ⟨t',rfl⟩:=ry; exact PySem.EqNone.ne_none_str (fin_bl I q (by simp))
  | _=>exact absurd (show false=true from hs) Bool.false_ne_true
 | bl i =>
  cases rx
  cases y with
  | non=>cases ry; exact PySem.EqNone.ne_bool_none (fin_bl I q (by simp))
  | bl j=>cases ry; exact ne_bool (fin_bl I q (congrArg not dec_bl))
  | str j=>obtain ⟨t',rfl⟩:=ry; exact PySem.EqMixed.ne_bool_str (fin_bl I q (by simp))
  | _=>exact absurd (show false=true from hs) Bool.false_ne_true
 | int i =>
  obtain ⟨t,rfl⟩:=rx
  cases y with
  | non=>cases ry; exact PySem.EqNone.ne_int_none (fin_bl I q (by simp))
  | int j=>obtain ⟨t',rfl⟩:=ry; exact ne_int (fin_bl I q (congrArg not dec_int))
  | str j=>obtain ⟨t',rfl⟩:=ry; exact PySem.EqMixed.ne_int_str (fin_bl I q (by simp))
  | _=>exact absurd (show false=true from hs) Bool.false_ne_true
 | str i =>
  obtain ⟨t,rfl⟩:=rx
  cases y with
  | non=>cases ry; exact PySem.EqNone.ne_str_none (fin_bl I q (by simp))
  | bl j=>cases ry; exact PySem.EqMixed.ne_str_bool (fin_bl I q (by simp))
  | int j=>obtain ⟨t',rfl⟩:=ry; exact PySem.EqMixed.ne_str_int (fin_bl I q (by simp))
  | str j=>obtain ⟨t',rfl⟩:=ry; exact ne_str (fin_bl I q (congrArg not dec_str))
  | _=>exact absurd (show false=true from hs) Bool.false_ne_true
 | byt i =>
  obtain ⟨t,rfl⟩:=rx
  cases y with
  | byt j=>obtain ⟨t',rfl⟩:=ry; exact PySem.W.ne_bytes (fin_bl I q (congrArg not dec_byt))
  | _=>exact absurd (show false=true from hs) Bool.false_ne_true
 | _=>cases y <;> exact absurd (show false=true from hs) Bool.false_ne_true
theorem op_lt:OpR X (compareOp .Lt) (rI0 fun i j=>.bl (decide (i<j))):=opB0 fun _ _ _ _ _ _ _ q=>lt_int q
theorem op_le:OpR X (compareOp .LtE) (rI0 fun i j=>.bl (decide (i≤j))):=opB0 fun _ _ _ _ _ _ _ q=>le_int q
theorem op_gt:OpR X (compareOp .Gt) (rI0 fun i j=>.bl (decide (j<i))):=opB0 fun _ _ _ _ _ _ _ q=>gt_int q
theorem nomark (b:Expr) {op:CmpOp} (h:op≠.In:=by decide) (h2:op≠.NotIn:=by decide) : behindInMarks op b=false:=by
 have e1:(op == CmpOp.In)=false:=by cases op <;> first | rfl | exact absurd rfl h
 have e2:(op == CmpOp.NotIn)=false:=by cases op <;> first | rfl | exact absurd rfl h2
 cases b <;> simp [behindInMarks,e1,e2]
theorem pe_cmpR {op:CmpOp} {r:R2} (ho:OpR X (compareOp op) r) (ha:PE X a ta) (hb:PE X b tb) (hm:behindInMarks op b=false) : PE X (.Compare a [op] [b] pos) (tOp r ta tb):=by
 intro pins s σ H Q I h
 exact wpAny_Compare1 (binT ha hb I h fun v u s2 x y H2 I2 rx ry q=>ho pins s2 σ H2 x y v u Q I2 rx ry q) hm
def tTest (t:TE) : TT:=fun σ H Q=>t σ H fun x H'=>∃ k,x=.bl k∧Q k H'
theorem pt_cmpR {op:CmpOp} {r:R2} (ho:OpR X (compareOp op) r) (ha:PE X a ta) (hb:PE X b tb) (hm:behindInMarks op b=false) : PT X (.Compare a [op] [b] pos) (tTest (tOp r ta tb)):=by
 intro pins s σ H Q I h
 refine wpAny_isTrue_Compare1 (thn (ha pins s σ H _ I h) fun v s1 ⟨x,H1,I1,r1,q1⟩=>thn (hb pins s1 σ H1 _ I1 q1) fun u s2 ⟨y,H2,I2,r2,q2⟩ =>
  thn (ho pins s2 σ H2 x y v u _ I2 r1 r2 q2) fun c s3 ⟨z,H3,I3,r3,k,e,q3⟩=>?_) hm
 subst e
 cases r3
 exact wpAny_truthy_bool ⟨H3,I3,q3⟩
def tChain (r r':R2) (ta tb tc:TE) : TE:=fun σ H Q=>ta σ H fun x H1=>tb σ H1 fun y H2=>r x y H2 fun z H3=>∃ k,z=.bl k ∧
 (if k=true then tc σ H3 fun w' H4=>r' y w' H4 Q else Q (.bl false) H3)
theorem pe_chain {op op':CmpOp} {r r':R2} (ho:OpR X (compareOp op) r) (ho':OpR X (compareOp op') r') (ha:PE X a ta) (hb:PE X b tb) (hc:PE X c tc)
  (hm:lastMarks [op,op'] [b,c]=false:=by with_unfolding_all rfl) : PE X (.Compare a [op,op'] [b,c] pos) (tChain r r' ta tb tc):=by
 intro pins s σ H Q I h
 refine Compare_chain (thn (ha pins s σ H _ I h) fun v s1 ⟨x,H1,I1,r1,q1⟩=>chain_link (thn (hb pins s1 σ H1 _ I1 q1) fun u s2 ⟨y,H2,I2,r2,q2⟩ =>
  thn (ho pins s2 σ H2 x y v u _ I2 r1 r2 q2) fun d s3 ⟨z,H3,I3,r3,k,e,q3⟩=>?_)) hm
 subst e
 cases r3
 refine wpAny_truthy_bool ?_
 cases k with
 | false=>exact ite_ff ⟨.bl false,H3,I3,rfl,q3⟩
 | true=>exact ite_tt (chain_last (thn (hc pins s3 σ H3 _ I3 q3) fun w' s4 ⟨z',H4,I4,r4,q4⟩=>ho' pins s4 σ H4 y z' u w' Q I4 r2 r4 q4))
theorem line63:(sizeLine:Nat)<2 ^ 63:=by rw [sizeLine_eq]; decide
theorem vals1 {x:V} {us:List Value} (r:Vals [x] us) : ∃ u,us=[u]∧RelV x u:=by
 cases r with
 | cons r1 r2=>cases r2; exact ⟨_,rfl,r1⟩
theorem vals2 {x y:V} {us:List Value} (r:Vals [x,y] us) : ∃ u w',us=[u,w']∧RelV x u∧RelV y w':=by
 cases r with
 | cons r1 r2 =>
  cases r2 with
  | cons r3 r4=>cases r4; exact ⟨_,_,rfl,r1,r3⟩
theorem call_abs:CallR X (.builtin "abs") (fun xs H Q=>∃ i,xs=[.int i]∧Q (.int (if i<0 then -i else i)) H):=by
 intro pins s σ H xs us Q I r h
 obtain ⟨i,rfl,q⟩:=h
 obtain ⟨u,rfl,t,rfl⟩:=vals1 r
 exact call_abs_int fun u tk=>⟨.int (if i<0 then -i else i),H,I.tok _,⟨_,rfl⟩,q⟩
theorem call_str_int:CallR X (.type "str") (fun xs H Q=>∃ i,xs=[.int i]∧i.natAbs.log2<1920∧Q (.str (toString i)) H):=by
 intro pins s σ H xs us Q I r h
 obtain ⟨i,rfl,hz,q⟩:=h
 obtain ⟨u,rfl,t,rfl⟩:=vals1 r
 exact PySem.P.str_of_int hz ⟨.str _,H,I.tok _,⟨_,rfl⟩,q⟩
end
end L2
namespace L2
open PySem PySem.Spec PyProof.Rows
structure ObjM (h:Heap) (x dx C:Addr) (mA:Str→Option Value) : Prop where
 obj:h.get? x=some (PySem.W.instObj C dx)
 ns:h.Ns1 dx mA
 ne:dx≠x
theorem lookIn_ns {h:Heap} {dx:Addr} {mA:Str→Option Value} (n:h.Ns1 dx mA) : ∃ od,h.get? dx=some od∧∀ name,PySem.W.lookIn name od=some (mA name):=by
 obtain ⟨o,es,ep,ho,hd,hk,_,hm⟩:=n
 refine ⟨o,ho,fun name=>?_⟩
 have e:=hm name
 unfold nsFind findBy at e
 rw [← Array.find?_toList] at e
 unfold PySem.W.lookIn
 rw [hd]
 dsimp only
 split
 ·rename_i y q
  rw [q] at e
  exact congrArg some e
 ·rename_i q
  rw [q] at e
  have a:es.toList.any (·.refKey)=false:=by
   rw [List.any_eq_false]
   intro y hy
   obtain ⟨z,t,hkey⟩:=hk y (Array.mem_toList_iff.mp hy)
   simp [DictEntry.refKey,hkey]
  have a' : ¬ es.toList.any (·.refKey)=true:=by rw [a]; exact Bool.false_ne_true
  rw [if_neg a']
  exact congrArg some e
theorem ObjM.look {h:Heap} {x dx C:Addr} {mA:Str→Option Value} (I:ObjM h x dx C mA) : ∃ od,PySem.W.InstAt h x (PySem.W.instObj C dx) C (some od)∧∀ name,PySem.W.lookIn name od=some (mA name) :=
 let ⟨od,ho,hl⟩:=lookIn_ns I.ns
 ⟨od,⟨I.obj,rfl,rfl,ho⟩,hl⟩
section
variable {P:Program} {w:World} {H H':Hp} {h h':Heap} {a C dx:Addr} {fs fs':List (Str × V)}
theorem ins_get (hok:HOk P w H h) (e:H a=some (.ins C dx fs)) : ∃ mA,ObjM h a dx C mA∧(∀ f,RelO (fs.lookup f) (mA f))∧PySem.Within mA (fs.map (·.1))∧fs.length≤1000∧H dx=some (.own a):=by
 obtain ⟨d,z,ne,ob,mA,n,r,q⟩:=(show ObjOk P w H h a (.ins C dx fs) from hok a _ e)
 exact ⟨mA,⟨ob,n,ne⟩,r,q,z,d⟩
end
structure Cls (K:PySem.W.Frag) (C:Addr) : Prop where
 pg:PySem.W.plainGet K C Str.empty=true
 hd:PySem.W.hasDictIn K C=true
 po:PySem.W.plainOver K C=true
 sa:PySem.W.findIn K (.ref C) "__setattr__" = some (some (.builtin "object.__setattr__"))
theorem Cls.get {K:PySem.W.Frag} {C:Addr} (c:Cls K C) (f:Str) : PySem.W.plainGet K C f=true:=c.pg
structure Con (K:PySem.W.Frag) (C:Addr) (f:Str) (v:V) (u:Value) : Prop where
 at_:PySem.W.findIn K (.ref C) f=some (some u)
 rel:RelV v u
 get:PySem.W.specialIn K u "__get__" = some none
 cp:PySem.W.copiedNames.contains f=false
structure Meth (K:PySem.W.Frag) (C:Addr) (m:Str) (f:Addr) : Prop where
 at_:PySem.W.findIn K (.ref C) m=some (some (.ref f))
 fn:PySem.W.isFn K (.ref f)=true
 kp:PySem.W.keepIn K (.ref f)=true
section
variable {X:Cx} {pins:List (Addr × Obj)} {σ : St} {H:Hp} {s:Shared} {A:Around} {E:Value→Shared→Prop} {Q:Value→Shared→Prop} {c:Value} {b:Bool}
inductive TyOf (K:PySem.W.Frag) (H:Hp) : V→Value→Prop where
 | non:TyOf K H .non (.type "NoneType")
 | bl (x:Bool) : TyOf K H (.bl x) (.type "bool")
 | int (i:Int) : TyOf K H (.int i) (.type "int")
 | str (x:Str) : TyOf K H (.str x) (.type "str")
 | flt (x:UInt64) : TyOf K H (.flt x) (.type "float")
 | lst {a:Addr} {xs:List V} (e:H a=some (.lst xs)) : TyOf K H (.ref a) (.type "list")
 | frz {a:Addr} {o:Obj} {xs:List V} (e:H a=some (.frz o (.lst xs))) : TyOf K H (.ref a) (.type "list")
 | tup {a:Addr} {xs:List V} (e:H a=some (.tup xs)) : TyOf K H (.ref a) (.type "tuple")
 | dK {a:Addr} {kvs:List (Key × V)} (e:H a=some (.dK kvs)) : TyOf K H (.ref a) (.type "dict")
 | dT {a:Addr} {kvs:List (List Key × V)} (e:H a=some (.dT kvs)) : TyOf K H (.ref a) (.type "dict")
 | ins {a C dx:Addr} {fs:List (Str × V)} (e:H a=some (.ins C dx fs)) (cl:Cls K C) (ha:PySem.W.findIn K (.ref C) "__class__" = some (some (.builtin "object.__class__")))
   (hn:PySem.W.specialIn K (.builtin "object.__class__") "__get__" = some (some (.builtin "getset_descriptor.__get__"))) (htk:PySem.W.takesIn K (.builtin "object.__class__")=some true)
   (hm:PySem.W.mroIn K C (.type "object")=some true) : TyOf K H (.ref a) (.ref C)
theorem isinst_ok {x:V} {u t:Value} (I:Inv X pins σ H s) (rx:RelV x u) (ty:TyOf X.K H x t) (e:PySem.W.kitOne X.K t c=some b) (h : ∀ tk,Q (.bool b) { s with toks:=tk }) :
  wpAny (model X.prog X.w) A (call (.builtin "isinstance") [u,c]) Q E s:=by
 cases ty with
 | non=>cases (show u=Value.none from rx); exact PySem.W.kia_one PySem.W.kitx_none I.kIn True.intro e (fun z=>nomatch z) h
 | bl y=>cases (show u=Value.bool y from rx); exact PySem.W.kia_one PySem.W.kitx_bool I.kIn True.intro e (fun z=>nomatch z) h
 | int i=>obtain ⟨t,q⟩:=(show ∃ t,u=Value.int i t from rx); cases q; exact PySem.W.kia_one PySem.W.kitx_int I.kIn True.intro e (fun z=>nomatch z) h
 | str y=>obtain ⟨t,q⟩:=(show ∃ t,u=Value.str y t from rx); cases q; exact PySem.W.kia_one PySem.W.kitx_str I.kIn True.intro e (fun z=>nomatch z) h
 | flt y=>obtain ⟨t,q⟩:=(show ∃ t,u=Value.float y t from rx); cases q; exact PySem.W.kia_one PySem.W.kitx_float I.kIn True.intro e (fun z=>nomatch z) h
 | @lst a xs ea =>
  cases (show u=Value.ref a from rx)
  obtain ⟨_,_,n,_,h1⟩:=(show ObjOk X.prog X.w H s.heap a (.lst xs) from I.hok a _ ea)
  exact PySem.W.kia_one PySem.W.kitx_list I.kIn ⟨_,h1,rfl⟩ e (fun z=>nomatch z) h
 | @frz a ob xs ea =>
  cases (show u=Value.ref a from rx)
  obtain ⟨_,_,_,n,_,h1⟩:=(show ObjOk X.prog X.w H s.heap a (.frz ob (.lst xs)) from I.hok a _ ea)
  exact PySem.W.kia_one PySem.W.kitx_list I.kIn ⟨_,h1,rfl⟩ e (fun z=>nomatch z) h
 | @tup a xs ea =>
  cases (show u=Value.ref a from rx)
  obtain ⟨_,_,_,p⟩:=(show ObjOk X.prog X.w H s.heap a (.tup xs) from I.hok a _ ea)
  obtain ⟨o,h1,h2,_⟩:=p
  exact PySem.W.kia_one PySem.W.kitx_tuple I.kIn ⟨o,h1,h2⟩ e (fun z=>nomatch z) h
 | @dK a kvs ea =>
  cases (show u=Value.ref a from rx)
  obtain ⟨_,_,vs,_,p⟩:=(show ObjOk X.prog X.w H s.heap a (.dK kvs) from I.hok a _ ea)
  obtain ⟨o,es,ep,h1,h2,_⟩:=p
  exact PySem.W.kia_one PySem.W.kitx_dict I.kIn ⟨o,h1,h2.1⟩ e (fun z=>nomatch z) h
 | @dT a kvs ea =>
  cases (show u=Value.ref a from rx)
  obtain ⟨_,_,xs,_,o,es,ep,h1,h2,_⟩:=(show ObjOk X.prog X.w H s.heap a (.dT kvs) from I.hok a _ ea)
  exact PySem.W.kia_one PySem.W.kitx_dict I.kIn ⟨o,h1,h2.1⟩ e (fun z=>nomatch z) h
 | @ins a C dx fs ea cl ha hn htk hm =>
  cases (show u=Value.ref a from rx)
  obtain ⟨mA,O,_⟩:=ins_get I.hok ea
  obtain ⟨od,J,_⟩:=O.look
  exact PySem.W.kia_one (PySem.W.kitx_own (cl.get _) cl.hd ha hn htk hm) I.kIn J e (fun z=>nomatch z) h
end
end L2
namespace L2
open PySem PySem.Spec PyProof.Rows
structure Room (k:Nat) (A:Around) : Prop where
 hd:A.handled=none
 gd:A.guards=some []
 dp:A.depth+3 * k+5<recursionLimit
 un:A.units+16 * k+200<cLine
theorem Room.mono {j k:Nat} {A:Around} (r:Room k A) (h:j≤k) : Room j A:=⟨r.hd,r.gd,by have:=r.dp; omega,by have:=r.un; omega⟩
theorem Room.deeper {k:Nat} {A:Around} (r:Room (k+1) A) (env:Env) : Room k (A.deeper env) :=
 ⟨r.hd,r.gd,by have:=r.dp; show A.depth+1+3 * k+5<_; omega,by have:=r.un; show A.units+3+16 * k+200<_; omega⟩
theorem Room.depth {k:Nat} {A:Around} (r:Room k A) : A.depth<recursionLimit:=by have:=r.dp; omega
theorem Room.units {k:Nat} {A:Around} (r:Room k A) : A.units+64<cLine:=by have:=r.un; omega
def tNil:TA:=fun _ H Q=>Q [] H
def tCons (ta:TE) (tr:TA) : TA:=fun σ H Q=>ta σ H fun x H1=>tr σ H1 fun xs H2=>Q (x :: xs) H2
section
variable {X:Cx} {e:Expr} {es:List Expr} {te:TE} {t:TA} {pos:Pos}
theorem pa_nil:PA X [] tNil:=fun _ _ _ _ H Q I h=>Calls.spliced_nil ⟨[],H,I,.nil,h⟩
theorem pa_cons (ha:PE X e te) (hr:PA X es t) (hs:starEach (e :: es) X.env=(false,eval e X.env) :: starEach es X.env:=by rfl) : PA X (e :: es) (tCons te t):=by
 intro pos pins s σ H Q I h
 rw [hs]
 show wpAny _ _ (spliced ((false,eval e X.env) :: backTo pos (starEach es X.env))) _ _ s
 refine Calls.spliced_cons (thn (ha pins s σ H _ I h) fun u s1 ⟨x,H1,I1,r1,q1⟩=>?_)
 exact thn (hr pos pins s1 σ H1 _ I1 q1) fun us s2 ⟨xs,H2,I2,r2,q2⟩=>⟨x :: xs,H2,I2,.cons r1 r2,q2⟩
def tTup (t:TA) : TE:=fun σ H Q=>t σ H fun xs H1=>xs.length≤sizeLine∧∀ p,H1 p=none→Q (.ref p) (upd H1 p (.tup xs))
def tLst (t:TA) : TE:=fun σ H Q=>t σ H fun xs H1=>xs.length≤sizeLine∧∀ p,H1 p=none→Q (.ref p) (upd H1 p (.lst xs))
theorem pe_tup {x1} (h:PA X es t) : PE X (.Tuple es x1 pos) (tTup t):=by
 intro pins s σ H Q I hq
 refine wpAny_Tuple_spliced (thn (h pos pins s σ H _ I hq) fun us s1 ⟨xs,H1,I1,r,z,q⟩=>⟨by rw [← r.length]; exact z,?_⟩)
 have hf:H1 s1.heap.objs.size=none:=I1.hok.fresh (Nat.le_refl _)
 refine ⟨.ref s1.heap.objs.size,upd H1 s1.heap.objs.size (.tup xs),I1.laid (t':=s1.toks) (fun b u e=>Heap.get?_push_of_some _ e) (Nat.le_refl _) ?_,rfl,q _ hf⟩
 exact ⟨z,us,r,⟨_,Heap.get?_push_size _ rfl,rfl,_,rfl⟩⟩
theorem pe_lst (h:PA X es t) : PE X (.List es pos) (tLst t):=by
 intro pins s σ H Q I hq
 refine wpAny_List_spliced (thn (h pos pins s σ H _ I hq) fun us s1 ⟨xs,H1,I1,r,z,q⟩=>⟨by rw [← r.length]; exact z,?_⟩)
 have hf:H1 s1.heap.objs.size=none:=I1.hok.fresh (Nat.le_refl _)
 refine ⟨.ref s1.heap.objs.size,upd H1 s1.heap.objs.size (.lst xs),I1.laid (t':=s1.toks) (fun b u e=>Heap.get?_push_of_some _ e) (Nat.le_refl _) ?_,rfl,q _ hf⟩
 exact ⟨z,us,0,r,Heap.get?_push_size _ rfl⟩
end
abbrev Sp:=List V→Hp→VK→XK→Prop
abbrev CXT:=List Env→Hp→Shared→XK→Value→Shared→Prop
structure Env0 (P:Program) (w:World) (K:PySem.W.Frag) (mg:Str→Option Value) (base:Heap) (A:Around) (outer:List Env) (s:Shared) (H:Hp) : Prop where
 frames:A.frames=some outer
 mod:Mod K mg base
 bs : ∀ b o,base.get? b=some o→s.heap.get? b=some o∧H b=none
 bsz:base.objs.size≤s.heap.objs.size
 funs:s.heap.FunFrames base outer
 frf : ∀ b∈frs outer,H b=none
 hok:HOk P w H s.heap
 bare:AllBare s.gens
def CE (outer:List Env) (P:Program) (w:World) (H:Hp) (s:Shared) (Q:VK) (u:Value) (s':Shared) : Prop :=
 ∃ v H',s'.os=s.os∧AllBare s'.gens∧Un (frs outer) [] H H' s.heap s'.heap∧HOk P w H' s'.heap∧RelV v u∧Q v H'
def CR (CX:CXT) (outer:List Env) (P:Program) (w:World) (H:Hp) (s:Shared) (Q:VK) (E:XK) (r:Result) (s':Shared) : Prop :=
 match r with
 | .ok (.ret u)=>CE outer P w H s Q u s'
 | .ok _=>False
 | .error e=>CX outer H s E e s'
structure FnOk (P:Program) (w:World) (K:PySem.W.Frag) (mg:Str→Option Value) (base:Heap) (CX:CXT) (k:Nat) (f:Addr) (fd:FuncData) (ps:List Str) (sp:Sp) : Prop where
 len : ∀ vs H Q E,sp vs H Q E→vs.length=ps.length
 run : ∀ (A:Around) (outer:List Env) (s:Shared) (H:Hp) (args:Args) (us:List Value) (vs:List V) (Q:VK) (E:XK),Room k A→Env0 P w K mg base A outer s H→BindsTo s fd args (ps.zip us)→Vals vs us→sp vs H Q E →
  codeAny (model P w) A (.call (.ref f) args) (CR CX outer P w H s Q E) s
section
variable {X:Cx} {pins:List (Addr × Obj)} {σ : St} {H:Hp} {s s':Shared}
theorem Inv.env0 (I:Inv X pins σ H s) : Env0 X.prog X.w X.K X.mg X.base X.A X.stack s H :=
 ⟨I.ok.frames,I.ok.mod,I.bs,Nat.le_trans I.ok.bsz I.sz,I.stack,I.stkFree,I.hok,I.bare⟩
theorem Inv.after {Q:VK} {u:Value} (I:Inv X pins σ H s) (h:CE X.stack X.prog X.w H s Q u s') : EP X pins σ Q u s':=by
 obtain ⟨v,H',os,bare,un,hok,r,q⟩:=h
 obtain ⟨hh,g,d,t,os'⟩:=s'
 obtain rfl:os'=s.os:=os
 exact ⟨v,H',I.call (h':=hh) (g':=g) (d':=d) (t':=t) (ch:=[]) un hok bare (fun b z=>absurd z (by simp)),r,q⟩
end
def tCall (sp:Sp) (dvs:List V) (E:XK) (t:TA) : TE:=fun σ H Q=>t σ H fun vs H1=>sp (vs++dvs) H1 Q E
def Binds (K:PySem.W.Frag) (fd:FuncData) (ps:List Str) (ds:List Value) : Prop :=
 ∀ (s:Shared) (us:List Value),K.In s.heap→(us++ds).length=ps.length→BindsTo s fd ⟨us,[]⟩ (ps.zip (us++ds))
theorem Binds.all {K:PySem.W.Frag} {fd:FuncData} {ps:List Str} (h : ∀ us:List Value,us.length=ps.length→bindArgs fd ⟨us,[]⟩=pure (ps.zip us)) : Binds K fd ps []:=fun s us _ hl=>by
 rw [List.append_nil] at hl ⊢
 exact .of_eq (h us hl)
def Passes (CX:CXT) (X:Cx) (E:XK) : Prop:=∀ (pins:List (Addr × Obj)) (σ : St) (H:Hp) (s:Shared) (e:Value) (s':Shared),Inv X pins σ H s→CX X.stack H s E e s'→X.xe e s'
section
variable {X:Cx} {CX:CXT} {k:Nat} {f C:Addr} {fd:FuncData} {ps:List Str} {sp:Sp} {dvs:List V} {ds:List Value} {E:XK} {x m:Str} {p pos apos:Pos} {e o:Expr} {es:List Expr} {ta:TE} {t:TA}
theorem run_fn {pins:List (Addr × Obj)} {σ : St} {H:Hp} {s:Shared} {Q:VK} {us:List Value} {vs:List V} (F:FnOk X.prog X.w X.K X.mg X.base CX k f fd ps sp) (hr:Room k X.A) (hb:Binds X.K fd ps ds) (hd:Vals dvs ds) (hx:Passes CX X E)
  (I:Inv X pins σ H s) (r:Vals vs us) (h:sp (vs++dvs) H Q E) : wpAny (model X.prog X.w) X.A (call (.ref f) us) (EP X pins σ Q) X.xe s:=by
 have r2:Vals (vs++dvs) (us++ds):=r.append hd
 have hl:(us++ds).length=ps.length:=by rw [← r2.length]; exact F.len _ _ _ _ h
 refine wpAny_call (codeAny_mono (F.run X.A X.stack s H ⟨us,[]⟩ (us++ds) (vs++dvs) Q E hr I.env0 (hb s us I.kIn hl) r2 h) fun r s' hq=>?_)
 cases r with
 | error e=>exact hx pins σ H s e s' I hq
 | ok fl =>
  cases fl with
  | ret u=>exact I.after hq
  | next=>exact False.elim hq
  | brk=>exact False.elim hq
  | cont=>exact False.elim hq
theorem pe_call (F:FnOk X.prog X.w X.K X.mg X.base CX k f fd ps sp) (hr:Room k X.A) (hg:Gl X x) (hm:X.mg x=some (.ref f)) (hk:PySem.W.keepIn X.K (.ref f)=true) (hb:Binds X.K fd ps ds) (hd:Vals dvs ds) (hx:Passes CX X E)
  (ha:PA X (e :: es) t) (hdb:(x == ("__debug__" : Str))=false:=by decide) (he:starEach (e :: es) X.env=(false,eval e X.env) :: starEach es X.env:=by rfl) (hpl:(backTo pos (starEach es X.env)).any (·.1)=false:=by rfl) :
  PE X (.Call (.Name x p) (e :: es) [] pos) (tCall sp dvs E t):=by
 intro pins s σ H Q I h
 refine wpAny_Call_Name_kw (ld_glob I hg hm ?_ hdb)
 refine PySem.W.callWith_K (h₀:=X.base) I.ok.mod.kin hk (thn (ha pos pins s σ H _ I h) fun us s1 ⟨vs,H1,I1,r,q⟩=>⟨I1.kIn,?_⟩) he hpl
 exact run_fn F hr hb hd hx I1 r q
structure Mk (K:PySem.W.Frag) (C f:Addr) : Prop where
 makes:PySem.W.makesIn K C=true
 init:PySem.W.findIn K (.ref C) "__init__" = some (some (.ref f))
 fn:PySem.W.isFn K (.ref f)=true
 kp:PySem.W.keepIn K (.ref C)=true
end
def PK (X:Cx) (kws:List Keyword) (t:TA) : Prop :=
 ∀ (pos:Pos) (pins:List (Addr × Obj)) (s:Shared) (σ : St) (H:Hp) (Q:List V→Hp→Prop),Inv X pins σ H s→t σ H Q→wpAny (model X.prog X.w) X.A (evalAll ((backToKw pos (keywordEach kws X.env)).map (·.2))) (AP X pins σ Q) X.xe s
section
variable {X:Cx} {CX:CXT} {k:Nat} {f C:Addr} {fd:FuncData} {ps ks:List Str} {sp:Sp} {E:XK} {x m:Str} {p pos apos kpos:Pos} {e o:Expr} {es:List Expr} {kws:List Keyword} {te ta:TE} {t tk:TA} {nm:Option Str}
structure KBinds (K:PySem.W.Frag) (fd:FuncData) (ps ks:List Str) (g:List Value→List Value→List Value) (gV:List V→List V→List V) : Prop where
 to : ∀ (s:Shared) (us ws:List Value),K.In s.heap→(g us ws).length=ps.length→BindsTo s fd ⟨us,ks.zip ws⟩ (ps.zip (g us ws))
 rel : ∀ {vs:List V} {us:List Value} {zs:List V} {ws:List Value},Vals vs us→Vals zs ws→Vals (gV vs zs) (g us ws)
variable {g:List Value→List Value→List Value} {gV:List V→List V→List V}
end
structure FnScope (N P:List Str) (sc:Scope) : Prop where
 kind:sc.kind=.function
 co:sc.isCoroutine=false
 gen:sc.isGenerator=false
 nd:N.Nodup
 pre:N.take P.length=P
 par : ∀ x∈P,sc.names.lookup x=some .local∨sc.names.lookup x=some .cell
 nofree : ∀ y∈sc.names,y.2≠.free
theorem bindL_out {kindOf:Str→Option NameKind} {x:Str} : ∀ {binds:List (Str × Value)} {m:Str→Option Value},(∀ v,(x,v)∉binds)→bindL kindOf binds m x=m x
 | [],_,_=>rfl
 | (n,v) :: r,m,h=>by
  unfold bindL
  rw [bindL_out fun w hw=>h w (List.mem_cons_of_mem _ hw)]
  split
  ·have:x≠n:=by rintro rfl; exact h v List.mem_cons_self
   simp [this]
  ·rfl
theorem bindC_out {kindOf:Str→Option NameKind} {x:Str} : ∀ {binds:List (Str × Value)} {m:Str→Option Value},(∀ v,(x,v)∉binds)→bindC kindOf binds m x=m x
 | [],_,_=>rfl
 | (n,v) :: r,m,h=>by
  unfold bindC
  rw [bindC_out fun w hw=>h w (List.mem_cons_of_mem _ hw)]
  split
  ·rfl
  ·have:x≠n:=by rintro rfl; exact h v List.mem_cons_self
   simp [this]
theorem bindL_get {kindOf:Str→Option NameKind} {x:Str} {v:Value} : ∀ {P:List Str} {vs:List Value} {i:Nat} {m:Str→Option Value},P.Nodup→P[i]?=some x→vs[i]?=some v→kindOf x=some .local →
  bindL kindOf (P.zip vs) m x=some v
 | [],_,_,_,_,h,_,_=>by simp at h
 | _ :: _,[],_,_,_,_,h,_=>by simp at h
 | p :: P,w :: vs,0,m,nd,h1,h2,hk=>by
  simp at h1 h2; subst h1; subst h2
  show bindL kindOf ((p,w) :: P.zip vs) m p=_
  unfold bindL
  rw [bindL_out fun v hv=>(List.nodup_cons.mp nd).1 (List.of_mem_zip hv).1,if_pos hk]
  simp
 | p :: P,w :: vs,i+1,m,nd,h1,h2,hk=>by
  show bindL kindOf ((p,w) :: P.zip vs) m x=_
  unfold bindL
  exact bindL_get (i:=i) (List.nodup_cons.mp nd).2 (by simpa using h1) (by simpa using h2) hk
theorem bindC_get {kindOf:Str→Option NameKind} {x:Str} {v:Value} : ∀ {P:List Str} {vs:List Value} {i:Nat} {m:Str→Option Value},P.Nodup→P[i]?=some x→vs[i]?=some v→kindOf x≠some .local →
  bindC kindOf (P.zip vs) m x=some v
 | [],_,_,_,_,h,_,_=>by simp at h
 | _ :: _,[],_,_,_,_,h,_=>by simp at h
 | p :: P,w :: vs,0,m,nd,h1,h2,hk=>by
  simp at h1 h2; subst h1; subst h2
  show bindC kindOf ((p,w) :: P.zip vs) m p=_
  unfold bindC
  rw [bindC_out fun v hv=>(List.nodup_cons.mp nd).1 (List.of_mem_zip hv).1,if_neg hk]
  simp
 | p :: P,w :: vs,i+1,m,nd,h1,h2,hk=>by
  show bindC kindOf ((p,w) :: P.zip vs) m x=_
  unfold bindC
  exact bindC_get (i:=i) (List.nodup_cons.mp nd).2 (by simpa using h1) (by simpa using h2) hk
def start (N:List Str) (vs:List V) : St:=vs.map some++List.replicate (N.length - vs.length) none
def cxOf (CX:CXT) (P:Program) (w:World) (K:PySem.W.Frag) (mg:Str→Option Value) (base:Heap) (N:List Str) (qual:Str) (scope:Scope) (f:Addr) (cd:Value) (A:Around) (outer:List Env) (s:Shared) (H:Hp) (E:XK) : Cx where
 prog:=P
 w:=w
 K:=K
 mg:=mg
 base:=base
 A:=A.deeper (envOfC qual scope s.heap.objs.size f cd)
 N:=N
 s₀:=s
 H₀:=H
 env:=envOfC qual scope s.heap.objs.size f cd
 outer:=outer
 stack:=envOfC qual scope s.heap.objs.size f cd :: outer
 ex:=[]
 calm:=true
 fn:=fun _=>true
 pn:=[]
 xe:=fun e s'=>wpAny (model P w) (A.deeper (envOfC qual scope s.heap.objs.size f cd)) (leaving (envOfC qual scope s.heap.objs.size f cd) e) (fun _ s''=>CX outer H s E e s'') (fun e' s''=>CX outer H s E e' s'') s'
theorem cell_has {sc:Scope} {n:Nat} {x:Str} (h:sc.names.lookup x=some .cell) : ∃ c,(cellsFrom n sc.names []).lookup x=some c:=by
 have q:=PySem.W.cellsFrom_some sc.names n [] (.inl h)
 exact Option.isSome_iff_exists.mp q
theorem inv_start {CX:CXT} {P:Program} {w:World} {K:PySem.W.Frag} {mg:Str→Option Value} {base:Heap} {N ps:List Str} {qual:Str} {scope:Scope} {f:Addr} {cd:Value} {A:Around} {outer:List Env} {s s1:Shared} {H:Hp} {E:XK} {us:List Value} {vs:List V}
  (S:FnScope N ps scope) (hd:A.handled=none) (e0:Env0 P w K mg base A outer s H) (hl:vs.length=ps.length) (r:Vals vs us)
  (x:InCallC s s.heap.objs.size (bindL (envOfC qual scope s.heap.objs.size f cd).kindOf (ps.zip us) fun _=>none) (cellsFrom (s.heap.objs.size+1) scope.names []) (bindC (envOfC qual scope s.heap.objs.size f cd).kindOf (ps.zip us) fun _=>none) s1) :
  Inv (cxOf CX P w K mg base N qual scope f cd A outer s H E) [] (start N vs) H s1:=by
 have hpl:ps.length≤N.length:=by have:=congrArg List.length S.pre; rw [List.length_take] at this; omega
 obtain ⟨h1,tk,rfl,hk⟩:=x.done
 have noA : ∀ b:Addr,b∉(cxOf CX P w K mg base N qual scope f cd A outer s H E).ex:=fun b z=>absurd (show b∈([] : List Addr) from z) (by simp)
 refine ⟨⟨e0.mod,S.kind,rfl,rfl,Nat.le_refl _,fun y z c h1 h2=>?_,fun y hy=>?_,fun y c _ h=>?_,fun _=>hd,Around.frames_deeper e0.frames,.inr ⟨rfl,rfl⟩,fun b z=>absurd z (noA b),e0.bs,e0.bsz,fun b _ _=>noA b,fun b z=>absurd z (noA b),e0.funs,e0.frf⟩,
  rfl,e0.bare,Un.kept hk,⟨_,x.toInCall.ns,fun i y v h1 h2 h3=>?_⟩,fun y c h=>⟨_,x.cell y c h⟩,e0.hok.fresh (Nat.le_refl _),fun y c h=>?_,fun p hp=>absurd (show p∈([] : List (Addr × Obj)) from hp) (by simp),e0.hok.kept hk,?_⟩
 ·exact name_of_addr x.apart (PySem.mem_of_lookup h1) (PySem.mem_of_lookup h2)
 ·have hy:scope.names.lookup y=some .cell∨scope.names.lookup y=some .free:=hy
  rcases hy with hy | hy
  ·exact cell_has hy
  ·exact absurd rfl (S.nofree _ (PySem.mem_of_lookup hy))
 ·exact Nat.le_of_lt (x.above y c (PySem.mem_of_lookup h))
 ·have hi:i<vs.length:=by
   unfold start at h2
   by_cases hi:i<vs.length
   ·exact hi
   ·rw [List.getElem?_append_right (by simpa using hi)] at h2
    rw [List.getElem?_replicate] at h2
    split at h2 <;> cases h2
  have ha:vs[i]?=some v:=by
   unfold start at h2
   rw [List.getElem?_append_left (by simpa using hi),List.getElem?_map] at h2
   cases e:vs[i]? with
   | none=>rw [e] at h2; cases h2
   | some a=>rw [e] at h2; cases h2; rfl
  obtain ⟨u,hu,rv⟩:=r.get ha
  have hp:ps[i]?=some y:=by
   rw [← S.pre,List.getElem?_take_of_lt (by omega)]; exact h1
  have ndP:ps.Nodup:=by rw [← S.pre]; exact S.nd.sublist (List.take_sublist _ _)
  refine ⟨u,rv,?_⟩
  rcases S.par y (List.mem_of_getElem? hp) with k | k
  ·exact .inl ⟨k,bindL_get ndP hp hu k⟩
  ·obtain ⟨c,e⟩:=cell_has (n:=s.heap.objs.size+1) k
   refine .inr ⟨.inl k,c,e,?_⟩
   have q:=x.cell y c e
   rw [bindC_get ndP hp hu (by show scope.names.lookup y≠_; rw [k]; decide)] at q
   exact q
 ·exact e0.hok.fresh (Nat.le_of_lt (x.above y c (PySem.mem_of_lookup h)))
 ·unfold start
  show _=N.length
  rw [List.length_append,List.length_map,List.length_replicate]
  omega
theorem fn_of {CX:CXT} {P:Program} {w:World} {K:PySem.W.Frag} {mg:Str→Option Value} {base:Heap} {k:Nat} {f:Addr} {name qual:Str} {params:Arguments} {body:List Stmt} {scope:Scope} {dV kV doc pm cdv ct oc:Value} {an od:Option Addr}
  {osl:Array (Option Value)} {N ps:List Str} {sp:Sp} (lk:K.lookup f=some ⟨oc,od,.func (PySem.W.fnOf name qual params body scope dV kV doc pm an cdv ct),osl⟩) (hcd:PySem.W.codeIn K cdv qual=true) (S:FnScope N ps scope)
  (len : ∀ vs H Q E,sp vs H Q E→vs.length=ps.length)
  (hbody : ∀ (A:Around) (outer:List Env) (s:Shared) (H:Hp) (vs:List V) (Q:VK) (E:XK),Room k (A.deeper (envOfC qual scope s.heap.objs.size f cdv))→sp vs H Q E →
   ∃ t,PSs (cxOf CX P w K mg base N qual scope f cdv A outer s H E) body t∧t { nx:=fun _ H'=>Q .non H',rt:=Q } (start N vs) H) :
  FnOk P w K mg base CX (k+1) f (PySem.W.fnOf name qual params body scope dV kV doc pm an cdv ct) ps sp:=by
 refine ⟨len,fun A outer s H args us vs Q E hr e0 hb r hsp=>?_⟩
 have hl:=len _ _ _ _ hsp
 have KX:K.In s.heap:=e0.mod.kin.keeps fun b o e=>(e0.bs b o e).1
 have lim:s.heap.NoLimit:=e0.mod.nolimit.keeps fun b o e=>(e0.bs b o e).1
 have hkind : ∀ y∈ps.zip us,scope.names.lookup y.1=some .local∨(scope.names.lookup y.1=some .cell∧((cellsFrom (s.heap.objs.size+1) scope.names []).lookup y.1).isSome=true):=fun ⟨n,v⟩ hy=>by
  rcases S.par n (List.of_mem_zip hy).1 with q | q
  ·exact .inl q
  ·exact .inr ⟨q,PySem.W.cellsFrom_some _ _ _ (.inl q)⟩
 refine codeAny_call_function hr.depth (KX _ _ lk) rfl S.co S.gen rfl (PySem.W.codeRec_of KX hcd) (hb _ _ _ _ ?_)
 refine wpAny_newFunctionEnv_cells S.kind hkind fun env he s1 x=>?_
 subst he
 refine ⟨lim.keeps x.toInCall.keep,codeAny_func ?_⟩
 obtain ⟨t,ht,hq⟩:=hbody A outer s H vs Q E (hr.deeper _) hsp
 have I:Inv (cxOf CX P w K mg base N qual scope f cdv A outer s H E) [] (start N vs) H s1:=inv_start S hr.hd e0 hl r x
 refine wpAny_mono (ht [] s1 (start N vs) H _ I hq) (fun fl s' hs=>?_) fun e s' hs=>hs
 have fin : ∀ {σ':St} {H':Hp} {v:V} {u:Value},Inv (cxOf CX P w K mg base N qual scope f cdv A outer s H E) [] σ' H' s'→RelV v u→Q v H'→CE outer P w H s Q u s' :=
  fun {σ' H' v u} J rv q=>⟨v,H',J.os,J.bare,J.base,J.hok,rv,q⟩
 cases fl with
 | ret u =>
  obtain ⟨v,σ',H',J,rv,q⟩:=hs
  exact fin J rv q
 | next =>
  obtain ⟨σ',H',J,q⟩:=hs
  exact fin (v:=V.non) (u:=Value.none) J rfl q
 | brk =>
  obtain ⟨_,_,_,q⟩:=hs
  exact False.elim q
 | cont =>
  obtain ⟨_,_,_,q⟩:=hs
  exact False.elim q
end L2
namespace L2
open PySem PySem.Spec PyProof.Rows
section
variable {X:Cx} {x:Str} {p pos:Pos} {e:Expr} {es:List Expr} {t:TA} {id T:String} {r:List V→Hp→VK→Prop}
def tCB (r:List V→Hp→VK→Prop) (t:TA) : TE:=fun σ H Q=>t σ H fun vs H1=>r vs H1 Q
theorem pe_callB (hc:CallR X (.builtin id) r) (hg:Gl X x) (hm:X.mg x=none) (hv:bootBuiltins x=some (.builtin id)) (ha:PA X (e :: es) t) (hn:x ≠ "__name__" := by decide) (hdb:(x == ("__debug__" : Str))=false:=by decide)
  (he:starEach (e :: es) X.env=(false,eval e X.env) :: starEach es X.env:=by rfl) (hpl:(backTo pos (starEach es X.env)).any (·.1)=false:=by rfl) : PE X (.Call (.Name x p) (e :: es) [] pos) (tCB r t):=by
 intro pins s σ H Q I h
 refine wpAny_Call_Name_kw (ld_blt I hg hm hv ?_ hn hdb)
 exact PyProof.Rows.callWith_builtin1 (thn (ha pos pins s σ H _ I h) fun us s1 ⟨vs,H1,I1,r1,q1⟩=>hc pins s1 σ H1 vs us Q I1 r1 q1) he hpl
theorem pe_callTy (hc:CallR X (.type T) r) (hg:Gl X x) (hm:X.mg x=none) (hv:bootBuiltins x=some (.type T)) (ha:PA X (e :: es) t) (hn:x ≠ "__name__" := by decide) (hdb:(x == ("__debug__" : Str))=false:=by decide)
  (he:starEach (e :: es) X.env=(false,eval e X.env) :: starEach es X.env:=by rfl) (hpl:(backTo pos (starEach es X.env)).any (·.1)=false:=by rfl) : PE X (.Call (.Name x p) (e :: es) [] pos) (tCB r t):=by
 intro pins s σ H Q I h
 refine wpAny_Call_Name_kw (ld_blt I hg hm hv ?_ hn hdb)
 exact PyProof.Rows.callWith_type1 (thn (ha pos pins s σ H _ I h) fun us s1 ⟨vs,H1,I1,r1,q1⟩=>hc pins s1 σ H1 vs us Q I1 r1 q1) he hpl
end
end L2
namespace HT
open PySem PyProof.Rows
theorem rcLt_int (A:Around) (s:Shared) (a:Int) (t:Tok) (c:Int) (u:Tok) (prog:Program) (w:World) (E:Value→Shared→Prop) (Q:Value→Shared→Prop) (h:Q (.bool (decide (a<c))) s) :
  wpAny (model prog w) A (richCompare .Lt (.int a t) (.int c u)) Q E s :=
 (PyProof.Rows.lt_int h:wpAny (model prog w) A (compareOp .Lt (.int a t) (.int c u)) Q E s)
section
variable {prog:Program} {w:World} {A:Around} {E:Value→Shared→Prop} {s:Shared}
theorem cat_tup {t b:Addr} {vs ws:List Value} {Q:Value→Shared→Prop} (ht:IsTup s.heap t vs.toArray) (hb:IsTup s.heap b ws.toArray) (hv:vs≠[])
  (h1:ws=[]→Q (.ref t) s) (h2:ws≠[]→Q (.ref s.heap.objs.size) { s with heap:=s.heap.push { cls:=.type "tuple", data:=.seq (vs++ws).toArray } })
  (hsz:vs.length+ws.length≤sizeLine) : wpAny (model prog w) A (binaryOp .Add (.ref t) (.ref b)) Q E s:=by
 obtain ⟨⟨cls,dd,data,sl⟩,ho,hc,n,hd⟩:=id ht
 obtain ⟨⟨cls2,dd2,data2,sl2⟩,ho2,hc2,n2,hd2⟩:=id hb
 simp only at hc hd hc2 hd2
 subst hc hd hc2 hd2
 have e:vs.toArray++ws.toArray=(vs++ws).toArray:=by simp
 by_cases hw:ws=[]
 ·exact concat_meets ⟨_,ho,rfl⟩ ⟨_,ho2,rfl⟩ noFill_tuple_add seq_tuple_add PySem.F.slot_tuple_add PySem.F.entry_tuple_add (PySem.F.args_tuple_add_2 _ _)
   (tuple_addW1 t b vs.toArray ws.toArray n n2 dd dd2 sl sl2 (by simpa using hv) (by simp [hw])) ⟨ho,ho2,h1 hw⟩
 ·refine concat_meets ⟨_,ho,rfl⟩ ⟨_,ho2,rfl⟩ noFill_tuple_add seq_tuple_add PySem.F.slot_tuple_add PySem.F.entry_tuple_add (PySem.F.args_tuple_add_2 _ _)
   (tuple_addW2 t b vs.toArray ws.toArray n n2 dd dd2 sl sl2 (by simpa using hv) (by simpa using hw) (by rw [List.size_toArray,List.size_toArray]; exact hsz)) ⟨ho,ho2,?_⟩
  rw [e]
  exact h2 hw
def sIx (n d:Nat) : Option Int→Nat
 | none=>d
 | some v=>if v<0 then (v+(n:Int)).toNat else min v.toNat n
theorem sIx_le (n d:Nat) (hd:d≤n) (o:Option Int) : sIx n d o≤n:=by
 cases o with
 | none=>exact hd
 | some v =>
  show (if v<0 then (v+(n:Int)).toNat else min v.toNat n)≤n
  by_cases hv:v<0
  ·rw [if_pos hv]; omega
  ·rw [if_neg hv]; exact Nat.min_le_right _ _
theorem clip_eq (v:Int) (n d:Nat) : (if v<0 then max (v+(n:Int)) 0 else min v (n:Int))=((sIx n d (some v) : Nat) : Int):=by
 show (if v<0 then max (v+(n:Int)) 0 else min v (n:Int))=(((if v<0 then (v+(n:Int)).toNat else min v.toNat n) : Nat) : Int)
 by_cases hv:v<0
 ·simp only [if_pos hv]; omega
 ·simp only [if_neg hv]; omega
theorem adjust_gen (lo hi:Option Int) (n:Nat) : Builtin.Slice.sliceAdjust lo hi 1 (n:Int)=(((sIx n 0 lo:Nat) : Int),((sIx n n hi:Nat) : Int)):=by
 have h1 : ¬ ((1:Int)<0):=by omega
 unfold Builtin.Slice.sliceAdjust
 simp only [h1,if_false]
 refine Prod.ext ?_ ?_
 ·cases lo with
  | none=>rfl
  | some v=>exact clip_eq v n 0
 ·cases hi with
  | none=>rfl
  | some v=>exact clip_eq v n n
theorem places_gen (i j:Nat) : Builtin.Slice.slicePlaces (i:Int) (j:Int) 1=j - i:=by
 unfold Builtin.Slice.slicePlaces
 have h1:(1:Int) > 0:=by omega
 simp only [h1,if_true,Int.ediv_one]
 split <;> omega
theorem slicePart_ {v:Value} {o:Option Int} {Q:Option Int→Shared→Prop} (p:IsPart v o) (h:Q o s) : wpAny (model prog w) A (Builtin.Slice.slicePartIndex v) Q E s:=by
 cases p with
 | none=>exact slicePart_none h
 | int i t=>exact slicePart_int h
theorem sliceApplied_gen {sl:Addr} {vl vu:Value} {lo hi:Option Int} {n:Nat} {Q:Int × Int × Nat→Shared→Prop} (hs:s.heap.IsSliceOf sl vl vu .none) (pl:IsPart vl lo) (pu:IsPart vu hi)
  (h:Q (((sIx n 0 lo:Nat) : Int),1,sIx n n hi - sIx n 0 lo) s) : wpAny (model prog w) A (Builtin.Slice.sliceApplied (.ref sl) (pure (n:Int))) Q E s:=by
 obtain ⟨os,hos,hcs,hds⟩:=id hs
 unfold Builtin.Slice.sliceApplied Builtin.Slice.sliceFields
 refine wpAny_bind (wpAny_bind (wpAny_field hos hds (x:=vl) rfl (wpAny_bind (wpAny_field hos hds (x:=vu) rfl (wpAny_bind (wpAny_field hos hds (x:=.none) rfl (wpAny_pure ?_)))))))
 refine wpAny_bind (slicePart_none ?_)
 show wpAny _ _ (if ((1:Int) == 0)=true then _ else _) _ _ s
 rw [if_neg (by decide)]
 refine wpAny_bind (slicePart_ pl (wpAny_bind (slicePart_ pu (wpAny_bind (wpAny_pure ?_)))))
 show wpAny _ _ (match Builtin.Slice.sliceAdjust lo hi 1 (n:Int) with | (lo,hi)=>pure (lo,(1:Int),Builtin.Slice.slicePlaces lo hi 1)) _ _ s
 rw [adjust_gen lo hi n]
 show wpAny _ _ (pure (((sIx n 0 lo:Nat) : Int),(1:Int),Builtin.Slice.slicePlaces ((sIx n 0 lo:Nat) : Int) ((sIx n n hi:Nat) : Int) 1)) _ _ s
 rw [places_gen]
 exact wpAny_pure h
theorem pick_gen (xs:Array Value) (i k:Nat) : ((List.range k).filterMap fun (m:Nat)=>xs[((i:Int)+(m:Int) * 1).toNat]?).toArray=((xs.toList.drop i).take k).toArray:=by
 have e:(fun (m:Nat)=>xs[((i:Int)+(m:Int) * 1).toNat]?)=fun m=>xs[i+m]?:=by
  funext m
  have:((i:Int)+(m:Int) * 1).toNat=i+m:=by omega
  rw [this]
 rw [e]
 have:=pick_run xs i k
 rw [List.filterMap_map] at this
 have e2:((fun x=>xs[x]?) ∘ fun x=>i+x)=fun m=>xs[i+m]?:=rfl
 rw [e2] at this
 rw [this]
theorem getItem_tuple_cut {t sl:Addr} {items:Array Value} {vl vu:Value} {lo hi:Option Int} {Q:Value→Shared→Prop} (ht:IsTup s.heap t items) (hs:s.heap.IsSliceOf sl vl vu .none) (pl:IsPart vl lo) (pu:IsPart vu hi)
  (hw : ¬ (sIx items.size 0 lo=0∧sIx items.size items.size hi=items.size))
  (h:Q (.ref s.heap.objs.size) { s with heap:=s.heap.push { cls:=.type "tuple", data:=.seq ((items.toList.drop (sIx items.size 0 lo)).take (sIx items.size items.size hi - sIx items.size 0 lo)).toArray } })
  (hsz:items.size≤sizeLine) : wpAny (model prog w) A (getItem (.ref t) (.ref sl)) Q E s:=by
 have htake:sizeOk (.seq ((items.toList.drop (sIx items.size 0 lo)).take (sIx items.size items.size hi - sIx items.size 0 lo)).toArray):=by
  show ((items.toList.drop (sIx items.size 0 lo)).take (sIx items.size items.size hi - sIx items.size 0 lo)).toArray.size≤sizeLine
  rw [List.size_toArray,List.length_take,List.length_drop,Array.length_toList]
  omega
 have hj:sIx items.size items.size hi≤items.size:=sIx_le _ _ (Nat.le_refl _) hi
 obtain ⟨os,hos,hcs,hds⟩:=id hs
 have hTs:s.TypeIs (.ref sl) "slice" := ⟨os,hos,hcs⟩
 unfold getItem
 try with_reducible refine wpAny_holding ?_
 first | refine wpAny_bind (wpAny_pure ?_) | skip
 refine wpAny_bind (wpAny_sequenceKey ht.typeIs (by decide) ?_)
 refine wpAny_bind (wpAny_callSpecial?_slot (name:=Str.ofString "__getitem__") ht.typeIs PyProof.Rows.slot_tuple_getitem
  (wpAny_call_entry PyProof.Rows.slot_tuple_getitem ht.typeIs entry_tuple_getitem ?_ (args_tuple_getitem _ _)))
 show wpAny _ _ (Builtin.Tuple.tupleItemsOf (.ref t) >>= _) _ _ s
 refine wpAny_bind (tupleItemsOf_ ht ?_)
 refine wpAny_bind (wpAny_typeOf hTs ?_)
 rw [if_pos (by decide)]
 refine wpAny_bind (sliceApplied_gen hs pl pu ?_)
 have hno : ¬ ((((sIx items.size 0 lo:Nat) : Int) == 0 && (1:Int) == 1 && (sIx items.size items.size hi - sIx items.size 0 lo) == items.size)=true):=by
  intro q
  rw [Bool.and_eq_true,Bool.and_eq_true] at q
  have q1:((sIx items.size 0 lo:Nat) : Int)=0:=eq_of_beq q.1.1
  have q2:sIx items.size items.size hi - sIx items.size 0 lo=items.size:=eq_of_beq q.2
  exact hw ⟨by omega,by omega⟩
 show wpAny _ _ (if (((sIx items.size 0 lo:Nat) : Int) == 0 && (1:Int) == 1 && (sIx items.size items.size hi - sIx items.size 0 lo) == items.size)=true then _ else _) _ _ s
 rw [if_neg hno,pick_gen]
 first
  | exact wpAny_bind (m:=Builtin.Tuple.tupleExact _) (wpAny_newObj_type (wpAny_pure ⟨_,rfl,wpAny_pure h⟩) htake)
  | exact wpAny_bind (m:=Builtin.Tuple.tupleExact _) (wpAny_newObj_type (wpAny_bind (wpAny_pure (wpAny_pure ⟨_,rfl,wpAny_pure h⟩))) htake)
  | exact wpAny_bind (wpAny_bind (m:=Builtin.Tuple.tupleExact _) (wpAny_newObj_type (wpAny_pure (wpAny_pure ⟨_,rfl,wpAny_pure h⟩)) htake))
  | exact wpAny_bind (wpAny_bind (m:=Builtin.Tuple.tupleExact _) (wpAny_newObj_type (wpAny_pure ⟨_,rfl,wpAny_pure h⟩) htake))
end
end HT
namespace L2
open PySem PySem.Spec PyProof.Rows
abbrev TO:=St→Hp→(Option Int→Hp→Prop)→Prop
def PO (X:Cx) (e:Option Expr) (t:TO) : Prop :=
 ∀ (pins:List (Addr × Obj)) (s:Shared) (σ : St) (H:Hp) (Q:Option Int→Hp→Prop),Inv X pins σ H s→t σ H Q →
  wpAny (model X.prog X.w) X.A (evalPart e X.env) (fun u s'=>∃ o H',Inv X pins σ H' s'∧IsPart u o∧Q o H') X.xe s
def tNoPart:TO:=fun _ H Q=>Q none H
def tPart (t:TE) : TO:=fun σ H Q=>t σ H fun x H1=>∃ i,x=.int i∧Q (some i) H1
section
variable {X:Cx} {e:Expr} {te:TE} {lo hi:Option Expr} {tl th:TO} {pos p2:Pos}
theorem po_none:PO X none tNoPart:=by
 intro pins s σ H Q I h
 rw [evalPart_none]
 exact wpAny_pure ⟨none,H,I,.none,h⟩
theorem po_some (h:PE X e te) : PO X (some e) (tPart te):=by
 intro pins s σ H Q I hw
 rw [evalPart_some]
 refine thn (h pins s σ H _ I hw) fun u s1 ⟨x,H1,I1,r1,q1⟩=>?_
 obtain ⟨i,rfl,q⟩:=q1
 obtain ⟨t,rfl⟩:=r1
 exact ⟨some i,H1,I1,.int i t,q⟩
def SlR (X:Cx) (r:V→Option Int→Option Int→Hp→VK→Prop) : Prop :=
 ∀ (pins:List (Addr × Obj)) (s:Shared) (σ : St) (H:Hp) (x:V) (v vl vu:Value) (lo hi:Option Int) (sl:Addr) (Q:VK),Inv X pins σ H s→RelV x v→s.heap.IsSliceOf sl vl vu .none→IsPart vl lo→IsPart vu hi→r x lo hi H Q →
  ∃ T id,typeLookup (.type T) "__getitem__" = pure (some (.builtin id))∧s.TypeIs v T∧wpAny (model X.prog X.w) X.A (getItem v (.ref sl)) (EP X pins σ Q) X.xe s
def tSl (r:V→Option Int→Option Int→Hp→VK→Prop) (te:TE) (tl th:TO) : TE:=fun σ H Q=>te σ H fun x H1=>tl σ H1 fun l H2=>th σ H2 fun u H3=>r x l u H3 Q
theorem pe_slice {r:V→Option Int→Option Int→Hp→VK→Prop} (hr:SlR X r) (he:PE X e te) (hl:PO X lo tl) (hu:PO X hi th) : PE X (.Subscript e (.Slice lo hi none p2) pos) (tSl r te tl th):=by
 intro pins s σ H Q I h
 refine Subscript_ (thn (he pins s σ H _ I h) fun v s1 ⟨x,H1,I1,r1,q1⟩=>?_)
 refine wpAny_Slice (thn (hl pins s1 σ H1 _ I1 q1) fun vl s2 ⟨l,H2,I2,pl,q2⟩=>thn (hu pins s2 σ H2 _ I2 q2) fun vu s3 ⟨u,H3,I3,pu,q3⟩=>?_)
 rw [evalPart_none]
 refine wpAny_pure ?_
 have I4:Inv X pins σ H3 { s3 with heap:=s3.heap.push { cls:=.type "slice", data:=.fields #[vl,vu,.none] } }:=I3.kept (t':=s3.toks) fun b ob q=>Heap.get?_push_of_some _ q
 obtain ⟨T,id,hT,ht,hg⟩:=hr pins { s3 with heap:=s3.heap.push { cls:=.type "slice", data:=.fields #[vl,vu,.none] } } σ H3 x v vl vu l u s3.heap.objs.size Q I4 r1 (Heap.IsSliceOf.new ..) pl pu q3
 show wpAny (model X.prog X.w) X.A (subscriptTail e (.Slice lo hi none p2) v (.ref s3.heap.objs.size)) (EP X pins σ Q) X.xe { s3 with heap:=s3.heap.push { cls:=.type "slice", data:=.fields #[vl,vu,.none] } }
 exact tail_any (ops:=[.ref s3.heap.objs.size,v]) ht hT hg (by with_unfolding_all rfl)
def cutV (xs:List V) (lo hi:Option Int) : List V:=(xs.drop (HT.sIx xs.length 0 lo)).take (HT.sIx xs.length xs.length hi - HT.sIx xs.length 0 lo)
theorem cutV_length (xs:List V) (lo hi:Option Int) : (cutV xs lo hi).length≤xs.length:=by
 unfold cutV
 rw [List.length_take,List.length_drop]
 omega
def rSlT (K:PySem.W.Frag) : V→Option Int→Option Int→Hp→VK→Prop:=fun x lo hi H Q=>∃ a xs,x=.ref a∧SqT K H a xs ∧
 ¬ (HT.sIx xs.length 0 lo=0∧HT.sIx xs.length xs.length hi=xs.length)∧∀ p,H p=none→Q (.ref p) (upd H p (.tup (cutV xs lo hi)))
theorem sl_tup:SlR X (rSlT X.K):=by
 intro pins s σ H x v vl vu lo hi sl Q I rx hs pl pu h
 obtain ⟨a,xs,rfl,hx,hw,q⟩:=h
 cases rx
 obtain ⟨its,r,ht,hz⟩:=I.tuple hx
 have hlen:its.toArray.size=xs.length:=by rw [List.size_toArray]; exact r.length.symm
 refine ⟨"tuple", _,PyProof.Rows.slot_tuple_getitem.lookup,ht.typeIs,?_⟩
 refine HT.getItem_tuple_cut ht hs pl pu (by rw [hlen]; exact hw) ?_ (by rw [hlen]; exact hz)
 rw [hlen]
 refine ⟨.ref s.heap.objs.size,_,I.laid (t':=s.toks) (o:=.tup (cutV xs lo hi)) (fun b ob q=>Heap.get?_push_of_some _ q) (Nat.le_refl _) ?_,rfl,q _ (I.hok.fresh (Nat.le_refl _))⟩
 exact ⟨Nat.le_trans (cutV_length xs lo hi) hz,_,(r.drop (HT.sIx xs.length 0 lo)).take (HT.sIx xs.length xs.length hi - HT.sIx xs.length 0 lo),IsTup.new _ _⟩
def rCatT (K:PySem.W.Frag) : R2:=fun x y H Q=>∃ a b xs ys,x=.ref a∧y=.ref b∧SqT K H a xs∧SqT K H b ys∧xs≠[]∧xs.length+ys.length≤sizeLine ∧
 (ys=[]→Q (.ref a) H)∧(ys≠[]→∀ p,H p=none→Q (.ref p) (upd H p (.tup (xs++ys))))
theorem Vals.nil_iff {xs:List V} {us:List Value} (r:Vals xs us) : us=[]↔xs=[]:=by
 cases r with
 | nil=>simp
 | cons _ _=>simp
theorem op_catT:OpR X (binaryOp .Add) (rCatT X.K):=by
 intro pins s σ H x y v u Q I rx ry h
 obtain ⟨a,b,xs,ys,rfl,rfl,ha,hb,hx,hz,q1,q2⟩:=h
 cases rx
 cases ry
 obtain ⟨its,r1,p1,_⟩:=I.tuple ha
 obtain ⟨its2,r2,p2,_⟩:=I.tuple hb
 refine HT.cat_tup p1 p2 (fun z=>hx (r1.nil_iff.mp z)) (fun z=>⟨.ref a,H,I,rfl,q1 (r2.nil_iff.mp z)⟩) (fun z=>?_) (by rw [← r1.length,← r2.length]; exact hz)
 refine ⟨.ref s.heap.objs.size,_,I.laid (t':=s.toks) (o:=.tup (xs++ys)) (fun b ob q=>Heap.get?_push_of_some _ q) (Nat.le_refl _) ?_,rfl,q2 (fun w=>z (r2.nil_iff.mpr w)) _ (I.hok.fresh (Nat.le_refl _))⟩
 exact ⟨by rw [List.length_append]; exact hz,_,r1.append r2,IsTup.new _ _⟩
end
end L2
namespace L2
open PySem PySem.Spec PyProof.Rows
def ixN (n:Nat) (i:Int) : Option Nat:=if 0≤i then (if i<n then some i.toNat else none) else if -(n:Int)≤i then some (i+n).toNat else none
def atI {α : Type} (xs:List α) (i:Int) : Option α:=(ixN xs.length i).bind fun j=>xs[j]?
theorem ixN_seq {n:Nat} {i:Int} {j:Nat} (h:ixN n i=some j) : seqIndex? i n=some j∧j<n∧-(n:Int)≤i∧i<n:=by
 unfold ixN at h
 by_cases h0 : 0≤i
 ·rw [if_pos h0] at h
  by_cases h1:i<n
  ·rw [if_pos h1] at h
   have e:i.toNat=j:=Option.some.inj h
   exact ⟨by rw [seqIndex_of h0 h1,e],by omega,by omega,h1⟩
  ·rw [if_neg h1] at h; cases h
 ·rw [if_neg h0] at h
  by_cases h1 : -(n:Int)≤i
  ·rw [if_pos h1] at h
   have e:(i+n).toNat=j:=Option.some.inj h
   exact ⟨by rw [seqIndex_neg (by omega) h1,e],by omega,h1,by omega⟩
  ·rw [if_neg h1] at h; cases h
theorem atI_get {α : Type} {xs:List α} {i:Int} {v : α} (h:atI xs i=some v) : ∃ j,seqIndex? i xs.length=some j∧xs[j]?=some v∧j<xs.length∧-(xs.length:Int)≤i∧i<xs.length:=by
 unfold atI at h
 cases e:ixN xs.length i with
 | none=>rw [e] at h; cases h
 | some j =>
  rw [e] at h
  obtain ⟨h1,h2,h3,h4⟩:=ixN_seq e
  exact ⟨j,h1,h,h2,h3,h4⟩
theorem atI_nat {α : Type} {xs:List α} {j:Nat} {v : α} (h:xs[j]?=some v) : atI xs (j:Int)=some v:=by
 have hj:j<xs.length:=(List.getElem?_eq_some_iff.mp h).1
 have e:ixN xs.length (j:Int)=some j:=by
  unfold ixN
  rw [if_pos (by omega),if_pos (by omega)]; simp
 unfold atI; rw [e]; exact h
def PlainIx (b:Expr) : Prop:=∀ o i,subscripted b false o i=operate [o,i] (getItem o i)
def IxR (X:Cx) (r:R2) : Prop :=
 ∀ (value slice:Expr) (pins:List (Addr × Obj)) (s:Shared) (σ : St) (H:Hp) (x y:V) (v u:Value) (Q:VK),Inv X pins σ H s→RelV x v→RelV y u→r x y H Q →
  subscripted slice false v u=operate [v,u] (getItem v u)→wpAny (model X.prog X.w) X.A (subscriptTail value slice v u) (EP X pins σ Q) X.xe s
def MtR (X:Cx) (id:String) (r:V→List V→Hp→VK→Prop) : Prop :=
 ∀ (pins:List (Addr × Obj)) (s:Shared) (σ : St) (H:Hp) (x:V) (xs:List V) (v:Value) (us:List Value) (Q:VK),Inv X pins σ H s→RelV x v→Vals xs us→r x xs H Q →
  wpAny (model X.prog X.w) X.A (call (.builtin id) (v :: us)) (EP X pins σ Q) X.xe s
section
variable {X:Cx} {a b:Expr} {ta tb:TE} {pos:Pos}
theorem pe_ix {r:R2} (hr:IxR X r) (ha:PE X a ta) (hb:PE X b tb) (hs:PlainIx b) : PE X (.Subscript a b pos) (tOp r ta tb):=by
 intro pins s σ H Q I h
 exact Subscript_ (binT ha hb I h fun v u s2 x y H2 I2 rx ry q=>hr a b pins s2 σ H2 x y v u Q I2 rx ry q (hs _ _))
def rIxL (K:PySem.W.Frag) : R2:=fun x y H Q=>∃ p xs i v,x=.ref p∧y=.int i∧SqL K H p xs∧atI xs i=some v∧Q v H
def rIxT (K:PySem.W.Frag) : R2:=fun x y H Q=>∃ p xs i v,x=.ref p∧y=.int i∧SqT K H p xs∧atI xs i=some v∧Q v H
theorem ix_list:IxR X (rIxL X.K):=by
 intro value slice pins s σ H x y v u Q I rx ry h hs
 obtain ⟨p,xs,i,z,rfl,rfl,hq,he,q⟩:=h
 cases rx
 obtain ⟨t,rfl⟩:=ry
 obtain ⟨its,r,pl,hz⟩:=I.list hq
 obtain ⟨j,h1,h2,h3,h4,h5⟩:=atI_get he
 obtain ⟨w,ew,rw'⟩:=r.get h2
 have hl:=r.length
 have hn:=line63
 have fin:EP X pins σ Q w s:=⟨z,H,I,rw',q⟩
 by_cases h0 : 0≤i
 ·have hj:i.toNat=j:=by
   rw [seqIndex_of h0 h5] at h1
   exact Option.some.inj h1
  exact item_listR pl.isList h0 (by omega) (by rw [hj]; simpa using ew) fin hs
 ·have hj:(i+(its.toArray.size:Int)).toNat=j:=by
   rw [seqIndex_neg (by omega) h4] at h1
   rw [List.size_toArray,← hl]
   exact Option.some.inj h1
  exact subscriptTail_builtinR (x:=w) pl.isList.typeIs slot_list_getitem.lookup
   (wpAny_getItem_list_neg (Q:=fun r s'=>r=w∧EP X pins σ Q r s') pl.isList (by omega) (by rw [List.size_toArray] <;> omega) (by omega) (by rw [hj]; simpa using ew) ⟨rfl,fin⟩) hs
theorem ix_tup:IxR X (rIxT X.K):=by
 intro value slice pins s σ H x y v u Q I rx ry h hs
 obtain ⟨p,xs,i,z,rfl,rfl,hq,he,q⟩:=h
 cases rx
 obtain ⟨t,rfl⟩:=ry
 obtain ⟨its,r,pl,hz⟩:=I.tuple hq
 obtain ⟨j,h1,h2,h3,h4,h5⟩:=atI_get he
 obtain ⟨w,ew,rw'⟩:=r.get h2
 have hl:=r.length
 have hn:=line63
 have fin:EP X pins σ Q w s:=⟨z,H,I,rw',q⟩
 exact subscriptTail_builtinR (x:=w) pl.typeIs slot_tuple_getitem.lookup
  (getItem_tuple (j:=j) (Q:=fun r s'=>r=w∧EP X pins σ Q r s') pl (by omega) (by omega) (by rw [List.size_toArray,← hl]; exact h1) (by simpa using ew) ⟨rfl,fin⟩) hs
theorem mapSeq_set (its:List Value) (n j:Nat) (u:Value) : Obj.mapSeq (·.setIfInBounds j u) { cls:=.type "list", data:=.seq its.toArray n }={ cls:=.type "list", data:=.seq (its.set j u).toArray n }:=by
 simp [Obj.mapSeq]
theorem Inv.lst {pins:List (Addr × Obj)} {σ : St} {H:Hp} {s:Shared} {p:Addr} {xs:List V} (I:Inv X pins σ H s) (h:H p=some (.lst xs)) :
  ∃ (its:List Value) (n:Nat),Vals xs its∧s.heap.get? p=some { cls:=.type "list", data:=.seq its.toArray n }∧xs.length≤sizeLine:=by
 obtain ⟨z,its,n,r,e⟩:=I.hok p _ h
 exact ⟨its,n,r,e,z⟩
theorem Inv.lstUpd {pins:List (Addr × Obj)} {σ : St} {H:Hp} {s:Shared} {p:Addr} {xs ys:List V} {its its':List Value} {n n':Nat} {f:Obj→Obj} (I:Inv X pins σ H s) (h:H p=some (.lst xs))
  (ho:s.heap.get? p=some { cls:=.type "list", data:=.seq its.toArray n }) (hf:f { cls:=.type "list", data:=.seq its.toArray n }={ cls:=.type "list", data:=.seq its'.toArray n' }) (r:Vals ys its') (hz:ys.length≤sizeLine) (t:Nat) :
  Inv X pins σ (upd H p (.lst ys)) { s with heap:=s.heap.update p f,toks:=t }:=by
 have e:(s.heap.update p f).get? p=some { cls:=.type "list", data:=.seq its'.toArray n' }:=by
  rw [Heap.get?_update_self f ho (by rw [hf] <;> rfl),hf]
 refine I.write (x:=p) (e:=p) (by rw [h]; trivial) (.inl rfl) (fun b u hb q=>(Heap.get?_update_other _ _ (Ne.symm hb)).trans q) ⟨_,e⟩ ?_
 exact ⟨hz,its',n',r,e⟩
def rSetL:V→V→V→Hp→(Hp→Prop)→Prop:=fun o i v H Q=>∃ p xs k j,o=.ref p∧i=.int k∧H p=some (.lst xs)∧ixN xs.length k=some j∧Q (upd H p (.lst (xs.set j v)))
theorem set_list:PSet X rSetL:=by
 intro pins s σ H o i v ov iv u Q I ro ri rv h
 obtain ⟨p,xs,k,j,rfl,rfl,hp,hj,q⟩:=h
 cases ro
 obtain ⟨t,rfl⟩:=ri
 obtain ⟨its,n,r,ho,hz⟩:=I.lst hp
 obtain ⟨h1,h2,h3,h4⟩:=ixN_seq hj
 have hl:=r.length
 have hn:=line63
 have I':Inv X pins σ (upd H p (.lst (xs.set j v))) { s with heap:=s.heap.update p (Obj.mapSeq (·.setIfInBounds j u)) } :=
  I.lstUpd hp ho (mapSeq_set its n j u) (r.set rv j) (by rw [List.length_set]; exact hz) s.toks
 by_cases h0 : 0≤k
 ·have hk:k.toNat=j:=by
   rw [seqIndex_of h0 h4] at h1
   exact Option.some.inj h1
  exact PySem.W.ki_setAt ho h0 (by omega) (by rw [List.size_toArray,← hl]; exact h4) (by rw [hk]; exact ⟨_,I',q⟩)
 ·have hk:(k+(its.toArray.size:Int)).toNat=j:=by
   rw [seqIndex_neg (by omega) h3] at h1
   rw [List.size_toArray,← hl]
   exact Option.some.inj h1
  exact PySem.W.ki_setBack ho (by omega) (by rw [List.size_toArray,← hl]; exact h3) (by omega) (by rw [hk]; exact ⟨_,I',q⟩)
theorem slice_bounds (lo hi:Option Int) (n:Nat) : (sliceBounds lo hi none n).1=((HT.sIx n 0 lo:Nat) : Int)∧(sliceBounds lo hi none n).2.1=((HT.sIx n n hi:Nat) : Int)∧(sliceBounds lo hi none n).2.2=1:=by
 refine ⟨?_,?_,rfl⟩
 ·cases lo with
  | none=>simp [sliceBounds,HT.sIx]
  | some i =>
   simp only [sliceBounds,HT.sIx,Option.getD_none,show (1:Int) > 0 by decide,if_true]
   by_cases h:i<0
   ·simp only [h,if_true] <;> omega
   ·simp only [h,if_false] <;> omega
 ·cases hi with
  | none=>simp [sliceBounds,HT.sIx]
  | some i =>
   simp only [sliceBounds,HT.sIx,Option.getD_none,show (1:Int) > 0 by decide,if_true]
   by_cases h:i<0
   ·simp only [h,if_true] <;> omega
   ·simp only [h,if_false] <;> omega
theorem slicePick_cut (its:List Value) (lo hi:Option Int) : slicePick its.toArray lo hi none=((its.drop (HT.sIx its.length 0 lo)).take (HT.sIx its.length its.length hi - HT.sIx its.length 0 lo)).toArray:=by
 obtain ⟨h1,h2,h3⟩:=slice_bounds lo hi its.toArray.size
 unfold slicePick
 rw [h1,h2,h3]
 simp only [sliceRange_one,pick_run,List.size_toArray] <;> rfl
def rSlL (K:PySem.W.Frag) : V→Option Int→Option Int→Hp→VK→Prop:=fun x lo hi H Q=>∃ a xs,x=.ref a∧SqL K H a xs∧∀ p,H p=none→Q (.ref p) (upd H p (.lst (cutV xs lo hi)))
theorem sl_list:SlR X (rSlL X.K):=by
 intro pins s σ H x v vl vu lo hi sl Q I rx hs pl pu h
 obtain ⟨a,xs,rfl,hx,q⟩:=h
 cases rx
 obtain ⟨its,r,ht,hz⟩:=I.list hx
 have hlen:=r.length
 refine ⟨"list", _,slot_list_getitem.lookup,ht.isList.typeIs,?_⟩
 refine wpAny_getItem_list_slice ht.isList hs pl pu .none (by simp) ?_ (by rw [List.size_toArray] <;> omega)
 rw [slicePick_cut,← hlen]
 refine ⟨.ref s.heap.objs.size,_,I.laid (t':=s.toks) (o:=.lst (cutV xs lo hi)) (fun b ob q=>Heap.get?_push_of_some _ q) (Nat.le_refl _) ?_,rfl,q _ (I.hok.fresh (Nat.le_refl _))⟩
 exact ⟨Nat.le_trans (cutV_length xs lo hi) hz,_,0,(r.drop (HT.sIx xs.length 0 lo)).take (HT.sIx xs.length xs.length hi - HT.sIx xs.length 0 lo),Heap.get?_push_size _ rfl⟩
def flatV:V→Bool
 | .non=>true
 | .bl _=>true
 | .int _=>true
 | .str _=>true
 | _=>false
def eqV:V→V→Bool
 | .non,.non=>true
 | .bl a,.bl b=>a == b
 | .bl a,.int b=>(if a then 1 else 0) == b
 | .int a,.bl b=>a == (if b then 1 else 0)
 | .int a,.int b=>a == b
 | .str a,.str b=>a == b
 | _,_=>false
theorem eqAt_V {A:Around} {s:Shared} {y x:V} {u v:Value} (ry:RelV y u) (rx:RelV x v) (fy:flatV y=true) (fx:flatV x=true) : SeqAt.EqAt A s u v (eqV y x):=by
 cases y with
 | non =>
  cases ry
  cases x with
  | non=>cases rx; exact SeqAt.EqAt.same _
  | bl b=>cases rx; exact SeqAt.EqAt.none_bool b
  | int b=>obtain ⟨t,rfl⟩:=rx; exact SeqAt.EqAt.none_int b t
  | str b=>obtain ⟨t,rfl⟩:=rx; exact SeqAt.EqAt.none_str b t
  | _=>exact absurd (show false=true from fx) Bool.false_ne_true
 | bl a =>
  cases ry
  cases x with
  | non=>cases rx; exact SeqAt.EqAt.bool_none a
  | bl b=>cases rx; exact SeqAt.EqAt.bool_bool a b
  | int b=>obtain ⟨t,rfl⟩:=rx; exact SeqAt.EqAt.bool_int a b t
  | str b=>obtain ⟨t,rfl⟩:=rx; exact SeqAt.EqAt.bool_str a b t
  | _=>exact absurd (show false=true from fx) Bool.false_ne_true
 | int a =>
  obtain ⟨t',rfl⟩:=ry
  cases x with
  | non=>cases rx; exact SeqAt.EqAt.int_none a t'
  | bl b=>cases rx; exact SeqAt.EqAt.int_bool a t' b
  | int b=>obtain ⟨t,rfl⟩:=rx; exact SeqAt.EqAt.int_int a t' b t
  | str b=>obtain ⟨t,rfl⟩:=rx; exact SeqAt.EqAt.int_str a t' b t
  | _=>exact absurd (show false=true from fx) Bool.false_ne_true
 | str a =>
  obtain ⟨t',rfl⟩:=ry
  cases x with
  | non=>cases rx; exact SeqAt.EqAt.str_none a t'
  | bl b=>cases rx; exact SeqAt.EqAt.str_bool a t' b
  | int b=>obtain ⟨t,rfl⟩:=rx; exact SeqAt.EqAt.str_int a t' b t
  | str b=>obtain ⟨t,rfl⟩:=rx; exact SeqAt.EqAt.str_str a t' b t
  | _=>exact absurd (show false=true from fx) Bool.false_ne_true
 | _=>exact absurd (show false=true from fy) Bool.false_ne_true
def eqU (x:V) (u:Value) : Bool:=match u with
 | .none=>eqV .non x
 | .bool b=>eqV (.bl b) x
 | .int i _=>eqV (.int i) x
 | .str z _=>eqV (.str z) x
 | _=>false
theorem eqU_of {x y:V} {u:Value} (r:RelV y u) (f:flatV y=true) : eqU x u=eqV y x:=by
 cases y with
 | non=>cases r; rfl
 | bl b=>cases r; rfl
 | int i=>obtain ⟨t,rfl⟩:=r; rfl
 | str z=>obtain ⟨t,rfl⟩:=r; rfl
 | _=>exact absurd (show false=true from f) Bool.false_ne_true
theorem any_eqU {x:V} : ∀ {xs:List V} {us:List Value},Vals xs us→xs.all flatV=true→us.any (eqU x)=xs.any fun y=>eqV y x
 | _,_,.nil,_=>rfl
 | y :: xs,u :: us,.cons r t,f=>by
  rw [List.all_cons,Bool.and_eq_true] at f
  rw [List.any_cons,List.any_cons,eqU_of r f.1,any_eqU t f.2]
theorem mem_eqAt {A:Around} {s:Shared} {x:V} {v:Value} (rx:RelV x v) (fx:flatV x=true) : ∀ {xs:List V} {us:List Value},Vals xs us→xs.all flatV=true→∀ u∈us,SeqAt.EqAt A s u v (eqU x u)
 | _,_,.nil,_=>fun u hu=>by cases hu
 | y :: xs,u :: us,.cons r t,f=>fun u' hu=>by
  rw [List.all_cons,Bool.and_eq_true] at f
  rcases List.mem_cons.mp hu with rfl | hu
  ·rw [eqU_of r f.1]; exact eqAt_V r rx f.1 fx
  ·exact mem_eqAt rx fx t f.2 u' hu
def inV (x:V) (xs:List V) : Bool:=xs.any fun y=>eqV y x
def rIn (K:PySem.W.Frag) (neg:Bool) : R2:=fun x y H Q=>∃ p xs,y=.ref p∧(SqL K H p xs∨SqT K H p xs)∧flatV x=true∧xs.all flatV=true∧Q (.bl (if neg then !inV x xs else inV x xs)) H
theorem op_in_seq:OpR X (compareOp .In) (rIn X.K false):=by
 intro pins s σ H x y v u Q I rx ry h
 obtain ⟨p,xs,rfl,hq,fx,fs,q⟩:=h
 cases ry
 rcases hq with hq | hq
 ·obtain ⟨its,r,pl,hz⟩:=I.list hq
  refine SeqAt.in_listAt (eqU x) pl.isList (fun w hw=>mem_eqAt rx fx r fs w (by simpa using hw)) ⟨.bl _,H,I,rfl,?_⟩
  rw [show its.toArray.any (eqU x)=its.any (eqU x) by simp,any_eqU r fs]
  exact q
 ·obtain ⟨its,r,pl,hz⟩:=I.tuple hq
  refine SeqAt.in_tupleAt (eqU x) pl (fun w hw=>mem_eqAt rx fx r fs w (by simpa using hw)) ⟨.bl _,H,I,rfl,?_⟩
  rw [show its.toArray.any (eqU x)=its.any (eqU x) by simp,any_eqU r fs]
  exact q
theorem call_len_seq:CallR X (.builtin "len") (fun xs H Q=>∃ p ys,xs=[.ref p]∧(SqL X.K H p ys∨SqT X.K H p ys)∧Q (.int ys.length) H):=by
 intro pins s σ H xs us Q I r h
 obtain ⟨p,ys,rfl,hq,q⟩:=h
 obtain ⟨u,rfl,rx⟩:=vals1 r
 cases rx
 have hn:=line63
 rcases hq with hq | hq
 ·obtain ⟨its,r',pl,hz⟩:=I.list hq
  have hlen:=r'.length
  exact Calls.call_len_list pl.isList (by simp only [List.size_toArray] <;> omega) ⟨.int ys.length,H,I.tok _,⟨s.toks+1,by rw [List.size_toArray,hlen]⟩,q⟩
 ·obtain ⟨its,r',pl,hz⟩:=I.tuple hq
  have hlen:=r'.length
  exact len_tuple pl (by simp only [List.size_toArray] <;> omega) ⟨.int ys.length,H,I.tok _,⟨s.toks+1,by rw [List.size_toArray,hlen]⟩,q⟩
theorem call_list_of:CallR X (.type "list") (fun xs H Q=>∃ p ys,xs=[.ref p]∧(SqL X.K H p ys∨SqT X.K H p ys)∧∀ l,H l=none→Q (.ref l) (upd H l (.lst ys))):=by
 intro pins s σ H xs us Q I r h
 obtain ⟨p,ys,rfl,hq,q⟩:=h
 obtain ⟨u,rfl,rx⟩:=vals1 r
 cases rx
 have fin : ∀ (its:List Value),Vals ys its→ys.length≤sizeLine→∀ (h':Heap) (c':Nat),(∀ b o',s.heap.get? b=some o'→h'.get? b=some o') →
   h'.get? s.heap.objs.size=some { cls:=.type "list", dict:=none,data:=.seq its.toArray c',slots:=#[] }→EP X pins σ Q (.ref s.heap.objs.size) { s with heap:=h' }:=fun its r' hz h' c' kp e =>
  ⟨.ref s.heap.objs.size,_,I.laid (t':=s.toks) kp (Nat.le_refl _) (show ObjOk X.prog X.w _ h' _ (.lst ys) from ⟨hz,its,c',r',e⟩),rfl,q _ (I.hok.fresh (Nat.le_refl _))⟩
 rcases hq with hq | hq
 ·obtain ⟨its,r',pl,hz⟩:=I.list hq
  have hlen:=r'.length
  obtain ⟨o,ho,hc,n,hd⟩:=pl.isList
  exact call_list_seq p (.inl rfl) ho hc hd (fun h' c' kp e=>fin its r' hz h' c' kp e) (by simp only [List.size_toArray] <;> omega)
 ·obtain ⟨its,r',pl,hz⟩:=I.tuple hq
  have hlen:=r'.length
  obtain ⟨o,ho,hc,n,hd⟩:=pl
  exact call_list_seq p (.inr rfl) ho hc hd (fun h' c' kp e=>fin its r' hz h' c' kp e) (by simp only [List.size_toArray] <;> omega)
theorem call_tuple_of:CallR X (.type "tuple") (fun xs H Q=>∃ p ys,xs=[.ref p]∧((SqL X.K H p ys∧∀ l,H l=none→Q (.ref l) (upd H l (.tup ys)))∨(SqT X.K H p ys∧Q (.ref p) H))):=by
 intro pins s σ H xs us Q I r h
 obtain ⟨p,ys,rfl,h⟩:=h
 obtain ⟨u,rfl,rx⟩:=vals1 r
 cases rx
 rcases h with ⟨hq,q⟩ | ⟨hq,q⟩
 ·obtain ⟨its,r',pl,hz⟩:=I.list hq
  have hlen:=r'.length
  refine call_tuple_list pl.isList (fun h' kp=>?_) (by simp only [List.size_toArray] <;> omega)
  have I1:Inv X pins σ H { s with heap:=h' }:=I.kept (t':=s.toks) kp
  have I2:Inv X pins σ (upd H h'.objs.size (.tup ys)) { s with heap:=h'.push { cls:=.type "tuple", data:=.seq its.toArray } } :=
   I1.laid (t':=s.toks) (fun b o e=>Heap.get?_push_of_some _ e) (Nat.le_refl _) (show ObjOk X.prog X.w _ _ _ (.tup ys) from ⟨hz,its,r',IsTup.new _ _⟩)
  exact ⟨.ref h'.objs.size,_,I2,rfl,q _ (I1.hok.fresh (Nat.le_refl _))⟩
 ·obtain ⟨its,r',pl,hz⟩:=I.tuple hq
  exact call_tuple_same pl ⟨.ref p,H,I,rfl,q⟩
def tyV (K:PySem.W.Frag) (T:String) (x:V) (H:Hp) : Prop:=match x with
 | .str _=>T = "str"
 | .int _=>T = "int"
 | .ref p=>(T = "list" ∧ ∃ xs,SqL K H p xs)∨(T = "tuple" ∧ ((∃ o,K.lookup p=some o∧o.cls=.type "tuple" ∧ o.dict=none)∨∃ o xs,H p=some (.frz o (.tup xs))∧o.cls=.type "tuple" ∧ o.dict=none)) ∨
   (T = "dict" ∧ ((∃ kvs,H p=some (.dK kvs))∨∃ kvs,H p=some (.dT kvs)))∨(T = "set" ∧ ∃ S n,H p=some (.set S n))
 | _=>False
theorem tyV_is {pins:List (Addr × Obj)} {σ : St} {H:Hp} {s:Shared} {T:String} {x:V} {v:Value} (I:Inv X pins σ H s) (r:RelV x v) (ty:tyV X.K T x H) :
  s.TypeIs v T∧∀ a,v=.ref a→∃ ob,s.heap.get? a=some ob∧ob.dict=none:=by
 cases x with
 | str z =>
  obtain ⟨t,rfl⟩:=r
  cases (show T = "str" from ty)
  exact ⟨typeIs_str s z t,fun _ e=>nomatch e⟩
 | int i =>
  obtain ⟨t,rfl⟩:=r
  cases (show T = "int" from ty)
  exact ⟨typeIs_int s i t,fun _ e=>nomatch e⟩
 | ref p =>
  cases r
  rcases ty with ⟨rfl,xs,hq⟩ | ⟨rfl,⟨o,hk,hc,hd⟩ | ⟨o,xs,hk,hc,hd⟩⟩ | ⟨rfl,hk⟩ | ⟨rfl,S,n,hk⟩
  ·obtain ⟨its,_,pl,_⟩:=I.list hq
   refine ⟨pl.isList.typeIs,fun a e=>?_⟩
   cases e
   obtain ⟨o,n,e,c,hd,_⟩:=pl
   exact ⟨o,e,hd⟩
  ·refine ⟨⟨o,I.kIn p o hk,hc⟩,fun a e=>?_⟩
   cases e
   exact ⟨o,I.kIn _ o hk,hd⟩
  ·obtain ⟨e,_⟩:=(show ObjOk X.prog X.w H s.heap p (.frz o (.tup xs)) from I.hok p _ hk)
   exact ⟨⟨o,e,hc⟩,fun a z=>by cases z; exact ⟨o,e,hd⟩⟩
  ·have z : ∃ o,s.heap.get? p=some o∧o.ExactDict:=by
    rcases hk with ⟨kvs,hk⟩ | ⟨kvs,hk⟩
    ·obtain ⟨_,_,_,_,o,_,_,e,ex,_⟩:=I.hok p _ hk
     exact ⟨o,e,ex⟩
    ·obtain ⟨_,_,_,_,o,_,_,e,ex,_⟩:=I.hok p _ hk
     exact ⟨o,e,ex⟩
   obtain ⟨o,e,ex⟩:=z
   refine ⟨⟨o,e,ex.1⟩,fun a e2=>?_⟩
   cases e2
   exact ⟨o,e,ex.2.1⟩
  ·obtain ⟨o,_,_,_,e,ex,_⟩:=I.hok p _ hk
   refine ⟨⟨o,e,ex.1⟩,fun a e2=>?_⟩
   cases e2
   exact ⟨o,e,ex.2.1⟩
 | _=>exact False.elim ty
def tBM (K:PySem.W.Frag) (T:String) (r:V→List V→Hp→VK→Prop) (to:TE) (t:TA) : TE:=fun σ H Q=>to σ H fun x H1=>tyV K T x H1∧t σ H1 fun xs H2=>r x xs H2 Q
variable {o e:Expr} {es:List Expr} {to:TE} {t:TA} {name:Str} {apos cpos:Pos} {T id:String} {r:V→List V→Hp→VK→Prop}
theorem pe_bm (pa:PlainAttrs T) (slot:Slot T name id) (hty:typeOf (.builtin id)=pure (.type "method_descriptor")) (hm:MtR X id r) (ho:PE X o to) (ha:PA X (e :: es) t)
  (hbase:attributeBase o name X.env (eval o X.env)=eval o X.env:=by rfl)
  (hfew:((backTo cpos (starEach (e :: es) X.env)).all (fun x=>!x.1) && (backToKw cpos (keywordEach [] X.env)).all (fun x=>x.1.isSome)
   && decide ((e :: es).length+([] : List Keyword).length+(if ([] : List Keyword).isEmpty then 0 else 1)<30))=true:=by rfl)
  (hline:(apos.endLine == cpos.line)=true:=by rfl) (hs:starEach (e :: es) X.env=(false,eval e X.env) :: starEach es X.env:=by rfl) (hplain:(backTo cpos (starEach es X.env)).any (·.1)=false:=by rfl) :
  PE X (.Call (.Attribute o name apos) (e :: es) [] cpos) (tBM X.K T r to t):=by
 intro pins s σ H Q I h
 refine wpAny_Call_method_late hbase hfew hline rfl (thn (ho pins s σ H _ I h) fun v s1 ⟨x,H1,I1,r1,ty,q1⟩=>?_)
 obtain ⟨h1,h2⟩:=tyV_is I1 r1 ty
 refine ⟨T,id,pa,slot,hty,h1,h2,?_⟩
 have hA:=ha cpos pins s1 σ H1 _ I1 q1
 rw [hs] at hA ⊢
 refine Calls.callWith_builtin (by show (false || (backTo cpos (starEach es X.env)).any (·.1))=false; rw [hplain] <;> rfl) (Calls.evalArgs_plain ?_)
 exact thn hA fun us s2 ⟨vs,H2,I2,r2,q2⟩=>hm pins s2 σ H2 x vs v us Q I2 r1 r2 q2
/- xs.append(e), list.index on a module's tuple .. are MtR facts of 06m -/
end
end L2
namespace L2
open PySem PySem.Spec PyProof.Rows
def MtM (X:Cx) (id:String) (r:V→List V→Hp→VK→Prop) : Prop :=
 ∀ (pins:List (Addr × Obj)) (s:Shared) (σ : St) (H:Hp) (x:V) (xs:List V) (v:Value) (us:List Value) (Q:VK),Inv X pins σ H s→RelV x v→Vals xs us→r x xs H Q →
  wpAny (model X.prog X.w) X.A (call (.builtin id) (v :: us)) (EP X pins σ Q) X.xe s
theorem Vals.one : ∀ {x:V} {us:List Value},Vals [x] us→∃ u,us=[u]∧RelV x u
 | _,_,.cons r .nil=>⟨_,rfl,r⟩
theorem Vals.dropLast {xs:List V} {us:List Value} (h:Vals xs us) : Vals xs.dropLast us.dropLast:=by
 induction h with
 | nil=>exact .nil
 | cons r t ih =>
  cases t with
  | nil=>exact .nil
  | cons q t'=>exact .cons r ih
theorem Vals.eraseIdx : ∀ {xs:List V} {us:List Value} (i:Nat),Vals xs us→Vals (xs.eraseIdx i) (us.eraseIdx i)
 | _,_,_,.nil=>.nil
 | _,_,0,.cons _ t=>t
 | _,_,i+1,.cons r t=>.cons r (Vals.eraseIdx i t)
theorem Vals.reverse {xs:List V} {us:List Value} (h:Vals xs us) : Vals xs.reverse us.reverse:=by
 induction h with
 | nil=>exact .nil
 | cons r t ih=>rw [List.reverse_cons,List.reverse_cons]; exact Vals.append ih (.cons r .nil)
theorem erase_last {α : Type} (l:List α) : l.eraseIdx (l.length - 1)=l.dropLast:=by
 induction l with
 | nil=>rfl
 | cons a r ih =>
  cases r with
  | nil=>rfl
  | cons b r =>
   have e:(a :: b :: r).length - 1=((b :: r).length - 1)+1:=by
    have h1:(a :: b :: r).length=r.length+2:=rfl
    have h2:(b :: r).length=r.length+1:=rfl
    omega
   rw [e,List.eraseIdx_cons_succ,ih]
   all_goals rfl
theorem len_erase {α : Type} : ∀ (l:List α) (i:Nat),(l.eraseIdx i).length≤l.length
 | [],_=>Nat.le_refl _
 | _ :: _,0=>Nat.le_succ _
 | _ :: r,i+1=>Nat.succ_le_succ (len_erase r i)
section
variable {X:Cx} {pins:List (Addr × Obj)} {σ : St} {H:Hp} {s:Shared} {l b:Addr} {xs ys zs:List V}
theorem Inv.lset {its its':List Value} {n:Nat} {f:Array Value→Array Value} {t':Nat} (I:Inv X pins σ H s) (hH:H l=some (.lst xs))
  (e:s.heap.get? l=some { cls:=.type "list", data:=.seq its.toArray n }) (hf:f its.toArray=its'.toArray) (hv:Vals ys its') (hz:ys.length≤sizeLine) :
  Inv X pins σ (upd H l (.lst ys)) { s with heap:=s.heap.update l (Obj.mapSeq f),toks:=t' }:=by
 have q:=PySem.IsL.update e f
 rw [hf] at q
 refine I.write (x:=l) (e:=l) (by rw [hH]; exact trivial) (.inl rfl) (fun b' u hb hu=>(Heap.get?_update_other s.heap (Obj.mapSeq f) (Ne.symm hb)).trans hu) ⟨_,q⟩ ?_
 exact ⟨hz,its',_,hv,q⟩
theorem Inv.lnew {its:List Value} {t':Nat} (I:Inv X pins σ H s) (hv:Vals ys its) (hz:ys.length≤sizeLine) :
  Inv X pins σ (upd H s.heap.objs.size (.lst ys)) { s with heap:=s.heap.push { cls:=.type "list", data:=.seq its.toArray },toks:=t' } :=
 I.laid (fun _ _ q=>Heap.get?_push_of_some _ q) (Nat.le_refl _) ⟨hz,its,0,hv,Heap.get?_push_size _ rfl⟩
theorem Inv.fresh (I:Inv X pins σ H s) : H s.heap.objs.size=none:=I.hok.fresh (Nat.le_refl _)
theorem Inv.lstM (I:Inv X pins σ H s) (hH:H l=some (.lst xs)) : xs.length≤sizeLine∧∃ (its:List Value) (n:Nat),Vals xs its∧xs.length=its.length∧s.heap.get? l=some { cls:=.type "list", data:=.seq its.toArray n }:=by
 obtain ⟨z,its,n,r,e⟩:=I.hok l _ hH
 exact ⟨z,its,n,r,r.length,e⟩
theorem notLongL {n:Nat} (h:n≤sizeLine) : Builtin.List.listTooLong n=false:=by
 unfold Builtin.List.listTooLong
 exact decide_eq_false (by omega)
end
section
variable {X:Cx}
def rAppend:V→List V→Hp→VK→Prop:=fun x vs H Q=>∃ l xs y,x=.ref l∧vs=[y]∧H l=some (.lst xs)∧xs.length<sizeLine∧Q .non (upd H l (.lst (xs++[y])))
theorem mt_append:MtM X "list.append" rAppend:=by
 intro pins s σ H x vs v us Q I rx rv h
 obtain ⟨l,xs,y,rfl,rfl,hH,hz,q⟩:=h
 cases rx
 obtain ⟨u,rfl,ru⟩:=rv.one
 obtain ⟨z,its,n,r,hl,e⟩:=I.lstM hH
 refine call_meets F.slot_list_append ⟨_,e,rfl⟩ F.entry_list_append (F.args_list_append_2 _ _) (PySem.list_append l its.toArray n u (by rw [List.size_toArray]; omega)) ⟨e,?_⟩
 refine ⟨.non,_,I.lset (its':=its++[u]) hH e (by simp) (r.append (.cons ru .nil)) ?_,rfl,q⟩
 rw [List.length_append,List.length_singleton]
 omega
def rExtend:V→List V→Hp→VK→Prop:=fun x vs H Q=>∃ l b xs zs,x=.ref l∧vs=[.ref b]∧H l=some (.lst xs)∧H b=some (.lst zs)∧xs.length+zs.length≤sizeLine∧Q .non (upd H l (.lst (xs++zs)))
theorem mt_extend:MtM X "list.extend" rExtend:=by
 intro pins s σ H x vs v us Q I rx rv h
 obtain ⟨l,b,xs,zs,rfl,rfl,hH,hB,hz,q⟩:=h
 cases rx
 obtain ⟨u,rfl,ru⟩:=rv.one
 cases ru
 obtain ⟨z,its,n,r,hl,e⟩:=I.lstM hH
 obtain ⟨z2,its2,n2,r2,hl2,e2⟩:=I.lstM hB
 have hsz:its.toArray.size+its2.toArray.size≤sizeLine:=by rw [List.size_toArray,List.size_toArray]; omega
 have hlong : ¬ (!its.toArray.isEmpty && Builtin.List.listTooLong (its.toArray.size+its2.toArray.size))=true:=by
  rw [notLongL hsz,Bool.and_false]
  exact Bool.false_ne_true
 refine call_meets F.slot_list_extend ⟨_,e,rfl⟩ F.entry_list_extend (F.args_list_extend_2 _ _)
  (AutoSeq1.list_extend_list_list_0 l its.toArray n b its2.toArray n2 hlong (by rw [List.size_toArray]; omega) (by omega)) ⟨e,e2,?_⟩
 refine ⟨.non,_,I.lset (its':=its++its2) hH e (by simp) (r.append r2) ?_,rfl,q⟩
 rw [List.length_append]
 omega
def rPopAt:V→List V→Hp→VK→Prop:=fun x vs H Q=>∃ l xs i k y,x=.ref l∧vs=[.int i]∧H l=some (.lst xs)∧-(2 ^ 63)≤i∧i<2 ^ 63∧seqIndex? i xs.length=some k∧xs[k]?=some y∧Q y (upd H l (.lst (xs.eraseIdx k)))
theorem mt_popAt:MtM X "list.pop" rPopAt:=by
 intro pins s σ H x vs v us Q I rx rv h
 obtain ⟨l,xs,i,k,y,rfl,rfl,hH,h1,h2,hk,hy,q⟩:=h
 cases rx
 obtain ⟨u,rfl,ru⟩:=rv.one
 obtain ⟨t,rfl⟩:=ru
 obtain ⟨z,its,n,r,hl,e⟩:=I.lstM hH
 obtain ⟨w,hw,rw'⟩:=r.get hy
 refine call_meets F.slot_list_pop ⟨_,e,rfl⟩ F.entry_list_pop (F.args_list_pop_2 _ _)
  (MeetsSeq.list_pop_at l its.toArray n i t k w (fitsIndex_both h1 h2) (by rw [List.size_toArray,← hl]; exact hk) (by rw [← Array.getElem?_toList]; exact hw) (by rw [List.size_toArray]; omega)) ⟨e,?_⟩
 refine ⟨y,_,I.lset (its':=its.eraseIdx k) hH e ?_ (r.eraseIdx k) ?_,rw',q⟩
 ·show its.toArray.eraseIdxIfInBounds k=(its.eraseIdx k).toArray
  rw [List.eraseIdxIfInBounds_toArray]
 ·have:=len_erase xs k
  omega
def rCat:R2:=fun x y H Q=>∃ l b xs zs,x=.ref l∧y=.ref b∧H l=some (.lst xs)∧H b=some (.lst zs)∧xs.length+zs.length≤sizeLine∧∀ p,H p=none→Q (.ref p) (upd H p (.lst (xs++zs)))
theorem op_cat:OpR X (binaryOp .Add) rCat:=by
 intro pins s σ H x y v u Q I rx ry h
 obtain ⟨l,b,xs,zs,rfl,rfl,hH,hB,hz,q⟩:=h
 cases rx
 cases ry
 obtain ⟨z,its,n,r,hl,e⟩:=I.lstM hH
 obtain ⟨z2,its2,n2,r2,hl2,e2⟩:=I.lstM hB
 refine PySem.P.add_list e e2 ?_ (by rw [List.size_toArray,List.size_toArray]; omega)
 have ea:its.toArray++its2.toArray=(its++its2).toArray:=by simp
 rw [ea]
 exact ⟨.ref _,_,I.lnew (t':=s.toks) (r.append r2) (by rw [List.length_append]; omega),rfl,q _ I.fresh⟩
end
end L2
namespace L2
open PySem PySem.Spec PyProof.Rows
section
variable {κ : Type} [DecidableEq κ]
def valV (kvs:List (κ × V)) (k : κ) : Option V:=(kvs.find? fun kv=>decide (kv.1=k)).map (·.2)
def putK (kvs:List (κ × V)) (k : κ) (v:V) : List (κ × V) :=
 if (kvs.any fun kv=>decide (kv.1=k))=true then kvs.map (fun kv=>if kv.1=k then (kv.1,v) else kv) else kvs++[(k,v)]
theorem valV_pos {p : κ × V} {r:List (κ × V)} {k : κ} (e:p.1=k) : valV (p :: r) k=some p.2:=by simp [valV,List.find?_cons,e]
theorem valV_neg {p : κ × V} {r:List (κ × V)} {k : κ} (e : ¬ p.1=k) : valV (p :: r) k=valV r k:=by simp [valV,List.find?_cons,e]
theorem valV_any (k : κ) : ∀ kvs:List (κ × V),(kvs.any fun kv=>decide (kv.1=k))=(valV kvs k).isSome
 | []=>rfl
 | p :: r=>by
  rw [List.any_cons]
  by_cases e:p.1=k
  ·simp only [valV_pos e,decide_eq_true e,Bool.true_or,Option.isSome_some]
  ·rw [valV_neg e,decide_eq_false e,Bool.false_or]; exact valV_any k r
theorem valV_map (k j : κ) (y:V) : ∀ kvs:List (κ × V),valV (kvs.map fun kv=>if kv.1=k then (kv.1,y) else kv) j=(valV kvs j).map fun x=>if j=k then y else x
 | []=>rfl
 | p :: r=>by
  have ih:=valV_map k j y r
  rw [List.map_cons]
  by_cases h:p.1=k
  ·rw [if_pos h]
   by_cases e:p.1=j
   ·rw [valV_pos (p:=(p.1,y)) e,valV_pos e,Option.map_some,if_pos (e.symm.trans h)]
   ·rw [valV_neg (p:=(p.1,y)) e,valV_neg e,ih]
  ·rw [if_neg h]
   by_cases e:p.1=j
   ·rw [valV_pos (p:=p) e,valV_pos e,Option.map_some,if_neg (fun z=>h (e.trans z))]
   ·rw [valV_neg (p:=p) e,valV_neg e,ih]
theorem valV_snoc (k j : κ) (y:V) : ∀ kvs:List (κ × V),valV kvs k=none→valV (kvs++[(k,y)]) j=if j=k then some y else valV kvs j
 | [],_=>by
  by_cases e:k=j
  ·rw [if_pos e.symm]; exact valV_pos (p:=(k,y)) e
  ·rw [if_neg (fun z=>e z.symm)]; exact valV_neg (p:=(k,y)) e
 | p :: r,hn=>by
  rw [List.cons_append]
  have hk : ¬ p.1=k:=fun z=>by rw [valV_pos z] at hn; cases hn
  rw [valV_neg hk] at hn
  have ih:=valV_snoc k j y r hn
  by_cases e:p.1=j
  ·rw [valV_pos e,valV_pos e,if_neg (fun z=>hk (e.trans z))]
  ·rw [valV_neg e,valV_neg e,ih]
theorem valV_put (kvs:List (κ × V)) (k j : κ) (y:V) : valV (putK kvs k y) j=if j=k then some y else valV kvs j:=by
 unfold putK
 by_cases a:(kvs.any fun kv=>decide (kv.1=k))=true
 ·rw [if_pos a,valV_map]
  rw [valV_any] at a
  by_cases e:j=k
  ·obtain ⟨x,hx⟩:=Option.isSome_iff_exists.mp a
   rw [if_pos e,e,hx,Option.map_some,if_pos rfl]
  ·rw [if_neg e]
   cases valV kvs j with
   | none=>rfl
   | some x=>rw [Option.map_some,if_neg e]
 ·rw [if_neg a]
  refine valV_snoc k j y kvs ?_
  rw [valV_any] at a
  cases q:valV kvs k with
  | none=>rfl
  | some x=>rw [q] at a; exact (a rfl).elim
theorem length_putK (kvs:List (κ × V)) (k : κ) (v:V) : (putK kvs k v).length≤kvs.length+1:=by
 unfold putK
 split
 ·rw [List.length_map]; omega
 ·rw [List.length_append,List.length_cons,List.length_nil]; omega
theorem RelO.isSome_eq {o:Option V} {u:Option Value} (r:RelO o u) : o.isSome=u.isSome:=by
 cases o with
 | none=>cases u with
  | none=>rfl
  | some _=>exact (show False from r).elim
 | some _=>cases u with
  | none=>exact (show False from r).elim
  | some _=>rfl
theorem RelO.getD {o:Option V} {u:Option Value} {d:V} {d':Value} (r:RelO o u) (rd:RelV d d') : RelV (o.getD d) (u.getD d'):=by
 cases o with
 | none=>cases u with
  | none=>exact rd
  | some _=>exact (show False from r).elim
 | some _=>cases u with
  | none=>exact (show False from r).elim
  | some _=>exact r
theorem KV.val {kvs:List (κ × V)} {vs:List (κ × Value)} (r:KV kvs vs) (k : κ) : RelO (valV kvs k) (valueAt vs k):=by
 unfold KV at r
 induction r with
 | nil=>exact True.intro
 | @cons p q ps qs h t ih =>
  obtain ⟨h1,h2⟩:=h
  by_cases e:p.1=k
  ·have e':q.1=k:=h1.symm.trans e
   have b:valueAt (q :: qs) k=some q.2:=by simp [valueAt,List.find?_cons,e']
   rw [valV_pos e,b]; exact h2
  ·have e' : ¬ q.1=k:=fun z=>e (h1.trans z)
   have b:valueAt (q :: qs) k=valueAt qs k:=by simp [valueAt,List.find?_cons,e']
   rw [valV_neg e,b]; exact ih
theorem KV.any {kvs:List (κ × V)} {vs:List (κ × Value)} (r:KV kvs vs) (k : κ) : (kvs.any fun kv=>decide (kv.1=k))=vs.any fun kv=>decide (kv.1=k):=by
 unfold KV at r
 induction r with
 | nil=>rfl
 | cons h t ih=>rw [List.any_cons,List.any_cons,ih,h.1]
theorem KV.repl {kvs:List (κ × V)} {vs:List (κ × Value)} (r:KV kvs vs) (k : κ) {y:V} {u:Value} (ry:RelV y u) :
  KV (kvs.map fun kv=>if kv.1=k then (kv.1,y) else kv) (vs.map fun kv=>if kv.1=k then (kv.1,u) else kv):=by
 unfold KV at r ⊢
 induction r with
 | nil=>exact .nil
 | @cons p q ps qs h t ih =>
  rw [List.map_cons,List.map_cons]
  refine .cons ?_ ih
  obtain ⟨h1,h2⟩:=h
  by_cases e:p.1=k
  ·rw [if_pos e,if_pos (h1.symm.trans e)]; exact ⟨h1,ry⟩
  ·rw [if_neg e,if_neg (fun z=>e (h1.trans z))]; exact ⟨h1,h2⟩
theorem KV.put {kvs:List (κ × V)} {vs:List (κ × Value)} (r:KV kvs vs) (k : κ) {y:V} {u:Value} (ry:RelV y u) : KV (putK kvs k y) (stored vs k u):=by
 unfold putK stored
 rw [r.any k]
 by_cases e:(vs.any fun kv=>decide (kv.1=k))=true
 ·rw [if_pos e,if_pos e]; exact r.repl k ry
 ·rw [if_neg e,if_neg e]; exact Paired.snoc r ⟨rfl,ry⟩
theorem KV.length {kvs:List (κ × V)} {vs:List (κ × Value)} (r:KV kvs vs) : kvs.length=vs.length:=Paired.length r
end
theorem kV_is {P:Program} {w:World} {k:Key} {u:Value} (r:RelV (kV k) u) : (mixKind P w).is k u=true:=by
 cases k with
 | inl i=>obtain ⟨t,e⟩:=(show ∃ t,u=Value.int i t from r); subst e; exact mixKind_int P w i t
 | inr x=>obtain ⟨t,e⟩:=(show ∃ t,u=Value.str x t from r); subst e; exact mixKind_str P w x t
theorem items_are {P:Program} {w:World} : ∀ {ks:List Key} {us:List Value},Vals (ks.map kV) us→ItemsAre (mixKind P w) ks us
 | [],_,r=>by rw [List.map_nil] at r; cases r; exact .nil
 | k :: ks,_,r=>by
  rw [List.map_cons] at r
  cases r with
  | cons h t=>exact .cons (kV_is h) (items_are t)
abbrev KT (H:Hp) : List (List Key × V)→List (List Key × Addr × Value)→Prop:=Paired fun p q=>p.1=q.1∧H q.2.1=some (.tup (p.1.map kV))∧RelV p.2 q.2.2
theorem KT.val {H:Hp} {kvs:List (List Key × V)} {xs:List (List Key × Addr × Value)} (r:KT H kvs xs) (k:List Key) : RelO (valV kvs k) ((atKey xs k).map (·.2)):=by
 induction r with
 | nil=>exact True.intro
 | @cons p q ps qs h t ih =>
  obtain ⟨h1,_,h2⟩:=h
  by_cases e:p.1=k
  ·have e':q.1=k:=h1.symm.trans e
   have b:atKey (q :: qs) k=some q.2:=by simp [atKey,List.find?_cons,e']
   rw [valV_pos e,b]; exact h2
  ·have e' : ¬ q.1=k:=fun z=>e (h1.trans z)
   have b:atKey (q :: qs) k=atKey qs k:=by simp [atKey,List.find?_cons,e']
   rw [valV_neg e,b]; exact ih
theorem KT.repl {H:Hp} {kvs:List (List Key × V)} {xs:List (List Key × Addr × Value)} (r:KT H kvs xs) (k:List Key) {y:V} {u:Value} (ry:RelV y u) :
  KT H (kvs.map fun kv=>if kv.1=k then (kv.1,y) else kv) (xs.map (putAt k u)):=by
 induction r with
 | nil=>exact .nil
 | @cons p q ps qs h t ih =>
  rw [List.map_cons,List.map_cons]
  refine .cons ?_ ih
  obtain ⟨h1,h2,h3⟩:=h
  unfold putAt
  by_cases e:p.1=k
  ·rw [if_pos e,if_pos (h1.symm.trans e)]; exact ⟨h1,h2,ry⟩
  ·rw [if_neg e,if_neg (fun z=>e (h1.trans z))]; exact ⟨h1,h2,h3⟩
theorem KT.put {H:Hp} {kvs:List (List Key × V)} {xs:List (List Key × Addr × Value)} (r:KT H kvs xs) (k:List Key) {b:Addr} {y:V} {u:Value} (hb:H b=some (.tup (k.map kV))) (ry:RelV y u) :
  KT H (putK kvs k y) (storedH xs k b u):=by
 have e:(kvs.any fun kv=>decide (kv.1=k))=(atKey xs k).isSome:=by
  rw [valV_any,(r.val k).isSome_eq,Option.isSome_map]
 unfold putK storedH
 rw [e]
 by_cases q:(atKey xs k).isSome=true
 ·rw [if_pos q,if_pos q]; exact r.repl k ry
 ·rw [if_neg q,if_neg q]; exact Paired.snoc r ⟨rfl,hb,ry⟩
theorem KT.keeps {H H':Hp} {kvs:List (List Key × V)} {xs:List (List Key × Addr × Value)} (r:KT H kvs xs) (ht : ∀ b ys,H b=some (.tup ys)→H' b=some (.tup ys)) : KT H' kvs xs :=
 Paired.mapP r fun _ _ z=>⟨z.1,ht _ _ z.2.1,z.2.2⟩
section
variable {P:Program} {w:World} {H:Hp} {h:Heap} {a:Addr}
theorem rd_of {u:HO} (ok:HOk P w H h) (e:Rd H a u) : ObjOk P w H h a u:=e.ok ok
theorem dk_rd {kvs:List (Key × V)} (ok:HOk P w H h) (e:Rd H a (.dK kvs)) : kvs.length≤sizeLine∧(a == sysModules)=false∧∃ vs,KV kvs vs∧h.DictOf (mixKind P w) a vs :=
 show ObjOk P w H h a (.dK kvs) from rd_of ok e
theorem dk_of {kvs:List (Key × V)} (ok:HOk P w H h) (e:H a=some (.dK kvs)) : kvs.length≤sizeLine∧(a == sysModules)=false∧∃ vs,KV kvs vs∧h.DictOf (mixKind P w) a vs:=dk_rd ok (.inl e)
theorem key_of {ks:List Key} (ok:HOk P w H h) (e:H a=some (.tup (ks.map kV))) : (tupleKind (mixKind P w)).is h ks a:=by
 obtain ⟨_,its,r,o,h1,h2,n,h3⟩:=(show ObjOk P w H h a (.tup (ks.map kV)) from ok a _ e)
 exact ⟨o,its.toArray,n,h1,h2,h3,by simpa using items_are r⟩
theorem dt_rd {kvs:List (List Key × V)} (ok:HOk P w H h) (e:Rd H a (.dT kvs)) : kvs.length≤sizeLine∧(a == sysModules)=false ∧
  ∃ xs,KT H kvs xs∧h.DictOfH (tupleKind (mixKind P w)) a xs:=by
 obtain ⟨z,y,xs,r,o,es,ep,h1,h2,h3,h4,h5⟩:=(show ObjOk P w H h a (.dT kvs) from rd_of ok e)
 refine ⟨z,y,xs,r,o,es,ep,h1,h2,h3,h4,fun x hx=>?_,h5⟩
 have all : ∀ {l:List (List Key × V)} {m:List (List Key × Addr × Value)},KT H l m→∀ x∈m,(tupleKind (mixKind P w)).is h x.1 x.2.1:=by
  intro l m q
  induction q with
  | nil=>intro x hx; exact nomatch hx
  | @cons p q ps qs hq t ih =>
   intro x hx
   rcases List.mem_cons.mp hx with e | hx
   ·subst e
    exact key_of ok (by rw [← hq.1]; exact hq.2.1)
   ·exact ih x hx
 exact all r x hx
theorem dt_of {kvs:List (List Key × V)} (ok:HOk P w H h) (e:H a=some (.dT kvs)) : kvs.length≤sizeLine∧(a == sysModules)=false ∧
  ∃ xs,KT H kvs xs∧h.DictOfH (tupleKind (mixKind P w)) a xs:=dt_rd ok (.inl e)
end
def DGet (H:Hp) (a:Addr) (y:V) (r:Option V) : Prop :=
 (∃ kvs k,Rd H a (.dK kvs)∧y=kV k∧r=valV kvs k)∨∃ kvs k b,Rd H a (.dT kvs)∧y=.ref b∧H b=some (.tup (k.map kV))∧r=valV kvs k
def DPut (H:Hp) (a:Addr) (y v:V) (H':Hp) : Prop :=
 (∃ kvs k,H a=some (.dK kvs)∧y=kV k∧kvs.length<sizeLine∧H'=upd H a (.dK (putK kvs k v))) ∨
 ∃ kvs k b,H a=some (.dT kvs)∧y=.ref b∧H b=some (.tup (k.map kV))∧kvs.length<sizeLine∧H'=upd H a (.dT (putK kvs k v))
theorem DGet.k {H:Hp} {a:Addr} {kvs:List (Key × V)} {k:Key} (e:H a=some (.dK kvs)) : DGet H a (kV k) (valV kvs k):=.inl ⟨kvs,k,.inl e,rfl,rfl⟩
theorem DPut.k {H:Hp} {a:Addr} {kvs:List (Key × V)} {k:Key} {v:V} (e:H a=some (.dK kvs)) (hl:kvs.length<sizeLine) : DPut H a (kV k) v (upd H a (.dK (putK kvs k v))):=.inl ⟨kvs,k,e,rfl,hl,rfl⟩
section
variable {X:Cx} {pins:List (Addr × Obj)} {σ : St} {H:Hp} {s:Shared} {a:Addr} {y v:V} {u r:Value} {o:Option V} {A:Around} {E:Value→Shared→Prop}
theorem Inv.big (I:Inv X pins σ H s) : sysModules<s.heap.objs.size:=by
 have h:mainGlobals<s.heap.objs.size:=(I.mod.glob.keeps I.bk).lt
 exact Nat.lt_trans (by decide) h
theorem d_notIn {Q:Value→Shared→Prop} (hu:A.units+1<cLine) (I:Inv X pins σ H s) (g:DGet H a y o) (ry:RelV y u) (h : ∀ s',Inv X pins σ H s'→Q (.bool (!o.isSome)) s') :
  wpAny (model X.prog X.w) A (compareOp .NotIn u (.ref a)) Q E s:=by
 rcases g with ⟨kvs,k,e,ey,l⟩ | ⟨kvs,k,b,e,ey,eb,l⟩
 ·subst ey
  obtain ⟨z,hd,vs,rel,dd⟩:=dk_rd I.hok e
  refine wpAny_notIn_of (kV_is ry) hd dd.mapOf ?_
  rw [← (rel.val k).isSome_eq,← l]
  exact h _ (I.tok _)
 ·subst ey
  cases (show u=Value.ref b from ry)
  obtain ⟨z,hd,xs,rel,dd⟩:=dt_rd I.hok e
  refine wpAny_notIn_heap (tupleKind_room_in1 hu) (key_of I.hok eb) hd dd ?_
  have q:=(rel.val k).isSome_eq
  rw [Option.isSome_map] at q
  rw [← q,← l]
  exact h _ (I.tok _)
theorem d_write {h':Heap} {t':Nat} {ob:HO} (I:Inv X pins σ H s) (mu:Mut (H a)) (hs:Heap.SameBut a s.heap h') (he : ∃ q,h'.get? a=some q) (new:ObjOk X.prog X.w (upd H a ob) h' a ob) :
  Inv X pins σ (upd H a ob) { s with heap:=h',toks:=t' } :=
 I.write (x:=a) (e:=a) mu (.inl rfl) (fun b q hb z=>(hs.2 b hb).trans z) he new
theorem dk_new {P:Program} {w:World} {H':Hp} {h':Heap} {kvs:List (Key × V)} {vs:List (Key × Value)} (z:kvs.length≤sizeLine) (hd:(a == sysModules)=false) (rel:KV kvs vs) (dd:h'.DictOf (mixKind P w) a vs) :
  ObjOk P w H' h' a (.dK kvs):=⟨z,hd,vs,rel,dd⟩
theorem d_setItem {H':Hp} {Q:Unit→Shared→Prop} (hu:A.units+1<cLine) (I:Inv X pins σ H s) (g:DPut H a y v H') (ry:RelV y u) (rv:RelV v r) (h : ∀ s',Inv X pins σ H' s'→Q () s') :
  wpAny (model X.prog X.w) A (setItem (.ref a) u r) Q E s:=by
 rcases g with ⟨kvs,k,e,ey,l,eH⟩ | ⟨kvs,k,b,e,ey,eb,l,eH⟩
 ·subst ey eH
  obtain ⟨z,hd,vs,rel,dd⟩:=dk_of I.hok e
  have hz:vs.length≤sizeLine:=by rw [← rel.length]; exact z
  have hl:(putK kvs k v).length≤sizeLine:=by have:=length_putK kvs k v; omega
  refine wpAny_setItem_pairs (hsz:=hz) (kV_is ry) dd fun h' dd' hs=>h _ ?_
  have he : ∃ q,h'.get? a=some q:=let ⟨q,_,_,hq,_⟩:=dd'; ⟨q,hq⟩
  exact d_write I (by rw [e]; exact True.intro) hs he (dk_new hl hd (rel.put k rv) dd')
 ·subst ey eH
  cases (show u=Value.ref b from ry)
  obtain ⟨z,hd,xs,rel,dd⟩:=dt_of I.hok e
  have hz:xs.length≤sizeLine:=by rw [← Paired.length rel]; exact z
  have hl:(putK kvs k v).length≤sizeLine:=by have:=length_putK kvs k v; omega
  refine wpAny_setItem_heap (hsz:=hz) (tupleKind_room_in1 hu) (key_of I.hok eb) dd fun h' dd' hs=>h _ ?_
  obtain ⟨q,es,ep,hq,h2,h3,h4,_,h5⟩:=dd'
  refine d_write I (by rw [e]; exact True.intro) hs ⟨q,hq⟩ ⟨hl,hd,_,(rel.put k eb rv).keeps fun c ys ec=>?_,q,es,ep,hq,h2,h3,h4,h5⟩
  rw [upd_ne (ne_of ec e (fun z=>nomatch z))]
  exact ec
end
def tDNotIn (ty td:TE) : TE:=fun σ H Q=>ty σ H fun y H1=>td σ H1 fun x H2=>∃ a o,x=.ref a∧DGet H2 a y o∧Q (.bl (!o.isSome)) H2
def sDPut (td ty tv:TE) : TS:=fun D σ H=>tv σ H fun v H1=>td σ H1 fun x H2=>ty σ H2 fun y H3=>∃ a H4,x=.ref a∧DPut H3 a y v H4∧D.nx σ H4
section
variable {X:Cx} {o i e value:Expr} {pos pos' tpos:Pos} {td ty tv:TE}
theorem pc_dnotin (hu:X.A.units+1<cLine) (hi:PE X i ty) (ho:PE X o td) : PC X .NotIn i o (tDNotIn ty td):=by
 intro pins s σ H Q I h
 refine thn (hi pins s σ H _ I h) fun iv s1 ⟨y,H1,I1,ry,q1⟩=>thn (ho pins s1 σ H1 _ I1 q1) fun u s2 ⟨x,H2,I2,rx,a,ov,ex,g,q2⟩=>?_
 subst ex
 obtain rfl:u=Value.ref a:=rx
 exact d_notIn hu I2 g ry fun s3 I3=>⟨.bl (!ov.isSome),H2,I3,rfl,q2⟩
theorem ps_dput (hu:X.A.units+1<cLine) (ho:PE X o td) (hi:PE X i ty) (hv:PE X value tv) (hs:swapsWith value (some (.Subscript o i pos')) pos.line X.env=pure false) :
  PS X (.Assign [.Subscript o i pos'] value pos) (sDPut td ty tv):=by
 intro pins s σ H D I h
 refine wpAny_Assign_Subscript (thn (hv pins s σ H _ I h) fun r s1 ⟨v,H1,I1,rv,q1⟩=>thn (ho pins s1 σ H1 _ I1 q1) fun u s2 ⟨x,H2,I2,rx,q2⟩=>thn (hi pins s2 σ H2 _ I2 q2) fun iv s3 ⟨y,H3,I3,ry,a,H4,ex,g,q3⟩=>?_) hs
 subst ex
 obtain rfl:u=Value.ref a:=rx
 exact d_setItem hu I3 g ry rv fun s4 I4=>⟨σ,H4,I4,q3⟩
end
theorem dk_empty {P:Program} {w:World} {H:Hp} (h:Heap) (hb:sysModules<h.objs.size) : ObjOk P w H (h.push { cls:=.type "dict", data:=.dict #[] }) h.objs.size (.dK []) :=
 ⟨Nat.zero_le _,beq_eq_false_iff_ne.mpr (Ne.symm (Nat.ne_of_lt hb)),[],.nil,Heap.DictOf.new h⟩
def tDNewK:TE:=fun _ H Q=>∀ p,H p=none→Q (.ref p) (upd H p (.dK []))
section
variable {X:Cx} {pos:Pos}
theorem pe_dnewK:PE X (.Dict [] [] pos) tDNewK:=fun pins s σ H Q I h =>
 wpAny_Dict_empty ⟨.ref s.heap.objs.size,_,I.laid (a:=s.heap.objs.size) (o:=.dK []) (t':=s.toks) (fun _ _ q=>Heap.get?_push_of_some _ q) (Nat.le_refl _) (dk_empty s.heap I.big),rfl,h _ (I.hok.fresh (Nat.le_refl _))⟩
end
def tPairs:List (TE × TE)→St→Hp→(List (V × V)→Hp→Prop)→Prop
 | [],_,H,Q=>Q [] H
 | (tk,tv) :: r,σ,H,Q=>tk σ H fun x H1=>tv σ H1 fun y H2=>tPairs r σ H2 fun ps H3=>Q ((x,y) :: ps) H3
abbrev VV:List (V × V)→List (Value × Value)→Prop:=Paired fun p q=>RelV p.1 q.1∧RelV p.2 q.2
def PPs (X:Cx) (pos:Pos) (keys:List (Option Expr)) (values:List Expr) (trs:List (TE × TE)) : Prop :=
 ∀ (pins:List (Addr × Obj)) (s:Shared) (σ : St) (H:Hp) (Q:List (V × V)→Hp→Prop),Inv X pins σ H s→tPairs trs σ H Q →
  wpAny (model X.prog X.w) X.A (evalPairs (pairTrees keys values X.env pos)) (fun vs s'=>∃ ps H',Inv X pins σ H' s'∧VV ps vs∧Q ps H') X.xe s
theorem pps_nil {X:Cx} {pos:Pos} : PPs X pos [] [] []:=fun pins s σ H Q I h=>pairTrees_nil_walk ⟨[],H,I,.nil,h⟩
theorem pps_cons {X:Cx} {pos:Pos} {k v:Expr} {ks:List (Option Expr)} {vs:List Expr} {tk tv:TE} {trs:List (TE × TE)} (hk:PE X k tk) (hv:PE X v tv) (hr:PPs X pos ks vs trs) :
  PPs X pos (some k :: ks) (v :: vs) ((tk,tv) :: trs):=fun pins s σ H Q I h =>
 pairTrees_cons_walk (thn (hk pins s σ H _ I h) fun u s1 ⟨x,H1,I1,rx,q1⟩=>thn (hv pins s1 σ H1 _ I1 q1) fun w2 s2 ⟨y,H2,I2,ry,q2⟩ =>
  thn (hr pins s2 σ H2 _ I2 q2) fun ws s3 ⟨ps,H3,I3,rel,q3⟩=>⟨(x,y) :: ps,H3,I3,.cons ⟨rx,ry⟩ rel,q3⟩)
def mergeK (kvs more:List (Key × V)) : List (Key × V):=more.foldl (fun acc kv=>putK acc kv.1 kv.2) kvs
theorem KV.merge : ∀ {more:List (Key × V)} {rs:List (Key × Value)} {kvs:List (Key × V)} {vs:List (Key × Value)},KV more rs→KV kvs vs→KV (mergeK kvs more) (merged vs rs):=by
 intro more rs kvs vs r
 unfold KV at r
 induction r generalizing kvs vs with
 | nil=>intro q; exact q
 | @cons p q ps qs h t ih =>
  intro r0
  have e:KV (putK kvs p.1 p.2) (stored vs q.1 q.2):=by
   have:=r0.put p.1 h.2
   rw [← h.1]; exact this
  exact ih e
theorem length_mergeK : ∀ (more kvs:List (Key × V)),(mergeK kvs more).length≤kvs.length+more.length
 | [],kvs=>by show kvs.length≤kvs.length+0; omega
 | p :: r,kvs=>by
  have h1:=length_mergeK r (putK kvs p.1 p.2)
  have h2:=length_putK kvs p.1 p.2
  show (mergeK (putK kvs p.1 p.2) r).length≤_
  rw [List.length_cons]; omega
theorem carries_of {P:Program} {w:World} : ∀ {kvs:List (Key × V)} {ws:List (Value × Value)},VV (kvs.map fun kv=>(kV kv.1,kv.2)) ws→∃ rs,Carries (mixKind P w) ws rs∧KV kvs rs
 | [],_,r=>by rw [List.map_nil] at r; cases r; exact ⟨[],True.intro,.nil⟩
 | p :: kvs,_,r=>by
  rw [List.map_cons] at r
  cases r with
  | @cons a b as bs h t =>
   obtain ⟨rs,c,q⟩:=carries_of (P:=P) (w:=w) t
   obtain ⟨b1,b2⟩:=b
   exact ⟨(p.1,b2) :: rs,⟨kV_is h.1,rfl,c⟩,.cons ⟨rfl,h.2⟩ q⟩
def tDisp (trs:List (TE × TE)) : TE:=fun σ H Q=>∀ p,H p=none→tPairs trs σ (upd H p (.dK [])) fun ps H2=>H2 p=some (.dK [])∧∃ kvs:List (Key × V),ps=kvs.map (fun kv=>(kV kv.1,kv.2))∧kvs.length≤15∧Q (.ref p) (upd H2 p (.dK (mergeK [] kvs)))
theorem pe_disp {X:Cx} {pos:Pos} {keys:List (Option Expr)} {values:List Expr} {trs:List (TE × TE)} (h:PPs X pos keys values trs) (hall:keys.all (·.isSome)=true) (hl:keys.length=values.length) (h0:keys≠[])
  (h15:keys.length≤15) : PE X (.Dict keys values pos) (tDisp trs):=by
 intro pins s σ H Q I q
 have hn:=I.hok.fresh (Nat.le_refl s.heap.objs.size)
 have I1:=I.laid (a:=s.heap.objs.size) (o:=.dK []) (h':=s.heap.push { cls:=.type "dict", data:=.dict #[] }) (t':=s.toks) (fun _ _ q=>Heap.get?_push_of_some _ q) (Nat.le_refl _) (dk_empty s.heap I.big)
 refine wpAny_Dict_walk (knd:=mixKind X.prog X.w) hall hl h0 h15 (thn (h pins _ σ _ _ I1 (q _ hn)) fun ws s2 ⟨ps,H2,I2,rel,e,kvs,ep,lk,q2⟩=>?_)
 subst ep
 obtain ⟨rs,c,rk⟩:=carries_of (P:=X.prog) (w:=X.w) rel
 obtain ⟨z,hd,vs0,r0,dd⟩:=dk_of I2.hok e
 cases r0
 refine ⟨rs,c,dd,fun h' dd' hs=>⟨.ref s.heap.objs.size,_,?_,rfl,q2⟩⟩
 have hz:(mergeK [] kvs).length≤sizeLine:=by
  have h1:=length_mergeK kvs []
  rw [List.length_nil] at h1
  rw [sizeLine_eq]; omega
 have he : ∃ q,h'.get? s.heap.objs.size=some q:=let ⟨q,_,_,hq,_⟩:=dd'; ⟨q,hq⟩
 exact d_write I2 (by rw [e]; exact True.intro) hs he (dk_new hz hd (rk.merge .nil) dd')
structure M1 (X:Cx) (o:Expr) (m:Str) (apos:Pos) (e:Expr) (cpos:Pos) : Prop where
 base:attributeBase o m X.env (eval o X.env)=eval o X.env
 few:((backTo cpos (starEach [e] X.env)).all (fun x=>!x.1) && (backToKw cpos (keywordEach [] X.env)).all (fun x=>x.1.isSome)
  && decide (([e] : List Expr).length+([] : List Keyword).length+(if ([] : List Keyword).isEmpty then 0 else 1)<30))=true
 line:(apos.endLine == cpos.line)=true
 trees:backTo cpos (starEach [e] X.env)=[(false,eval e X.env)]
structure M2 (X:Cx) (o:Expr) (m:Str) (apos:Pos) (e f:Expr) (cpos:Pos) : Prop where
 base:attributeBase o m X.env (eval o X.env)=eval o X.env
 few:((backTo cpos (starEach [e,f] X.env)).all (fun x=>!x.1) && (backToKw cpos (keywordEach [] X.env)).all (fun x=>x.1.isSome)
  && decide (([e,f] : List Expr).length+([] : List Keyword).length+(if ([] : List Keyword).isEmpty then 0 else 1)<30))=true
 line:(apos.endLine == cpos.line)=true
 trees:backTo cpos (starEach [e,f] X.env)=[(false,eval e X.env),(false,eval f X.env)]
def IsD (H:Hp) (a:Addr) : Prop:=(∃ kvs,Rd H a (.dK kvs))∨∃ kvs,Rd H a (.dT kvs)
theorem isD_at {X:Cx} {pins:List (Addr × Obj)} {σ : St} {H:Hp} {s:Shared} {a:Addr} (I:Inv X pins σ H s) (d:IsD H a) :
  s.TypeIs (.ref a) "dict" ∧ (∀ b,Value.ref a=.ref b→∃ ob,s.heap.get? b=some ob∧ob.dict=none)∧(a == sysModules)=false:=by
 rcases d with ⟨kvs,e⟩ | ⟨kvs,e⟩
 ·obtain ⟨_,hd,vs,_,dd⟩:=dk_rd I.hok e
  refine ⟨dd.typeIs,fun b q=>?_,hd⟩
  cases q
  obtain ⟨ob,_,_,h1,h2,_⟩:=dd
  exact ⟨ob,h1,h2.2.1⟩
 ·obtain ⟨_,hd,xs,_,dd⟩:=dt_rd I.hok e
  refine ⟨dd.typeIs,fun b q=>?_,hd⟩
  cases q
  obtain ⟨ob,_,_,h1,h2,_⟩:=dd
  exact ⟨ob,h1,h2.2.1⟩
section
variable {X:Cx} {pins:List (Addr × Obj)} {σ : St} {H:Hp} {s:Shared} {a:Addr} {y d:V} {u r:Value} {o:Option V} {A:Around} {E:Value→Shared→Prop}
theorem d_get2 {Q:Value→Shared→Prop} (hu:A.units+1<cLine) (I:Inv X pins σ H s) (g:DGet H a y o) (ry:RelV y u) (rd:RelV d r) (h : ∀ w' s',Inv X pins σ H s'→RelV (o.getD d) w'→Q w' s') :
  wpAny (model X.prog X.w) A (call (.builtin "dict.get") [.ref a,u,r]) Q E s:=by
 rcases g with ⟨kvs,k,e,ey,l⟩ | ⟨kvs,k,b,e,ey,eb,l⟩
 ·subst ey
  obtain ⟨z,hd,vs,rel,dd⟩:=dk_rd I.hok e
  refine call_meetsIn PySem.F.slot_dict_get dd.typeIs PySem.F.entry_dict_get (PySem.F.args_dict_get_3 _ _ _) (meets_dict_get_default (mixKind X.prog X.w) a (kV_is ry) hd r) ⟨_,dd.mapOf,h _ _ (I.tok _) ?_⟩
  rw [l]
  exact (rel.val k).getD rd
 ·subst ey
  cases (show u=Value.ref b from ry)
  obtain ⟨z,hd,xs,rel,dd⟩:=dt_rd I.hok e
  refine call_meetsIn PySem.F.slot_dict_get dd.typeIs PySem.F.entry_dict_get (PySem.F.args_dict_get_3 _ _ _) (meetsH_dict_get_default (tupleKind (mixKind X.prog X.w)) a b hd r) ⟨tupleKind_room_in1 hu,k,xs,key_of I.hok eb,dd,h _ _ (I.tok _) ?_⟩
  rw [l]
  exact (rel.val k).getD rd
end
def tDGet2 (td ty tx:TE) : TE:=fun σ H Q=>td σ H fun x H1=>∃ a,x=.ref a∧IsD H1 a∧ty σ H1 fun y H2=>tx σ H2 fun z H3=>∃ o,DGet H3 a y o∧Q (o.getD z) H3
section
variable {X:Cx} {o e f:Expr} {apos cpos:Pos} {td ty tx:TE}
theorem pe_dget2 (hu:X.A.units+1<cLine) (ho:PE X o td) (he:PE X e ty) (hf:PE X f tx) (m:M2 X o "get" apos e f cpos) : PE X (.Call (.Attribute o "get" apos) [e,f] [] cpos) (tDGet2 td ty tx):=by
 intro pins s σ H Q I h
 refine wpAny_Call_method m.base m.few m.line PySem.F.plainAttrs_dict PySem.F.slot_dict_get PySem.F.type_dict_get (thn (ho pins s σ H _ I h) fun u s1 ⟨x,H1,I1,rx,a,ex,d,q1⟩=>?_)
 subst ex
 obtain rfl:u=Value.ref a:=rx
 obtain ⟨t1,t2,_⟩:=isD_at I1 d
 refine ⟨t1,t2,?_⟩
 rw [m.trees]
 refine Calls.callWith_builtin rfl (Calls.evalArgs_plain (Calls.spliced_cons (thn (he pins s1 σ H1 _ I1 q1) fun iv s2 ⟨y,H2,I2,ry,q2⟩ =>
  Calls.spliced_cons (thn (hf pins s2 σ H2 _ I2 q2) fun fv s3 ⟨z,H3,I3,rz,ov,g,q3⟩=>Calls.spliced_nil ?_))))
 exact d_get2 hu I3 g ry rz fun w' s4 I4 rw'=>⟨_,H3,I4,rw',q3⟩
end
end L2
namespace Att
open PySem PySem.W PySem.Calls PyProof.Rows
theorem ints_of_wellAll {P:Params} {h:Heap} : ∀ (ns:List Int) (vs:List Value),WellAll P h vs (ns.map WData.int)→IntsAre vs ns:=by
 intro ns
 induction ns with
 | nil =>
  intro vs w
  rw [List.map_nil] at w
  cases w
  exact .nil
 | cons n ns ih =>
  intro vs w
  rw [List.map_cons] at w
  cases w with
  | cons a b =>
   cases a
   exact .cons _ _ (ih _ b)
theorem script_of {l:OpenLaw} {n:Nat} (hn:l.most=some n) {P:Params} {h:Heap} {args:List WData} {vals:List Value}
  (hpre:l.row.toRowW.claim.pre args=true) (hwl:WellAll P h vals args) :
  ∃ a vs ns,vals=[Value.ref a]∧args=[WData.list (ns.map WData.int)]∧h.get? a=some { cls:=.type "list", data:=.seq vs.toArray }∧IntsAre vs ns∧ns.length≤n:=by
 have hsh:WShape.hasAll [] args [.list .int]=true:=(pre_splitW hpre).1
 have hc:l.pre.holds [] { args:=args }=true:=(pre_splitW hpre).2
 obtain ⟨d,r,rfl,h1,h2⟩:=hasAllW_cons hsh
 obtain rfl:=hasAllW_nil h2
 obtain ⟨xs,rfl,h3⟩:=hasW_list h1
 obtain ⟨ns,rfl⟩:=items_int h3
 have hlen:ns.length≤n:=by
  unfold OpenLaw.pre at hc
  have h4:(WTm.not (.lt (.lit (.int (n:Int))) (.len (.arg 0)))).holds [] { args:=[.list (ns.map .int)] }=true:=by
   have h4:=(holds_andW hc).1
   rw [hn] at h4
   exact h4
  have h5:=condW_of h4 (w_not (w_lt w_lit (w_len_list (w_arg rfl))))
  rw [List.length_map] at h5
  refine Nat.le_of_not_lt fun q=>?_
  have q':(n:Int)<((ns.length:Nat) : Int):=by omega
  first
   | (rw [decide_eq_true q'] at h5; exact absurd h5 (by decide))
   | (simp at h5; omega)
 cases hwl with
 | cons w1 w2 =>
  cases w2
  cases w1 with
  | list ho hall=>exact ⟨_,_,ns,rfl,rfl,ho,ints_of_wellAll ns _ hall,hlen⟩
theorem post_true (l:OpenLaw) (args:List WData) : l.row.toRowW.claim.post args (.bool true) args=true :=
 postW_of (r:=l.row.toRowW) (X:=(true == true))
  (show WShape.has [] (.bool true) .bool=true by first | rfl | decide | simp [WShape.has,WShape.arms,WShape.armsAll])
  (show (WTm.eq .res (.lit (.bool true))).value [] { args:=args,res:=some (.bool true),after:=args }=some (.bool (true == true)) from w_eq_bool (w_res rfl) w_lit) rfl
theorem attach_call {l:OpenLaw} {n:Nat} {q:Program} {loose:List Str} {XP:(Str→Option Value)→Heap→Prop} {YP:World→Heap→Prop} {d:DefRec}
  (hn:l.most=some n) (hdf:d.params.defaults=[])
  (call : ∀ (w:World) (s₀ s₁ : Shared) (mg mb:Str→Option Value) (fa:Addr) (o:Obj) (pm cd doc:Value) (a:Addr) (vs:List Value) (ns:List Int),
   Ground q loose [] XP w s₀ mg mb s₁.heap→YP w s₁.heap →
   s₁.heap.get? fa=some o→o.data=.func (docDef d.name d.params d.body d.scope pm cd doc)→s₁.heap.CodeRec cd d.name→mg d.name=some (.ref fa) →
   s₁.heap.get? a=some { cls:=.type "list", data:=.seq vs.toArray }→IntsAre vs ns→ns.length≤n→s₁.gens=#[] →
   codeAny (model l.prog w) callerA (.call (.ref fa) ⟨[.ref a],[]⟩) (fun r s'=>r=.ok (.ret (.bool true))∧OldK s₁.heap s'.heap∧s'.os=s₁.os∧AllBare s'.gens) s₁) :
  WalkO q loose XP YP l.row.toRowW d [] (fun f vs=>PySem.call f vs):=by
 intro w s₀ s₁ mg mb G Y fa o pm cd doc dV kV ho hd hcd hD hmg hg args vals as hpre hlay hrd hwl hlo
 obtain rfl:dV=.none:=Dflts.none hD hdf
 obtain rfl:kV=.none:=Dflts.noKw hD
 obtain ⟨a,vs,ns,rfl,rfl,hobj,hints,hlen⟩:=script_of hn hpre hwl
 refine enter_call (codeAny_mono (call w s₀ s₁ mg mb fa o pm cd doc a vs ns G Y ho (fd_plain hd) hcd hmg hobj hints hlen hg) fun r s' hq=>?_)
 obtain ⟨rfl,h2,h3,h4⟩:=hq
 exact ⟨.inl ⟨.bool true,.bool true,[],rfl,fun _=>rfl,.bool true,post_true l _,fun _=>⟨List.Pairwise.nil,fun _ hm=>(nomatch hm)⟩⟩,h2,h3,h4⟩
section
variable {prog:Program} {w:World} {A:Around} {E:Value→Shared→Prop} {s:Shared} {K:Frag}
def ledger (h:Heap) (L d:Addr) : List (Addr × Obj):=(List.range h.objs.size).filterMap fun a=>if a=L∨a=d then none else (h.get? a).map fun o=>(a,o)
end
end Att
namespace L2
open PySem PySem.Spec PyProof.Rows
theorem vals_ints : ∀ {vs:List Value} {ns:List Int},IntsAre vs ns→Vals (ns.map V.int) vs
 | _,_,.nil=>.nil
 | _,_,.cons n t h=>.cons ⟨t,rfl⟩ (vals_ints h)
def Only (H:Hp) : Prop:=∀ b,H b=none∨∃ o xs,H b=some (.frz o (.lst xs))
theorem law_call {P:Program} {w:World} {K:PySem.W.Frag} {mg mb:Str→Option Value} {CX:CXT} {k:Nat} {fa a:Addr} {fd:FuncData} {x:Str} {sp:Sp} {s₁ : Shared} {vs:List Value} {ns:List Int}
  (KX:K.In s₁.heap) (hns:s₁.heap.Ns mainGlobals mg) (hb:s₁.heap.Ns builtinsNs mb) (hbb : ∀ x:Str,x ≠ "__name__" → mb x=bootBuiltins x) (hlim:s₁.heap.NoLimit) (hg:s₁.gens=#[])
  (ha:s₁.heap.get? a=some { cls:=.type "list", data:=.seq vs.toArray }) (hi:IntsAre vs ns) (hl:ns.length≤sizeLine) (hr:Room k callerA)
  (F : ∀ base:Heap,K.In base→base.Ns mainGlobals mg→FnOk P w K mg base CX k fa fd [x] sp) (hbind : ∀ (s:Shared) (u:Value),BindsTo s fd ⟨[u],[]⟩ [(x,u)])
  (hsp : ∀ H:Hp,Only H→SqL K H a (ns.map V.int)→sp [.ref a] H (fun v _=>v=.bl true) fun _ _ _=>False)
  (hCX : ∀ H e s',CX [] H s₁ (fun _ _ _=>False) e s'→False) :
  codeAny (model P w) callerA (.call (.ref fa) ⟨[.ref a],[]⟩) (fun r s'=>r=.ok (.ret (.bool true))∧OldK s₁.heap s'.heap∧s'.os=s₁.os∧AllBare s'.gens) s₁:=by
 have rv:=vals_ints hi
 have lenV:=hi.length
 -- from an abstract heap in which nothing but the script may be tracked
 have core : ∀ H:Hp,Only H→SqL K H a (ns.map V.int)→HOk P w H s₁.heap→(∀ b,H b≠none→b=a)→(H a≠none→K.lookup a=none) →
   codeAny (model P w) callerA (.call (.ref fa) ⟨[.ref a],[]⟩) (fun r s'=>r=.ok (.ret (.bool true))∧OldK s₁.heap s'.heap∧s'.os=s₁.os∧AllBare s'.gens) s₁:=by
  intro H hO hS hok hA hK
  have base_of : ∀ {b:Addr} {o:Obj},s₁.heap.get? b=some o→H b=none→(hidT s₁.heap H).get? b=some o:=fun e n=>hidT_get e n
  have noA : ∀ {b:Addr} {o:Obj} {es:Array DictEntry} {ep:Nat},s₁.heap.get? b=some o→o.data=.dict es ep→H b=none:=fun {b o es ep} e d=>by
   cases q:H b with
   | none=>rfl
   | some u =>
    have e':b=a:=hA b (by rw [q]; simp)
    subst e'
    rw [ha] at e; cases e
    have d':Data.seq vs.toArray _=Data.dict es ep:=d
    cases d'
  have nsK : ∀ {b:Addr} {m:Str→Option Value},s₁.heap.Ns b m→(hidT s₁.heap H).Ns b m:=fun {b m} ⟨o,es,ep,e,d,r⟩=>⟨o,es,ep,base_of e (noA e d),d,r⟩
  have hKb:K.In (hidT s₁.heap H):=fun b o e=>base_of (KX b o e) (by
   cases q:H b with
   | none=>rfl
   | some u =>
    have e':b=a:=hA b (by rw [q]; simp)
    subst e'
    rw [hK (by rw [q]; simp)] at e; cases e)
  have hM:Mod K mg (hidT s₁.heap H):=⟨hKb,nsK hns,⟨mb,nsK hb,hbb⟩,let ⟨mc,h1,h2⟩:=hlim; ⟨mc,nsK h1,h2⟩⟩
  have e0:Env0 P w K mg (hidT s₁.heap H) callerA [] s₁ H:=⟨rfl,hM,fun b o e=>of_hidT e,Nat.le_of_eq (hidT_size _ _),trivial,fun b hb=>absurd (show b∈([] : List Addr) from hb) (by simp),hok,.of_eq hg⟩
  refine codeAny_mono ((F _ hKb (nsK hns)).run callerA [] s₁ H ⟨[.ref a],[]⟩ [.ref a] [.ref a] _ _ hr e0 (hbind s₁ (.ref a)) (.cons rfl .nil) (hsp H hO hS)) fun r s' h=>?_
  cases r with
  | error e=>exact (hCX H e s' h).elim
  | ok fl =>
   cases fl with
   | next=>exact False.elim h
   | brk=>exact False.elim h
   | cont=>exact False.elim h
   | ret u =>
    obtain ⟨v,H',os,bare,un,hok',r',q⟩:=h
    have q':v=.bl true:=q
    subst q'
    obtain rfl:u=Value.bool true:=r'
    refine ⟨rfl,OldK.of_keep fun b o e=>?_,os,bare⟩
    cases q:H b with
    | none=>exact un.keep b o e q (by intro z; exact absurd (show b∈([] : List Addr) from z) (by simp)) (by simp)
    | some u =>
     rcases hO b with z | ⟨ob,xs,z⟩
     ·rw [q] at z; cases z
     ·have z2:=un.frzs b ob _ z
      obtain ⟨e1,_⟩:=hok b _ z
      obtain ⟨e2,_⟩:=hok' b _ z2
      rw [e] at e1; cases e1
      exact e2
 cases hk:K.lookup a with
 | some o =>
  -- the script is one of the module's own objects
  have e:=KX a o hk
  rw [ha] at e
  cases e
  refine core (fun _=>none) (fun _=>.inl rfl) (.inr ⟨_,vs.toArray,_,hk,rfl,rfl,rfl,by rw [List.size_toArray,lenV]; exact hl,by simpa using rv⟩) (fun b u z=>by have z':(none:Option HO)=some u:=z; cases z') (fun b z=>absurd rfl z) fun z=>absurd rfl z
 | none =>
  refine core (fun b=>if b=a then some (.frz { cls:=.type "list", data:=.seq vs.toArray } (.lst (ns.map V.int))) else none) (fun b=>?_) (.inl (.inr ⟨{ cls:=.type "list", data:=.seq vs.toArray },if_pos rfl⟩)) (fun b u z=>?_) (fun b z=>?_) fun _=>hk
  ·by_cases hb:b=a
   ·exact .inr ⟨_,_,if_pos hb⟩
   ·exact .inl (if_neg hb)
  ·by_cases hb:b=a
   ·have z':=(if_pos hb).symm.trans z
    cases z'
    subst hb
    exact ⟨ha,by rw [List.length_map]; exact hl,vs,_,rv,ha⟩
   ·have z':=(if_neg hb).symm.trans z
    cases z'
  ·by_cases hb:b=a
   ·exact hb
   ·exact absurd (if_neg hb) z
end L2
namespace L2
open PySem PySem.Spec PyProof.Rows
theorem walk_of {l:PySem.W.OpenLaw} {n k:Nat} {q:Program} {loose:List Str} {XP:(Str→Option Value)→Heap→Prop} {YP:World→Heap→Prop} {d:DefRec} {K:Params→PySem.W.Frag} {CX:World→CXT} {sp:World→Sp} {x:Str}
  (hn:l.most=some n) (hn2:n≤sizeLine) (hdf:d.params.defaults=[]) (hr:Room k callerA)
  (hY : ∀ (w:World) (h:Heap),YP w h→(K w.params).In h)
  (F : ∀ (w:World) (mg:Str→Option Value) (fa:Addr) (h:Heap),(K w.params).In h→h.Ns mainGlobals mg→mg d.name=some (.ref fa) →
   ∃ fd:FuncData,(∀ (s:Shared) (u:Value),BindsTo s fd ⟨[u],[]⟩ [(x,u)]) ∧
    ∀ base:Heap,(K w.params).In base→base.Ns mainGlobals mg→FnOk l.prog w (K w.params) mg base (CX w) k fa fd [x] (sp w))
  (hsp : ∀ (w:World) (H:Hp) (a:Addr) (ns:List Int),ns.length≤n→Only H→SqL (K w.params) H a (ns.map V.int)→sp w [.ref a] H (fun v _=>v=.bl true) fun _ _ _=>False)
  (hCX : ∀ (w:World) (H:Hp) (s:Shared) (e:Value) (s':Shared),CX w [] H s (fun _ _ _=>False) e s'→False) :
  PySem.W.WalkO q loose XP YP l.row.toRowW d [] (fun f vs=>PySem.call f vs):=by
 refine Att.attach_call hn hdf fun w s₀ s₁ mg mb fa o pm cd doc a vs ns G Y ho hd hcd hmg hobj hints hlen hg=>?_
 have KX:=hY w _ Y
 obtain ⟨fd,hb,hF⟩:=F w mg fa _ KX G.T.g hmg
 exact law_call KX G.T.g G.T.b G.T.builtins G.T.nolimit hg hobj hints (Nat.le_trans hlen hn2) hr hF hb (fun H hO hS=>hsp w H a ns hlen hO hS) fun H e s'=>hCX w H s₁ e s'
end L2
namespace L2
open PySem PySem.Spec PyProof.Rows
def defArgs (s:Stmt) : Arguments:=match s with
 | .FunctionDef _ a _ _ _ _ _ _ _ _=>a
 | _=>{ posonlyargs:=[],args:=[],vararg:=none,kwonlyargs:=[],kw_defaults:=[],kwarg:=none,defaults:=[] }
def defBody (s:Stmt) : List Stmt:=match s with
 | .FunctionDef _ _ b _ _ _ _ _ _ _=>b
 | _=>[]
def defScope (s:Stmt) : Scope:=match s with
 | .FunctionDef _ _ _ _ _ _ sc _ _ _=>sc
 | _=>{ kind:=.function,names:=[],isGenerator:=false,isCoroutine:=false }
abbrev CX0:CXT:=fun _ _ _ _ _ _=>False
abbrev E0:XK:=fun _ _ _=>False
theorem pass0 {X:Cx} : Passes CX0 X E0:=fun _ _ _ _ _ _ _ h=>h.elim
structure Fun (K:PySem.W.Frag) (x qual:Str) (st:Stmt) (f:Addr) (fd:FuncData) : Prop where
 ex : ∃ (oc:Value) (od:Option Addr) (kV doc pm:Value) (an:Option Addr) (cdv ct:Value) (osl:Array (Option Value)),
  fd=PySem.W.fnOf x qual (defArgs st) (defBody st) (defScope st) .none kV doc pm an cdv ct∧K.lookup f=some ⟨oc,od,.func fd,osl⟩∧PySem.W.codeIn K cdv qual=true
 kp:PySem.W.keepIn K (.ref f)=true
section
variable {P:Program} {w:World} {K:PySem.W.Frag} {mg:Str→Option Value} {base:Heap}
theorem Fun.ok {x qual:Str} {st:Stmt} {f:Addr} {fd:FuncData} {N ps:List Str} {k:Nat} {sp:Sp} (F:Fun K x qual st f fd) (S:FnScope N ps (defScope st)) (len : ∀ vs H Q E,sp vs H Q E→vs.length=ps.length)
  (hbody : ∀ (cdv:Value) (A:Around) (outer:List Env) (s:Shared) (H:Hp) (vs:List V) (Q:VK) (E:XK),Room k (A.deeper (envOfC qual (defScope st) s.heap.objs.size f cdv))→sp vs H Q E →
   ∃ t,PSs (cxOf CX0 P w K mg base N qual (defScope st) f cdv A outer s H E).nox (defBody st) t∧t { nx:=fun _ H'=>Q .non H',rt:=Q } (start N vs) H) : FnOk P w K mg base CX0 (k+1) f fd ps sp:=by
 obtain ⟨oc,od,kV,doc,pm,an,cdv,ct,osl,rfl,lk,hcd⟩:=F.ex
 refine fn_of lk hcd S len fun A outer s H vs Q E hr hsp=>?_
 obtain ⟨t,h,q⟩:=hbody cdv A outer s H vs Q E hr hsp
 exact ⟨t,h.nox,q⟩
theorem Fun.binds {x qual:Str} {st:Stmt} {f:Addr} {fd:FuncData} {ps:List Str} (F:Fun K x qual st f fd)
  (h : ∀ (kV doc pm:Value) (an:Option Addr) (cdv ct:Value) (us:List Value),us.length=ps.length→bindArgs (PySem.W.fnOf x qual (defArgs st) (defBody st) (defScope st) .none kV doc pm an cdv ct) ⟨us,[]⟩=pure (ps.zip us)) : Binds K fd ps []:=by
 obtain ⟨oc,od,kV,doc,pm,an,cdv,ct,osl,rfl,lk,hcd⟩:=F.ex
 exact .all (h kV doc pm an cdv ct)
theorem fun_mk {x qual:Str} {st:Stmt} {f:Addr} {oc:Value} {od an:Option Addr} {osl:Array (Option Value)} {kV doc pm cdv ct:Value} (l:K.lookup f=some ⟨oc,od,.func (PySem.W.fnOf x qual (defArgs st) (defBody st) (defScope st) .none kV doc pm an cdv ct),osl⟩)
  (c:PySem.W.codeIn K cdv qual=true) (k:PySem.W.keepIn K (.ref f)=true) : Fun K x qual st f (PySem.W.fnOf x qual (defArgs st) (defBody st) (defScope st) .none kV doc pm an cdv ct):=⟨⟨oc,od,kV,doc,pm,an,cdv,ct,osl,rfl,l,c⟩,k⟩
end
theorem hu_of {A:Around} {k:Nat} (hr:Room k A) : A.units+1<cLine:=Nat.lt_of_le_of_lt (Nat.add_le_add_left (by decide : 1≤64) _) hr.units
section
variable {X:Cx}
theorem pv (i:Nat) {x:Str} {pos:Pos} (hN:X.N[i]?=some x:=by rfl) (hv:Vis X.env.scope x:=by first | exact Or.inl rfl | exact Or.inr (Or.inl rfl) | exact Or.inr (Or.inr rfl)) (hd:(x == ("__debug__" : Str))=false:=by decide)
  (hcd:(x == ("__classdict__" : Str))=false:=by decide) : PE X (.Name x pos) (tVar i):=pe_var hN hv hd hcd
end
theorem iteF {A B:Prop} (h:B) : if false=true then A else B:=by
 rw [if_neg Bool.false_ne_true]
 exact h
theorem iteT {A B:Prop} (h:A) : if true=true then A else B:=by
 rw [if_pos rfl]
 exact h
theorem ite2 {c A B:Prop} [Decidable c] (h1:c→A) (h2 : ¬ c→B) : if c then A else B:=by
 by_cases h:c
 ·rw [if_pos h]
  exact h1 h
 ·rw [if_neg h]
  exact h2 h
def Same (H H':Hp) : Prop:=∀ b o,H b=some o→H' b=some o
theorem Same.refl (H:Hp) : Same H H:=fun _ _ h=>h
theorem Same.trans {H H1 H2:Hp} (a:Same H H1) (b:Same H1 H2) : Same H H2:=fun c o h=>b c o (a c o h)
theorem Same.free {H H':Hp} (e:Same H H') {l:Addr} (h:H' l=Option.none) : H l=Option.none:=by
 cases q:H l with
 | none=>rfl
 | some o =>
  rw [e l o q] at h
  cases h
end L2
namespace L2
open PySem PySem.Spec PyProof.Rows
def closL (cells:List (Str × Addr)) : List (Str × NameKind)→List (Str × Addr)→List (Str × Addr)
 | [],acc=>acc
 | (n,k) :: r,acc=>if (k == NameKind.free)=true then (match cells.lookup n with | some c=>closL cells r ((n,c) :: acc) | none=>closL cells r acc) else closL cells r acc
theorem closL_run {env:Env} : ∀ (ns:List (Str × NameKind)) (acc:List (Str × Addr)),(∀ y∈ns,y.2=.free→∃ c,env.cells.lookup y.1=some c) →
  (forIn ns acc (fun x cs=>(match x with | (name,kind)=>if (kind == NameKind.free)=true then (do let c ← cellOf env name; pure (ForInStep.yield ((name,c) :: cs))) else pure (ForInStep.yield cs))) : Sem (List (Str × Addr)))=pure (closL env.cells ns acc)
 | [],acc,_=>rfl
 | (n,k) :: r,acc,h=>by
  rw [List.forIn_cons]
  by_cases hk:(k == NameKind.free)=true
  ·obtain ⟨c,hc⟩:=h (n,k) List.mem_cons_self (by simpa using hk)
   have hc:env.cells.lookup n=some c:=hc
   have e:=closL_run (env:=env) r ((n,c) :: acc) fun y hy=>h y (List.mem_cons_of_mem _ hy)
   simp only [closL,hk,if_true,cellOf,hc,pure_bind]
   exact e
  ·have e:=closL_run (env:=env) r acc fun y hy=>h y (List.mem_cons_of_mem _ hy)
   have hk:(k == NameKind.free)=false:=by simpa using hk
   simp only [closL,hk,Bool.false_eq_true,if_false,pure_bind]
   exact e
theorem closureFor_eq {scope:Scope} {env:Env} (h : ∀ y∈scope.names,y.2=.free→∃ c,env.cells.lookup y.1=some c) : closureFor scope env=pure (closL env.cells scope.names []):=by
 have e:=closL_run (env:=env) scope.names [] h
 unfold closureFor
 simp only [bind_pure]
 first
  | exact e
  | (refine Eq.trans ?_ e; congr 1)
  | (simp only [bind_pure_comp] at e ⊢; exact e)
theorem closL_sub {cells:List (Str × Addr)} : ∀ {ns:List (Str × NameKind)} {acc:List (Str × Addr)} {x:Str} {c:Addr},(closL cells ns acc).lookup x=some c→acc.lookup x=some c∨cells.lookup x=some c
 | [],acc,x,c,h=>.inl h
 | (n,k) :: r,acc,x,c,h=>by
  unfold closL at h
  split at h
  ·split at h
   ·rename_i q hq
    rcases closL_sub h with z | z
    ·rw [List.lookup_cons] at z
     cases hx:x == n with
     | true =>
      rw [hx] at z
      cases z
      have:x=n:=by simpa using hx
      subst this
      exact .inr hq
     | false =>
      rw [hx] at z
      exact .inl z
    ·exact .inr z
   ·exact closL_sub h
  ·exact closL_sub h
theorem closL_has {cells:List (Str × Addr)} : ∀ {ns:List (Str × NameKind)} {acc:List (Str × Addr)} {x:Str} {c:Addr},cells.lookup x=some c→((x,NameKind.free)∈ns∨acc.lookup x=some c)→(closL cells ns acc).lookup x=some c
 | [],acc,x,c,hc,h=>h.elim (fun z=>nomatch z) fun z=>z
 | (n,k) :: r,acc,x,c,hc,h=>by
  unfold closL
  split
  ·rename_i hk
   split
   ·rename_i q hq
    refine closL_has hc ?_
    rcases h with h | h
    ·rcases List.mem_cons.mp h with e | h
     ·cases e
      rw [hc] at hq
      cases hq
      exact .inr (by simp)
     ·exact .inl h
    ·by_cases e:x=n
     ·subst e
      rw [hc] at hq
      cases hq
      exact .inr (by simp)
     ·exact .inr (by rw [List.lookup_cons,(by simpa using e:(x == n)=false)]; exact h)
   ·rename_i hq
    refine closL_has hc ?_
    rcases h with h | h
    ·rcases List.mem_cons.mp h with e | h
     ·cases e
      rw [hc] at hq
      cases hq
     ·exact .inl h
    ·exact .inr h
  ·rename_i hk
   refine closL_has hc ?_
   rcases h with h | h
   ·rcases List.mem_cons.mp h with e | h
    ·cases e
     exact absurd rfl hk
    ·exact .inl h
   ·exact .inr h
theorem lookup_relabel_free {env:Env} : ∀ {names:List (Str × NameKind)} {x:Str},names.lookup x=some .free →
  (names.map fun (n,k)=>if (k == NameKind.free && env.scope.kind == .function && env.kindOf n == some .cell) then (n,NameKind.cell) else (n,k)).lookup x=some .cell ∨
  (names.map fun (n,k)=>if (k == NameKind.free && env.scope.kind == .function && env.kindOf n == some .cell) then (n,NameKind.cell) else (n,k)).lookup x=some .free
 | [],_,h=>by simp at h
 | (n,k) :: r,x,h=>by
  have ih:=@lookup_relabel_free env r x
  show List.lookup x ((if (k == NameKind.free && env.scope.kind == .function && env.kindOf n == some .cell)=true then (n,NameKind.cell) else (n,k)) :: _)=_∨List.lookup x ((if (k == NameKind.free && env.scope.kind == .function && env.kindOf n == some .cell)=true then (n,NameKind.cell) else (n,k)) :: _)=_
  cases hx:x == n with
  | true =>
   simp only [List.lookup_cons,hx] at h
   cases h
   by_cases hc:(NameKind.free == NameKind.free && env.scope.kind == .function && env.kindOf n == some .cell)=true
   ·rw [if_pos hc]; simp [List.lookup_cons,hx]
   ·rw [if_neg hc]; simp [List.lookup_cons,hx]
  | false =>
   simp only [List.lookup_cons,hx] at h
   by_cases hc:(k == NameKind.free && env.scope.kind == .function && env.kindOf n == some .cell)=true
   ·rw [if_pos hc]; simp only [List.lookup_cons,hx]; exact ih h
   ·rw [if_neg hc]; simp only [List.lookup_cons,hx]; exact ih h
theorem of_relabel {env:Env} : ∀ {names:List (Str × NameKind)} {x:Str} {q:NameKind},(names.map fun (n,k)=>if (k == NameKind.free && env.scope.kind == .function && env.kindOf n == some .cell) then (n,NameKind.cell) else (n,k)).lookup x=some q →
  (∀ y∈names,y.2≠.cell)→q=.cell∨q=.free→(x,NameKind.free)∈names
 | [],_,_,h,_,_=>by simp at h
 | (n,k) :: r,x,q,h,hn,hq=>by
  have ih:=@of_relabel env r x q
  have h:List.lookup x ((if (k == NameKind.free && env.scope.kind == .function && env.kindOf n == some .cell)=true then (n,NameKind.cell) else (n,k)) :: r.map fun (n,k)=>if (k == NameKind.free && env.scope.kind == .function && env.kindOf n == some .cell) then (n,NameKind.cell) else (n,k))=some q:=h
  have nk:k≠.cell:=hn (n,k) List.mem_cons_self
  have hn' : ∀ y∈r,y.2≠.cell:=fun y hy=>hn y (List.mem_cons_of_mem _ hy)
  cases hx:x == n with
  | true =>
   have e:x=n:=by simpa using hx
   subst e
   by_cases hc:(k == NameKind.free && env.scope.kind == .function && env.kindOf x == some .cell)=true
   ·have:k=.free:=by
     simp only [Bool.and_eq_true] at hc
     simpa using hc.1.1
    subst this
    exact List.mem_cons_self
   ·rw [if_neg hc] at h
    simp only [List.lookup_cons,hx] at h
    cases h
    rcases hq with z | z
    ·exact absurd z nk
    ·rw [z]; exact List.mem_cons_self
  | false =>
   by_cases hc:(k == NameKind.free && env.scope.kind == .function && env.kindOf n == some .cell)=true
   ·rw [if_pos hc] at h; simp only [List.lookup_cons,hx] at h; exact List.mem_cons_of_mem _ (ih h hn' hq)
   ·rw [if_neg hc] at h; simp only [List.lookup_cons,hx] at h; exact List.mem_cons_of_mem _ (ih h hn' hq)
end L2
namespace L2
open PySem PySem.Spec PyProof.Rows
def startC (ix:List (Option Nat)) (σ : St) : St:=ix.map fun o=>o.bind fun i=>(σ[i]?).join
def cxC (X:Cx) (N:List Str) (scope:Scope) (C:Addr) (fp:List Addr) (s:Shared) (H:Hp) : Cx :=
 { X with N:=N,s₀:=s,H₀:=H,env:=compEnvC scope (closL X.env.cells scope.names []) C X.env,outer:=X.stack,stack:=X.stack,ex:=fp,fn:=fun _=>false,xe:=fun _ _=>False }
structure CompOk (X:Cx) (scope:Scope) (N:List Str) (ix:List (Option Nat)) : Prop where
 kind:scope.kind=.function
 nocell : ∀ y∈scope.names,y.2≠.cell
 len:ix.length=N.length
 names : ∀ y∈scope.names,y.2=.local→scope.names.lookup y.1=some .local
 fr : ∀ y∈scope.names,y.2=.free→X.env.kindOf y.1=some .cell∨X.env.kindOf y.1=some .free
 cap : ∀ (j i:Nat),ix[j]?=some (some i)→∃ x:Str,N[j]?=some x∧X.N[i]?=some x∧scope.names.lookup x=some .free∧(x,NameKind.free)∈scope.names
theorem mem_of_lookup {names:List (Str × NameKind)} {x:Str} {k:NameKind} (h:names.lookup x=some k) : (x,k)∈names:=by
 induction names with
 | nil=>simp at h
 | cons p r ih =>
  obtain ⟨n,q⟩:=p
  rw [List.lookup_cons] at h
  cases hx:x == n with
  | true =>
   rw [hx] at h; cases h; have:x=n:=by simpa using hx
   subst this; exact List.mem_cons_self
  | false=>rw [hx] at h; exact List.mem_cons_of_mem _ (ih h)
section
variable {X:Cx} {pins:List (Addr × Obj)} {σ : St} {H:Hp} {s:Shared} {scope:Scope} {N:List Str} {ix:List (Option Nat)} {fp:List Addr}
theorem CompOk.ok (c:CompOk X scope N ix) (I:Inv X pins σ H s) (hf : ∀ b∈fp,FpOk X pins H b) (hlt : ∀ b∈fp,b<s.heap.objs.size) {C:Nat} (hC:s.heap.objs.size≤C) : (cxC X N scope C fp s H).Ok where
 mod:=I.ok.mod
 kind:=c.kind
 glob:=I.ok.glob
 blt:=I.ok.blt
 above:=hC
 inj:=fun x y d h1 h2=>by
  have h1:(closL X.env.cells scope.names []).lookup x=some d:=h1
  have h2:(closL X.env.cells scope.names []).lookup y=some d:=h2
  rcases closL_sub h1 with z | z
  ·simp at z
  ·rcases closL_sub h2 with z' | z'
   ·simp at z'
   ·exact I.ok.inj x y d z z'
 has:=fun x h=>by
  have hm:(x,NameKind.free)∈scope.names:=by
   rcases h with h | h
   ·exact of_relabel h c.nocell (.inl rfl)
   ·exact of_relabel h c.nocell (.inr rfl)
  obtain ⟨d,hd⟩:=I.ok.has x (c.fr _ hm rfl)
  exact ⟨d,closL_has hd (.inl hm)⟩
 cab:=fun x d h=>by cases h
 hd:=I.ok.hd
 frames:=I.ok.frames
 stk:=.inl rfl
 exf:=fun b hb=>by
  refine ⟨fun z=>?_,fun x d e z=>?_⟩
  ·have z:b=C:=z
   have:=hlt b hb
   rw [z] at this
   exact absurd (Nat.lt_of_lt_of_le this hC) (Nat.lt_irrefl _)
  ·rcases closL_sub e with q | q
   ·simp at q
   ·exact (hf b hb).2.2.2.2.1 x d q z
 bs:=fun b o e=>I.bs b o e
 bsz:=Nat.le_trans I.ok.bsz I.sz
 noex:=fun b o e hb=>by
  rcases (hf b hb).2.2.2.1 with z | z
  ·exact I.ok.noex b o e z
  ·exact absurd (Nat.lt_of_lt_of_le (Heap.lt_size (I.ok.bs b o e).1) z) (Nat.lt_irrefl _)
 exfs:=fun b hb z=>by
  rcases List.mem_cons.mp (I.stkSub b z) with e | e
  ·exact (hf b hb).2.1 e
  ·exact (hf b hb).2.2.1 e
 funs:=I.stack
 frf:=I.stkFree
theorem CompOk.enter (c:CompOk X scope N ix) (I:Inv X pins σ H s) (hf : ∀ b∈fp,FpOk X pins H b) (ho : ∀ b∈fp,∃ o,s.heap.get? b=some o∧∀ v,o.data≠.cell v) {C D:Nat} {h':Heap} {t':Nat} {m:Str→Option Value} {oD:Obj} (hC:C=s.heap.objs.size+1) (hD:D=s.heap.objs.size)
  (k : ∀ b o,s.heap.get? b=some o→h'.get? b=some o) (hn:h'.Ns C m) (hoD:h'.get? D=some oD) (hdD : ∀ v,oD.data≠.cell v) :
  Inv (cxC X N scope C fp s H) (pins++[(D,oD)]) (startC ix σ) H { s with heap:=h',toks:=t' }:=by
 have hlt : ∀ b∈fp,b<s.heap.objs.size:=fun b hb=>let ⟨o,e,_⟩:=ho b hb; Heap.lt_size e
 have sub : ∀ x d,(closL X.env.cells scope.names []).lookup x=some d→X.env.cells.lookup x=some d:=fun x d e=>by
  rcases closL_sub e with z | z
  ·simp at z
  ·exact z
 refine ⟨c.ok I hf hlt (by omega),rfl,I.bare,Un.kept k,⟨m,hn,fun j x v e1 e2 e3=>?_⟩,fun x d e=>?_,I.hok.fresh (by show s.heap.objs.size≤C; omega),fun x d e=>I.freeC x d (sub x d e),fun p hp=>?_,I.hok.kept k,?_⟩
 ·have e2:(ix.map fun o=>o.bind fun i=>(σ[i]?).join)[j]?=some (some v):=e2
  rw [List.getElem?_map] at e2
  cases hj:ix[j]? with
  | none=>rw [hj] at e2; cases e2
  | some o =>
   rw [hj] at e2
   cases o with
   | none=>cases e2
   | some i =>
    have e2:some ((σ[i]?).join)=some (some v):=e2
    obtain ⟨x',a1,a2,a3,a4⟩:=c.cap j i hj
    have e1:N[j]?=some x:=e1
    rw [e1] at a1
    cases a1
    have hs : σ[i]?=some (some v):=by
     have z:=Option.some.inj e2
     cases q : σ[i]? with
     | none=>rw [q] at z; cases z
     | some w=>rw [q] at z; have z:w=some v:=z; rw [z]
    have kx:=c.fr _ a4 rfl
    obtain ⟨m0,hn0,hl0⟩:=I.loc
    obtain ⟨u,r,l⟩:=hl0 i x v a2 hs (kx.elim (fun z=>.inr (.inl z)) fun z=>.inr (.inr z))
    refine ⟨u,r,.inr ⟨?_,?_⟩⟩
    ·exact lookup_relabel_free (env:=X.env) a3
    ·rcases l with ⟨z,_⟩ | ⟨_,d,hd,hcell⟩
     ·rcases kx with q | q <;> rw [q] at z <;> cases z
     ·refine ⟨d,closL_has hd (.inl a4),?_⟩
      obtain ⟨o,ho,hdt⟩:=hcell
      exact ⟨o,k d o ho,hdt⟩
 ·obtain ⟨v,o,ho,hdt⟩:=I.cell x d (sub x d e)
  exact ⟨v,o,k d o ho,hdt⟩
 ·have nstk : ∀ b,b≠X.env.locals→b∉X.fs→b∉frs X.stack:=fun b h1 h2 z=>by
   rcases List.mem_cons.mp (I.stkSub b z) with e | e
   ·exact h1 e
   ·exact h2 e
  have old : ∀ p∈X.pn++pins,h'.get? p.1=some p.2∧H p.1=none∧p.1≠C∧p.1∉frs X.stack∧∀ v,p.2.data≠.cell v:=fun p hp=>by
   obtain ⟨a1,a2,a3,a4,a5⟩:=I.pin p hp
   have : @LT.lt Nat _ p.1 s.heap.objs.size:=Heap.lt_size a1
   exact ⟨k _ _ a1,a2,Nat.ne_of_lt (by rw [hC]; exact Nat.lt_succ_of_lt this),nstk _ a3 a4,a5⟩
  have hp:p∈X.pn++(pins++[(D,oD)]):=hp
  rcases List.mem_append.mp hp with z | z
  ·exact old p (List.mem_append_left _ z)
  ·rcases List.mem_append.mp z with z | z
   ·exact old p (List.mem_append_right _ z)
   ·have e:p=(D,oD):=by simpa using z
    subst e
    have lt : @LT.lt Nat _ X.env.locals s.heap.objs.size:=I.lt
    refine ⟨hoD,I.hok.fresh (by show s.heap.objs.size≤D; omega),(by show (D:Nat)≠C; omega),nstk D (Nat.ne_of_gt (by rw [hD]; exact lt)) (I.nofs (by omega)),hdD⟩
 ·show (ix.map _).length=N.length
  rw [List.length_map,c.len]
theorem CompOk.leave (c:CompOk X scope N ix) (I:Inv X pins σ H s) (hf : ∀ b∈fp,FpOk X pins H b) {C D:Nat} {σ':St} {H':Hp} {s':Shared} {ys:List V} {its:List Value} {n:Nat} {pl:List (Addr × Obj)} (hC:C=s.heap.objs.size+1) (hD:D=s.heap.objs.size)
  (I':Inv (cxC X N scope C fp s H) (pl++[(D,{ cls:=.type "list", data:=.seq its.toArray n })]) σ' H' s') (rv:Vals ys its) (hz:ys.length≤sizeLine) :
  Inv X pins σ (upd H' D (.lst ys)) s':=by
 have pD:=I'.pin (D,_) (List.mem_append_right _ (List.mem_append_right _ List.mem_cons_self))
 have hDn:H' D=none:=pD.2.1
 have u:Un (frs X.stack) fp H H' s.heap s'.heap:=I'.base
 have hlt : ∀ b o,s.heap.get? b=some o→b≠D:=fun b o e=>Nat.ne_of_lt (by have : @LT.lt Nat _ b s.heap.objs.size:=Heap.lt_size e; rw [hD]; exact this)
 refine I.call' (ch:=fp) I'.os ?_ ?_ I'.bare fun b hb=>?_
 ·refine ⟨u.keep,u.slot,fun b o e n hx=>by rw [upd_ne (hlt b o e)]; exact u.free b o e n hx,u.there,fun b xs e=>?_,fun b o w e=>?_,fun b ps e=>?_⟩
  ·have e':=u.tups b xs e
   rw [upd_ne (ne_of_none e' hDn)]; exact e'
  ·have e':=u.frzs b o w e
   rw [upd_ne (ne_of_none e' hDn)]; exact e'
  ·obtain ⟨more,e'⟩:=u.tbls b ps e
   exact ⟨more,by rw [upd_ne (ne_of_none e' hDn)]; exact e'⟩
 ·intro b o e
  by_cases hb:b=D
  ·subst hb
   rw [upd_same] at e
   cases e
   exact ⟨hz,its,n,rv,pD.1⟩
  ·rw [upd_ne hb] at e
   refine (I'.hok b o e).stay (fun _ _ _ q=>q) (fun a q=>?_) fun a xs q=>?_
   ·rw [upd_ne (ne_of_none q hDn)]; exact q
   ·rw [upd_ne (ne_of_none q hDn)]; exact q
 ·obtain ⟨f0,f1,f2,f3,f4,f5⟩:=hf b hb
  exact ⟨f3,f1,f4,f5⟩
end
end L2
namespace L2
open PySem PySem.Spec PyProof.Rows
section
variable {prog:Program} {w:World} {A:Around} {R:Result→Shared→Prop} {s:Shared}
theorem compLoop_any {elt target iter:Expr} {ifs:List Expr} {scope:Scope} {pos:Pos} {it acc:Value} {env:Env} (I:Nat→Shared→Prop)
  (turn : ∀ n s,I n s→wpAny (model prog w) A (pyNext it) (fun r s₁=>match r with
   | none=>R (.ok .next) s₁
   | some v=>wpAny (model prog w) A (letOwnedTupleGo target it v) (fun _ s₁=>wpAny (model prog w) A (assign target env v) (fun _ s₂ =>
     wpAny (model prog w) A (forIn ifs true fun c r=>if r=true then do let ok ← isTrue c env (eval c env); pure (ForInStep.yield ok) else pure (ForInStep.yield r)) (fun ok s₃ =>
      if ok=true then wpAny (model prog w) A (eval elt env) (fun x s₄ =>
       wpAny (model prog w) A (call (.builtin "list.append") [acc,x]) (fun _ s₅=>∃ m,m<n∧I m s₅) (fun _ _=>False) s₄) (fun _ _=>False) s₃
      else ∃ m,m<n∧I m s₃) (fun _ _=>False) s₂) (fun _ _=>False) s₁) (fun _ _=>False) s₁) (fun _ _=>False) s)
  (n:Nat) (h:I n s) :
  codeAny (model prog w) A (.compLoop (.ListComp elt [⟨target,iter,ifs,0⟩] scope pos) 0 it acc env) R s:=by
 refine codeAny_loop rfl I (fun n s hI=>?_) n h
 show wpAny _ A ((compTurn (.ListComp elt [⟨target,iter,ifs,0⟩] scope pos) 0 it acc env).onRaise (fun x=>do noteFrame x env; theTreesLotGoes x)) _ _ s
 refine wpAny_noted ?_
 rw [compTurn_list]
 refine wpAny_bind (wpAny_standAt (wpAny_bind (wpAny_mono (turn n s hI) (fun r s₁ h₁=>?_) fun _ _ h'=>h'.elim)))
 cases r with
 | none=>exact wpAny_pure h₁
 | some v =>
  refine wpAny_bind (wpAny_mono h₁ (fun _ s₁ h₁=>?_) fun _ _ h'=>h'.elim)
  refine wpAny_bind (wpAny_mono h₁ (fun _ s₂ h₂=>wpAny_bind (wpAny_mono h₂ (fun ok s₃ h₃=>?_) fun _ _ h'=>h'.elim)) fun _ _ h'=>h'.elim)
  cases ok with
  | false=>exact wpAny_pure ⟨rfl,h₃⟩
  | true =>
   refine wpAny_bind (wpAny_bind (wpAny_mono h₃ (fun x s₄ h₄=>wpAny_bind (wpAny_mono h₄ (fun _ s₅ h₅=>?_) fun _ _ h'=>h'.elim)) fun _ _ h'=>h'.elim))
   exact wpAny_pure (wpAny_pure ⟨rfl,h₅⟩)
end
def PIf (X:Cx) (cs:List Expr) (t:TT) : Prop :=
 ∀ (pins:List (Addr × Obj)) (s:Shared) (σ : St) (H:Hp) (Q:Bool→Hp→Prop),Inv X pins σ H s→t σ H Q →
  wpAny (model X.prog X.w) X.A (forIn cs true fun c r=>if r=true then do let ok ← isTrue c X.env (eval c X.env); pure (ForInStep.yield ok) else pure (ForInStep.yield r)) (TP X pins σ Q) X.xe s
def tTrue:TT:=fun _ H Q=>Q true H
theorem pif_nil {X:Cx} : PIf X [] tTrue:=fun _ _ _ H _ I h=>wpAny_tests_nil ⟨H,I,h⟩
theorem pif_one {X:Cx} {c:Expr} {t:TT} (h:PT X c t) : PIf X [c] t:=fun pins s σ H Q I q=>wpAny_tests_one (h pins s σ H Q I q)
abbrev WC:=Nat→Nat→List V→St→Hp→Prop
def rComp (ix:List (Option Nat)) (g:TG) (tc:TT) (te:TE) (σ : St) (Q:VK) (J:It) (H1:Hp) : Prop :=
 ∃ W:WC,(∃ m,W 0 m [] (startC ix σ) H1)∧∀ i m ys σ' H',W i m ys σ' H' →
  (J.stop i H'∧ys.length≤sizeLine∧∀ p,H' p=none→Q (.ref p) (upd H' p (.lst ys))) ∨
  (J.go i H'∧ys.length<sizeLine∧∀ x H2,J.yld i H' x H2→g x σ' H2 fun σ2 H3=>tc σ2 H3 fun b H4 =>
   if b=true then te σ2 H4 fun v H5=>∃ m',m'<m∧W (i+1) m' (ys++[v]) σ2 H5 else ∃ m',m'<m∧W (i+1) m' ys σ2 H4)
def tComp (ix:List (Option Nat)) (wi:TI) (g:TG) (tc:TT) (te:TE) : TE:=fun σ H Q=>wi σ H (rComp ix g tc te σ Q)
section
variable {X:Cx} {scope:Scope} {N:List Str} {ix:List (Option Nat)} {elt tg iter:Expr} {ifs:List Expr} {g:TG} {tc:TT} {te:TE} {pos:Pos}
theorem comp_block {pins:List (Addr × Obj)} {σ : St} {s2:Shared} {Q:VK} {itv:Value} {RR:Value→Addr→Result→Shared→Prop} {E:Value→Shared→Prop} (c:CompOk X scope N ix) (hc:X.calm=true)
  (hg : ∀ C fp s H,PG (cxC X N scope C fp s H) tg g) (ht : ∀ C fp s H,PIf (cxC X N scope C fp s H) ifs tc) (he : ∀ C fp s H,PE (cxC X N scope C fp s H) elt te)
  (h2:PIE X pins σ tg (rComp ix g tc te σ Q) itv s2)
  (hR : ∀ (D C:Addr) (s':Shared) (H':Hp) (m:Str→Option Value),Inv X pins σ H' s'→s'.heap.Ns C m→H' C=none→X.s₀.heap.objs.size≤C→(∀ p∈X.pn++pins,p.1≠C)→C≠X.env.locals→(∀ x c,X.env.cells.lookup x=some c→c≠C)→Q (.ref D) H'→RR (.ref D) C (.ok .next) s') :
  wpAny (model X.prog X.w) X.A (newList []) (fun acc s₃=>wpAny (model X.prog X.w) X.A (newFunctionEnv scope X.env.globals (closL X.env.cells scope.names []) [] X.env.qual none .none (some X.env)) (fun cenv s₄ =>
   codeAny (model X.prog X.w) X.A (.compStart (.ListComp elt [⟨tg,iter,ifs,0⟩] scope pos) 0 itv acc { cenv with scope:=relabel scope X.env }) (RR acc cenv.locals) s₄) E s₃) E s2:=by
 obtain ⟨it,fp,tn,J,H2,rfl,I2,T,st2,f2,W,⟨m0,w0⟩,turn⟩:=h2
 refine wpAny_newObj_type (wpAny_newFunctionEnv c.nocell (by intro y hy; simp at hy) (fun h₁ hns₁ hsb₁=>?_) c.kind)
 dsimp only at hns₁ hsb₁ ⊢
 generalize hH2:s2.heap.push { cls:=.type "list", dict:=none,data:=.seq ([] : List Value).toArray }=G2 at hns₁ hsb₁ ⊢
 have hCs:G2.objs.size=s2.heap.objs.size+1:=by rw [← hH2,Heap.size_push]
 generalize hCe:G2.objs.size=C at hns₁ hsb₁ hCs ⊢
 generalize hDe:s2.heap.objs.size=D at hCs ⊢
 have ltC : ∀ b,@LT.lt Nat _ b D→b≠C:=fun b hb=>Nat.ne_of_lt (by rw [hCs]; exact Nat.lt_succ_of_lt hb)
 have ltS : ∀ b o,s2.heap.get? b=some o→@LT.lt Nat _ b D:=fun b o e=>by rw [← hDe]; exact Heap.lt_size e
 have hDC:D≠C:=Nat.ne_of_lt (by rw [hCs]; exact Nat.lt_succ_self _)
 have old : ∀ b o,s2.heap.get? b=some o→h₁.get? b=some o:=fun b o e=>hsb₁.extBut b o (ltC b (ltS b o e)) (Heap.get?_push_of_some _ (hH2 ▸ Heap.get?_push_of_some _ e))
 have hoD:h₁.get? D=some { cls:=.type "list", dict:=none,data:=.seq ([] : List Value).toArray }:=by
  refine hsb₁.extBut _ _ hDC (Heap.get?_push_of_some _ ?_)
  rw [← hH2,← hDe]
  exact Heap.get?_push_size _ rfl
 have I4:Inv (cxC X N scope C fp s2 H2) (pins++[(D,{ cls:=.type "list", data:=.seq ([] : List Value).toArray })]) (startC ix σ) H2 { s2 with heap:=h₁,toks:=s2.toks+([] : List (Str × Value)).length } :=
  c.enter I2 f2 (T.obj _ _ st2) (by rw [hCs,hDe]) hDe.symm old hns₁ hoD fun v z=>by cases z
 have st4:tn 0 h₁:=T.keep _ _ _ st2 fun b _ o e=>old b o e
 have pinD : ∀ p∈X.pn++pins,p.1≠D:=fun p hp=>Nat.ne_of_lt (ltS _ _ (I2.pin p hp).1)
 have pinC : ∀ p∈X.pn++pins,p.1≠C:=fun p hp=>ltC _ (ltS _ _ (I2.pin p hp).1)
 have celD : ∀ x d,X.env.cells.lookup x=some d→@LT.lt Nat _ d D:=fun x d e=>by
  obtain ⟨v,o,ho,_⟩:=I2.cell x d e
  exact ltS d o ho
 have fpD : ∀ b∈fp,@LT.lt Nat _ b D:=fun b hb=>by
  obtain ⟨o,e,_⟩:=T.obj _ _ st2 b hb
  exact ltS b o e
 have sub : ∀ x d,(closL X.env.cells scope.names []).lookup x=some d→X.env.cells.lookup x=some d:=fun x d e=>by
  rcases closL_sub e with z | z
  ·simp at z
  ·exact z
 have stat : ∀ {H':Hp} {oD:Obj},(∀ b∈fp,H' b=none)→∀ b∈fp,FpOk (cxC X N scope C fp s2 H2) (pins++[(D,oD)]) H' b:=fun {H' oD} hn b hb=>by
  obtain ⟨f0,f1,f2,f3,f4,f5⟩:=f2 b hb
  refine ⟨hn b hb,ltC b (fpD b hb),fun z=>?_,.inl hb,fun x d e=>f4 x d (sub x d e),fun p hp=>?_⟩
  ·rcases List.mem_cons.mp (I2.stkSub b z) with e | e
   ·exact f1 e
   ·exact f2 e
  ·have hp:p∈X.pn++(pins++[(D,oD)]):=hp
   rw [← List.append_assoc] at hp
   rcases List.mem_append.mp hp with z | z
   ·exact f5 p z
   ·have e:p=(D,oD):=by simpa using z
    subst e
    exact Nat.ne_of_gt (fpD b hb)
 have loop : ∀ s3:Shared,s3={ s2 with heap:=h₁,toks:=s2.toks+([] : List (Str × Value)).length } →
   codeAny (model X.prog X.w) X.A (.compLoop (.ListComp elt [⟨tg,iter,ifs,0⟩] scope pos) 0 (.ref it) (.ref D) (cxC X N scope C fp s2 H2).env) (RR (.ref D) C) s3:=by
  rintro s3 rfl
  refine compLoop_any (fun n s'=>∃ i σ' H' ys its k,Inv (cxC X N scope C fp s2 H2) (pins++[(D,{ cls:=.type "list", data:=.seq (List.toArray its) k })]) σ' H' s'∧tn i s'.heap∧(∀ b∈fp,H' b=none)∧Vals ys its∧W i n ys σ' H') ?_ m0
   ⟨0,_,H2,[],[],_,I4,st4,fun b hb=>(f2 b hb).1,.nil,w0⟩
  rintro n s3 ⟨i,σ3,H3,ys,its,k,I3,st3,fr3,rv,w3⟩
  rcases turn i n ys σ3 H3 w3 with ⟨stop,hz,qn⟩ | ⟨go,hz,step⟩
  ·refine thn (T.done (cxC X N scope C fp s2 H2) rfl rfl rfl hc i _ s3 σ3 H3 _ I3 (stat fr3) st3 stop) fun r s4 ⟨hr,I4⟩=>?_
   subst hr
   have hDn:H3 D=none:=(I3.pin (D,_) (List.mem_append_right _ (List.mem_append_right _ List.mem_cons_self))).2.1
   obtain ⟨m4,hn4,_⟩:=id I4.loc
   refine hR D C s4 _ m4 (c.leave I2 f2 (by rw [hCs,hDe]) hDe.symm I4 rv hz) hn4 ?_ ?_ pinC ?_ (fun x d e=>ltC d (celD x d e)) (qn D hDn)
   ·rw [upd_ne hDC.symm]; exact I4.free
   ·refine Nat.le_trans I2.sz ?_
    rw [hDe,hCs]; exact Nat.le_succ _
   ·refine Nat.ne_of_gt (Nat.lt_of_lt_of_le I2.lt ?_)
    rw [hDe,hCs]; exact Nat.le_succ _
  ·refine thn (T.item (cxC X N scope C fp s2 H2) rfl rfl rfl hc i _ s3 σ3 H3 _ I3 (stat fr3) st3 go) fun r s4 ⟨u,hr,h4⟩=>?_
   subst hr
   refine thn h4 fun _ s5 ⟨x,H5,I5,r5,y5,st5,fr5⟩=>?_
   have I5':=I5.pinned (stat fr5) (T.obj _ _ st5)
   refine thn (hg C fp s2 H2 _ s5 σ3 H5 x u _ I5' r5 (step x H5 y5)) fun _ s6 ⟨σ6,H6,I6,q6⟩=>?_
   refine thn (ht C fp s2 H2 _ s6 σ6 H6 _ I6 q6) fun ok s7 ⟨H7,I7,q7⟩=>?_
   have keep : ∀ {s':Shared} {σ':St} {H':Hp},Inv (cxC X N scope C fp s2 H2) ((pins++[(D,{ cls:=.type "list", data:=.seq its.toArray k })])++pinsAt fp s5.heap) σ' H' s'→tn (i+1) s'.heap∧∀ b∈fp,H' b=none:=fun {s' σ' H'} I'=>by
    refine ⟨T.keep _ _ _ st5 fun b hb o e=>(I'.pin (b,o) (List.mem_append_right _ (List.mem_append_right _ (mem_pinsAt hb e)))).1,fun b hb=>?_⟩
    obtain ⟨o,e,d⟩:=T.obj _ _ st5 b hb
    exact (I'.pin (b,o) (List.mem_append_right _ (List.mem_append_right _ (mem_pinsAt hb e)))).2.1
   cases ok with
   | false =>
    rw [if_neg Bool.false_ne_true]
    rw [if_neg Bool.false_ne_true] at q7
    obtain ⟨m',hm,w7⟩:=q7
    obtain ⟨k1,k2⟩:=keep I7
    exact ⟨m',hm,i+1,σ6,H7,ys,its,k,I7.unpinned,k1,k2,rv,w7⟩
   | true =>
    rw [if_pos rfl]
    rw [if_pos rfl] at q7
    refine thn (he C fp s2 H2 _ s7 σ6 H7 _ I7 q7) fun y s8 ⟨v,H8,I8,r8,m',hm,w8⟩=>?_
    obtain ⟨k1,k2⟩:=keep I8
    have pD:=I8.pin (D,_) (List.mem_append_right _ (List.mem_append_left _ (List.mem_append_right _ List.mem_cons_self)))
    have I8u:=I8.unpinned
    have I8v:Inv (cxC X N scope C fp s2 H2) pins σ6 H8 s8:=I8u.unpinned
    have len:=rv.length
    refine wpAny_list_append_plain (items:=its.toArray) (hsz:=by simp; omega) ⟨k,pD.1⟩ fun h9 hl9 hs9=>?_
    obtain ⟨k9,e9⟩:=hl9
    have I9:Inv (cxC X N scope C fp s2 H2) pins σ6 H8 { s8 with heap:=h9 }:=by
     refine I8v.turned (t':=s8.toks) (it:=D) (fun b o hb e=>hs9.extBut b o hb e) pD.2.1 hDC (.inr ?_) (fun x d e=>Nat.ne_of_lt (celD x d (sub x d e))) fun p hp=>?_
     ·show s2.heap.objs.size≤D
      rw [hDe]; exact Nat.le_refl _
     ·exact pinD p hp
    have e9':h9.get? D=some { cls:=.type "list", data:=.seq (its++[y]).toArray k9 }:=by
     rw [e9]; simp
    refine ⟨m',hm,i+1,σ6,H8,ys++[v],its++[y],k9,I9.pins_of fun p hp=>?_,T.keep _ _ _ k1 fun b hb o e=>hs9.extBut b o (Nat.ne_of_lt (fpD b hb)) e,k2,rv.append (.cons r8 .nil),w8⟩
    rcases List.mem_append.mp hp with z | z
    ·exact I9.pin p (List.mem_append_right _ z)
    ·have e:p=(D,{ cls:=.type "list", data:=.seq (its++[y]).toArray k9 }):=by simpa using z
     subst e
     exact ⟨e9',pD.2.1,pD.2.2.1,pD.2.2.2.1,fun v z=>by cases z⟩
 exact codeAny_compStart_list (loop _ rfl) (T.self _ 0 _ _ _ st4 (loop _ rfl))
variable {wi:TI}
theorem pe_comp (c:CompOk X scope N ix) (hc:X.calm=true) (hi:PI X tg iter wi) (hg : ∀ C fp s H,PG (cxC X N scope C fp s H) tg g) (ht : ∀ C fp s H,PIf (cxC X N scope C fp s H) ifs tc) (he : ∀ C fp s H,PE (cxC X N scope C fp s H) elt te)
  (hs : ∀ x,foldedSetIterable iter X.env x=pure x:=by intro _; rfl) : PE X (.ListComp elt [⟨tg,iter,ifs,0⟩] scope pos) (tComp ix wi g tc te):=by
 intro pins s σ H Q I h
 rw [eval_ListComp]
 have hcl : ∀ y∈scope.names,y.2=NameKind.free→∃ d,X.env.cells.lookup y.1=some d:=fun y hy e=>I.ok.has _ (c.fr y hy e)
 refine wpAny_comprehension_free (use:=none) rfl hs (closureFor_eq hcl) c.kind c.names (thn (hi pins s σ H _ I h) fun v s1 h1=>thn h1 fun itv s2 h2=>?_)
 refine comp_block (RR:=fun acc C=>compPost (model X.prog X.w) X.A X.xe none (EP X pins σ Q) acc C) c hc hg ht he h2 ?_
 intro D C s' H' m I' hn hC hz hp hL hcells q
 exact ⟨m,hn,fun h' hs'=>⟨.ref D,H',I'.turned (t':=s'.toks) (fun b o hb e=>hs'.extBut b o hb e) hC hL (.inr hz) hcells hp,rfl,q⟩⟩
theorem ps_comp {i:Nat} {x:Str} {px spos:Pos} (hN:X.N.Nodup) (hx0:X.N[i]?=some x) (hx:X.env.scope.names.lookup x=some .local) (c:CompOk X scope N ix) (hc:X.calm=true) (hi:PI X tg iter wi) (hg : ∀ C fp s H,PG (cxC X N scope C fp s H) tg g) (ht : ∀ C fp s H,PIf (cxC X N scope C fp s H) ifs tc) (he : ∀ C fp s H,PE (cxC X N scope C fp s H) elt te)
  (hsw:swapsWith (.ListComp elt [⟨tg,iter,ifs,0⟩] scope pos) (some (.Name x px)) spos.line X.env=pure true:=by rfl)
  (hs : ∀ x,foldedSetIterable iter X.env x=pure x:=by intro _; rfl) : PS X (.Assign [.Name x px] (.ListComp elt [⟨tg,iter,ifs,0⟩] scope pos) spos) (tAsg (tComp ix wi g tc te) (gName i)):=by
 intro pins s σ H D0 I h
 rw [exec_Assign_Name_used _ _ _ _ hsw]
 refine wpAny_bind (wpAny_standAt (wpAny_bind ?_))
 show wpAny _ _ (do let _ ← comprehension (.ListComp elt [⟨tg,iter,ifs,0⟩] scope pos) scope X.env _ (newList []) false (eval iter X.env) (some (assign (.Name x px) X.env))) _ _ s
 have hcl : ∀ y∈scope.names,y.2=NameKind.free→∃ d,X.env.cells.lookup y.1=some d:=fun y hy e=>I.ok.has _ (c.fr y hy e)
 refine wpAny_bind (wpAny_mono (wpAny_comprehension_free (use:=some (assign (.Name x px) X.env)) (Q:=fun _ s'=>SP X pins D0 .next s') rfl hs (closureFor_eq hcl) c.kind c.names
  (thn (hi pins s σ H _ I h) fun v s1 h1=>thn h1 fun itv s2 h2=>?_)) (fun _ s' hq=>wpAny_pure (wpAny_pure hq)) fun _ _ e=>e)
 refine comp_block (RR:=fun acc C=>compPost (model X.prog X.w) X.A X.xe (some (assign (.Name x px) X.env)) (fun _ s'=>SP X pins D0 .next s') acc C) c hc hg ht he h2 ?_
 intro D C s' H' m I' hn hC hz hp hL hcells q
 show wpAny _ _ (assign (.Name x px) X.env (.ref D)) _ _ _
 refine wpAny_assign_Name (store_ok2 (v:=.ref D) I' hN hx0 (.inl hx) rfl (fun s'' I'' hsb=>?_) (.inr hx))
 obtain ⟨a,sb,ha⟩:=hsb
 have haC:a≠C:=by
  rcases ha with e | e
  ·rw [e]; exact hL.symm
  ·exact hcells x a e
 refine ⟨m,hn.sameBut sb haC.symm,fun h' hs'=>⟨_,H',I''.turned (t':=s''.toks) (fun b o hb e=>hs'.extBut b o hb e) hC hL (.inr hz) hcells hp,q⟩⟩
end
end L2
namespace L2
open PySem PySem.Spec PyProof.Rows
mutual
inductive Dat (K:PySem.W.Frag) (H:Hp) (P:Addr→Prop) : V→PyData→Prop
 | non:Dat K H P .non .none
 | bl (b:Bool) : Dat K H P (.bl b) (.bool b)
 | int (i:Int) : Dat K H P (.int i) (.int i)
 | str (x:Str) : Dat K H P (.str x) (.str x)
 | lst {a:Addr} {vs:List V} {ds:List PyData} : SqL K H a vs→P a→DatAll K H P vs ds→Dat K H P (.ref a) (.list ds)
 | tup {a:Addr} {vs:List V} {ds:List PyData} : SqT K H a vs→P a→DatAll K H P vs ds→Dat K H P (.ref a) (.tuple ds)
inductive DatAll (K:PySem.W.Frag) (H:Hp) (P:Addr→Prop) : List V→List PyData→Prop
 | nil:DatAll K H P [] []
 | cons {v:V} {d:PyData} {vs:List V} {ds:List PyData} : Dat K H P v d→DatAll K H P vs ds→DatAll K H P (v :: vs) (d :: ds)
end
def Keep (P:Addr→Prop) (H H':Hp) : Prop:=∀ b o,P b→H b=some o→H' b=some o
theorem Keep.sqL {P:Addr→Prop} {H H':Hp} {K:PySem.W.Frag} {a:Addr} {xs:List V} (k:Keep P H H') (p:P a) (h:SqL K H a xs) : SqL K H' a xs:=by
 rcases h with (h | ⟨o,h⟩) | h
 ·exact .inl (.inl (k _ _ p h))
 ·exact .inl (.inr ⟨o,k _ _ p h⟩)
 ·exact .inr h
theorem Keep.sqT {P:Addr→Prop} {H H':Hp} {K:PySem.W.Frag} {a:Addr} {xs:List V} (k:Keep P H H') (p:P a) (h:SqT K H a xs) : SqT K H' a xs:=by
 rcases h with (h | ⟨o,h⟩) | h
 ·exact .inl (.inl (k _ _ p h))
 ·exact .inl (.inr ⟨o,k _ _ p h⟩)
 ·exact .inr h
mutual
theorem Dat.keep {K:PySem.W.Frag} {H H':Hp} {P:Addr→Prop} (k:Keep P H H') : ∀ {v:V} {d:PyData},Dat K H P v d→Dat K H' P v d
 | _,_,.non=>.non
 | _,_,.bl b=>.bl b
 | _,_,.int i=>.int i
 | _,_,.str x=>.str x
 | _,_,.lst h p r=>.lst (k.sqL p h) p (r.keep k)
 | _,_,.tup h p r=>.tup (k.sqT p h) p (r.keep k)
theorem DatAll.keep {K:PySem.W.Frag} {H H':Hp} {P:Addr→Prop} (k:Keep P H H') : ∀ {vs:List V} {ds:List PyData},DatAll K H P vs ds→DatAll K H' P vs ds
 | _,_,.nil=>.nil
 | _,_,.cons h r=>.cons (h.keep k) (r.keep k)
end
mutual
theorem Dat.imp {K:PySem.W.Frag} {H:Hp} {P P':Addr→Prop} (k : ∀ a,P a→P' a) : ∀ {v:V} {d:PyData},Dat K H P v d→Dat K H P' v d
 | _,_,.non=>.non
 | _,_,.bl b=>.bl b
 | _,_,.int i=>.int i
 | _,_,.str x=>.str x
 | _,_,.lst h p r=>.lst h (k _ p) (r.imp k)
 | _,_,.tup h p r=>.tup h (k _ p) (r.imp k)
theorem DatAll.imp {K:PySem.W.Frag} {H:Hp} {P P':Addr→Prop} (k : ∀ a,P a→P' a) : ∀ {vs:List V} {ds:List PyData},DatAll K H P vs ds→DatAll K H P' vs ds
 | _,_,.nil=>.nil
 | _,_,.cons h r=>.cons (h.imp k) (r.imp k)
end
section
variable {X:Cx} {pins:List (Addr × Obj)} {σ : St} {H:Hp} {s:Shared}
mutual
theorem Inv.reads {P:Addr→Prop} (I:Inv X pins σ H s) : ∀ {v:V} {d:PyData} {u:Value},Dat X.K H P v d→RelV v u→∃ as,Reads s.heap u d as
 | _,_,u,.non,r=>by cases (show u=Value.none from r); exact ⟨_,.none⟩
 | _,_,u,.bl b,r=>by cases (show u=Value.bool b from r); exact ⟨_,.bool b⟩
 | _,_,u,.int i,r=>by obtain ⟨t,rfl⟩:=(show ∃ t,u=Value.int i t from r); exact ⟨_,.int i t⟩
 | _,_,u,.str x,r=>by obtain ⟨t,rfl⟩:=(show ∃ t,u=Value.str x t from r); exact ⟨_,.str x t⟩
 | .ref a,_,u,.lst h p rs,r=>by
  cases (show u=Value.ref a from r)
  obtain ⟨its,rv,⟨o,n,e,c,_,d⟩,_⟩:=I.list h
  obtain ⟨as,q⟩:=Inv.readsAll I rs rv
  exact ⟨_,.list e c d (by simpa using q)⟩
 | .ref a,_,u,.tup h p rs,r=>by
  cases (show u=Value.ref a from r)
  obtain ⟨its,rv,⟨o,e,c,n,d⟩,_⟩:=I.tuple h
  obtain ⟨as,q⟩:=Inv.readsAll I rs rv
  exact ⟨_,.tuple e c d (by simpa using q)⟩
theorem Inv.readsAll {P:Addr→Prop} (I:Inv X pins σ H s) : ∀ {vs:List V} {ds:List PyData} {us:List Value},DatAll X.K H P vs ds→Vals vs us→∃ as,ReadsAll s.heap us ds as
 | _,_,_,.nil,r=>by cases r; exact ⟨_,.nil⟩
 | _,_,_,.cons h rs,r=>by
  cases r with
  | cons r1 r2 =>
   obtain ⟨as,q⟩:=Inv.reads I h r1
   obtain ⟨bs,q'⟩:=Inv.readsAll I rs r2
   exact ⟨_,.cons q q'⟩
end
def rEqD (K:PySem.W.Frag) : R2:=fun x y H Q=>∃ P dx dy,Dat K H P x dx∧Dat K H P y dy∧dx.canLay0=true∧dy.canLay0=true∧dx.depth≤60∧Q (.bl (PyData.eqv dx dy)) H
def rNeD (K:PySem.W.Frag) : R2:=fun x y H Q=>∃ P dx dy,Dat K H P x dx∧Dat K H P y dy∧dx.canLay0=true∧dy.canLay0=true∧dx.depth≤60∧Q (.bl (!PyData.eqv dx dy)) H
theorem op_eqD (hu:X.A.units+64<cLine) : OpR X (compareOp .Eq) (rEqD X.K):=by
 intro pins s σ H x y v u Q I rx ry h
 obtain ⟨P,dx,dy,hx,hy,lx,ly,dd,q⟩:=h
 obtain ⟨as,qa⟩:=I.reads hx rx
 obtain ⟨bs,qb⟩:=I.reads hy ry
 exact SeqAt.compareEq_reads qa qb lx ly (by omega) ⟨.bl _,H,I,rfl,q⟩
theorem op_neD (hu:X.A.units+64<cLine) : OpR X (compareOp .NotEq) (rNeD X.K):=by
 intro pins s σ H x y v u Q I rx ry h
 obtain ⟨P,dx,dy,hx,hy,lx,ly,dd,q⟩:=h
 obtain ⟨as,qa⟩:=I.reads hx rx
 obtain ⟨bs,qb⟩:=I.reads hy ry
 exact SeqAt.compareNe_reads qa qb lx ly (by omega) ⟨.bl _,H,I,rfl,q⟩
def rRange:List V→Hp→VK→Prop:=fun xs H Q=>(∃ j,xs=[.int j]∧∀ p,H p=none→Q (.ref p) (upd H p (.rng 0 j)))∨∃ i j,xs=[.int i,.int j]∧∀ p,H p=none→Q (.ref p) (upd H p (.rng i j))
theorem call_range:CallR X (.type "range") rRange:=by
 intro pins s σ H xs us Q I r h
 rcases h with ⟨j,rfl,q⟩ | ⟨i,j,rfl,q⟩
 ·obtain ⟨u,rfl,t,rfl⟩:=vals1 r
  refine call_range_1 ⟨.ref s.heap.objs.size,_,I.laid (o:=.rng 0 j) (fun b o e=>Heap.get?_push_of_some _ e) (Nat.le_refl _) ⟨_,_,_,Heap.get?_push_size _ rfl⟩,rfl,q _ (I.hok.fresh (Nat.le_refl _))⟩
 ·obtain ⟨u,u',rfl,⟨t,rfl⟩,⟨t',rfl⟩⟩:=vals2 r
  refine call_range_2 ⟨.ref s.heap.objs.size,_,I.laid (o:=.rng i j) (fun b o e=>Heap.get?_push_of_some _ e) (Nat.le_refl _) ⟨_,_,_,Heap.get?_push_size _ rfl⟩,rfl,q _ (I.hok.fresh (Nat.le_refl _))⟩
def ivl (lo hi:Int) : List Int:=(List.range (hi - lo).toNat).map fun (i:Nat)=>lo+(i:Int)
theorem ivl_length (lo hi:Int) : (ivl lo hi).length=(hi - lo).toNat:=by simp [ivl]
theorem items_ints {lo:Int} {n:Nat} {acc:Array Value} (h:ItemsOf (fun i v=>∃ t,v=.int (lo+i * 1) t) acc n) : Vals (((List.range n).map fun (i:Nat)=>lo+(i:Int)).map V.int) acc.toList:=by
 obtain ⟨h1,h2⟩:=h
 have key : ∀ (l:List Value) (k:Nat),(∀ (j:Nat) (v:Value),l[j]?=some v→∃ t,v=Value.int (lo+((k+j:Nat) : Int) * 1) t)→Vals ((List.range' k l.length).map fun (i:Nat)=>V.int (lo+(i:Int))) l:=by
  intro l
  induction l with
  | nil=>intro k _; exact .nil
  | cons v r ih =>
   intro k hk
   rw [List.length_cons,List.range'_succ,List.map_cons]
   refine .cons ?_ (ih (k+1) fun j v hj=>?_)
   ·obtain ⟨t,e⟩:=hk 0 v rfl
    refine ⟨t,?_⟩
    rw [e]; simp
   ·obtain ⟨t,e⟩:=hk (j+1) v (by simpa using hj)
    refine ⟨t,?_⟩
    rw [e]
    congr 2
    simp
    omega
 have:=key acc.toList 0 fun j v hj=>by
  have:=h2 j v (by simpa using hj)
  simpa using this
 rw [List.map_map]
 rw [List.range_eq_range']
 have e:acc.toList.length=n:=by simpa using h1
 rw [e] at this
 exact this
theorem rng_size {i j:Int} : Builtin.Range.rangeSize i j 1=(((j - i).toNat:Nat) : Int):=by
 rw [rangeSize_one]; split <;> omega
def rListRng:List V→Hp→VK→Prop:=fun xs H Q=>∃ p i j,xs=[.ref p]∧H p=some (.rng i j)∧-1000000≤i∧i≤1000000∧-1000000≤j∧j≤1000000∧∀ l,H l=none→Q (.ref l) (upd H l (.lst ((ivl i j).map V.int)))
theorem size_le {i j:Int} (h1 : -1000000≤i) (h2:i≤1000000) (h3 : -1000000≤j) (h4:j≤1000000) : (j - i).toNat≤2 ^ 24:=by
 have:(j - i).toNat≤2000000:=by omega
 exact Nat.le_trans this (by decide)
theorem call_list_rng (hc:X.calm=true) : CallR X (.type "list") rListRng:=by
 intro pins s σ H xs us Q I r h
 obtain ⟨p,i,j,rfl,hp,h1,h2,h3,h4,q⟩:=h
 obtain ⟨u,rfl,rx⟩:=vals1 r
 cases rx
 obtain ⟨t,t',t'',e⟩:=(show ObjOk X.prog X.w H s.heap p (.rng i j) from I.hok p _ hp)
 refine call_list_range (I.ok.hd hc) e (small_one (by omega) (by omega) (by omega) (by omega)) rng_size (size_le h1 h2 h3 h4) fun h' tk acc' c' k e' it=>?_
 have v:=items_ints it
 refine ⟨.ref s.heap.objs.size,_,I.laid (o:=.lst ((ivl i j).map V.int)) k (Nat.le_refl _) ⟨?_,acc'.toList,c',v,by simpa using e'⟩,rfl,q _ (I.hok.fresh (Nat.le_refl _))⟩
 rw [List.length_map,ivl_length]
 exact Nat.le_trans (size_le h1 h2 h3 h4) (by decide)
end
end L2
namespace L2
open PySem PySem.Spec PyProof.Rows
section
variable {X:Cx}
def tyOfV (K:PySem.W.Frag) (x:V) (H:Hp) (T:String) : Prop:=TyOf K H x (.type T)
def rIsi (K:PySem.W.Frag) : List V→Hp→VK→Prop:=fun xs H Q=>∃ x T C b,xs=[x,.ty C]∧tyOfV K x H T∧PySem.W.kitOne K (.type T) (.type C)=some b∧Q (.bl b) H
theorem call_isi:CallR X (.builtin "isinstance") (rIsi X.K):=by
 intro pins s σ H xs us Q I r h
 obtain ⟨x,T,C,b,rfl,ty,e,q⟩:=h
 obtain ⟨u,w',rfl,rx,ry⟩:=vals2 r
 cases (show w'=Value.type C from ry)
 exact isinst_ok I rx ty e fun tk=>⟨.bl b,H,I.tok _,rfl,q⟩
theorem kit_self (K:PySem.W.Frag) (T:String) : PySem.W.kitOne K (.type T) (.type T)=some true:=by
 unfold PySem.W.kitOne
 rw [if_pos (beq_self_eq_true _)]
def rAll (K:PySem.W.Frag) : List V→Hp→VK→Prop:=fun xs H Q=>∃ (p:Addr) (bs:List Bool),xs=[.ref p]∧SqL K H p (bs.map V.bl)∧Q (.bl (bs.all id)) H
theorem vals_bools : ∀ {bs:List Bool} {us:List Value},Vals (bs.map V.bl) us→us=bs.map Value.bool
 | [],us,r=>by cases r; rfl
 | b :: r,us,h=>by
  cases h with
  | cons h1 h2 =>
   rw [List.map_cons,← vals_bools h2]
   rw [show _=Value.bool b from h1]
theorem call_all (hc:X.calm=true) : CallR X (.builtin "all") (rAll X.K):=by
 intro pins s σ H xs us Q I r h
 obtain ⟨p,bs,rfl,hl,q⟩:=h
 obtain ⟨u,rfl,rx⟩:=vals1 r
 cases rx
 obtain ⟨its,rv,pl,hz⟩:=I.list hl
 have e:=vals_bools rv
 subst e
 refine call_all_walk (wpAny_pyIter_list pl.isList ?_)
 have lt:p<s.heap.objs.size:=by obtain ⟨o,n,e,_⟩:=pl; exact Heap.lt_size e
 refine ⟨s.heap.objs.size,_,_,_,_,_,fun i=>bs.getD i true,rfl,Walks.list (A:=X.A.in1) (show X.A.in1.handled=none from I.ok.hd hc) s.heap.objs.size p (Nat.ne_of_lt lt) (bs.map Value.bool).toArray,?_,?_,?_⟩
 ·refine ⟨⟨_,Heap.get?_push_size _ rfl,rfl,rfl⟩,pl.isList.at fun o e=>Heap.get?_push_of_some _ e⟩
 ·intro i v s' Q' E' hP hQ'
  have hP:(bs.map Value.bool).toArray[i]?=some v:=hP
  have:(bs.map Value.bool)[i]?=some v:=by simpa using hP
  rw [List.getElem?_map] at this
  cases hb:bs[i]? with
  | none=>rw [hb] at this; cases this
  | some b =>
   rw [hb] at this
   cases this
   have hg:bs.getD i true=b:=by rw [List.getD_eq_getElem?_getD,hb]; rfl
   have hQ':Q' (bs.getD i true) s':=hQ'
   rw [hg] at hQ'
   exact wpAny_truthy_bool hQ'
 ·intro h' tk hk
  have e:(List.range (bs.map Value.bool).toArray.size).all (fun i=>bs.getD i true)=bs.all id:=by
   have : ∀ (l:List Bool),(List.range l.length).all (fun i=>l.getD i true)=l.all id:=by
    intro l
    induction l with
    | nil=>rfl
    | cons b r ih =>
     rw [List.length_cons,List.range_succ_eq_map,List.all_cons,List.all_cons,List.all_map]
     rw [← ih]
     rfl
   simpa using this bs
  rw [e]
  refine ⟨.bl (bs.all id),H,?_,rfl,q⟩
  refine (I.kept (t':=s.toks) (h':=h') fun b o e=>hk b o ?_ (Heap.get?_push_of_some _ e)).tok tk
  intro z
  have z:b=s.heap.objs.size:=by simpa using z
  exact absurd (Heap.lt_size e) (by rw [z]; exact Nat.lt_irrefl _)
def tRevL (K:PySem.W.Frag) (te:TE) : TE:=fun σ H Q=>te σ H fun x H1=>∃ a xs,x=.ref a∧SqL K H1 a xs∧∀ p,H1 p=none→Q (.ref p) (upd H1 p (.lst xs.reverse))
theorem pe_revL {e:Expr} {te:TE} {j:Nat} {pu p1 p2 pos:Pos} (he:PE X e te) : PE X (.Subscript e (.Slice none none (some (.UnaryOp .USub (.Constant (.int 1) j p1) pu)) p2) pos) (tRevL X.K te):=by
 intro pins s σ H Q I h
 refine Subscript_ (thn (he pins s σ H _ I h) fun v s1 ⟨x,H1,I1,r1,a,xs,ex,hx,q⟩=>?_)
 subst ex
 cases r1
 refine wpAny_Slice (by
  rw [evalPart_none]
  refine wpAny_pure ?_
  refine wpAny_pure ?_
  rw [evalPart_some]
  refine UnaryOp_ (wpAny_Constant_int (neg_int ?_))
  obtain ⟨its,rv,pl,hz⟩:=I1.list hx
  have hlen:=rv.length
  have I2:Inv X pins σ H1 { s1 with toks:=s1.toks+1+1 }:=I1.tok _
  have I4:Inv X pins σ H1 { s1 with heap:=s1.heap.push { cls:=.type "slice", data:=.fields #[.none,.none,.int (-1) (s1.toks+1)] },toks:=s1.toks+1+1 }:=I2.kept fun b ob q=>Heap.get?_push_of_some _ q
  have hl4:=pl.isList.at (h':=s1.heap.push { cls:=.type "slice", data:=.fields #[.none,.none,.int (-1) (s1.toks+1)] }) fun o e=>Heap.get?_push_of_some _ e
  show wpAny (model X.prog X.w) X.A (subscriptTail e (.Slice none none (some (.UnaryOp .USub (.Constant (.int 1) j p1) pu)) p2) (.ref a) (.ref s1.heap.objs.size)) (EP X pins σ Q) X.xe { s1 with heap:=s1.heap.push { cls:=.type "slice", data:=.fields #[.none,.none,.int (-1) (s1.toks+1)] },toks:=s1.toks+1+1 }
  refine tail_any (ops:=[.ref a,.ref s1.heap.objs.size]) hl4.typeIs slot_list_getitem.lookup ?_ (by with_unfolding_all rfl)
  refine wpAny_getItem_list_slice hl4 (Heap.IsSliceOf.new ..) .none .none (.int (-1) _) (by decide) ?_ (by rw [List.size_toArray] <;> omega)
  rw [PySem.W.krv_pick]
  refine ⟨.ref _,_,I4.laid (t':=_) (o:=.lst xs.reverse) (fun b ob q=>Heap.get?_push_of_some _ q) (Nat.le_refl _) ?_,rfl,q _ (I4.hok.fresh (Nat.le_refl _))⟩
  have e5:its.toArray.toList=its:=by simp
  refine ⟨by rw [List.length_reverse]; exact hz,its.reverse,0,rv.reverse,?_⟩
  rw [e5]
  exact Heap.get?_push_size _ rfl)
end
end L2
namespace L2
open PySem PySem.Spec PyProof.Rows
structure FnAt (P:Program) (w:World) (K:PySem.W.Frag) (mg:Str→Option Value) (base:Heap) (x:Str) (k:Nat) (ps:List Str) (sp:Sp) : Prop where
 ex : ∃ (f:Addr) (fd:FuncData),FnOk P w K mg base CX0 k f fd ps sp∧mg x=some (.ref f)∧PySem.W.keepIn K (.ref f)=true∧Binds K fd ps []
section
variable {X:Cx} {x:Str} {k:Nat} {ps:List Str} {sp:Sp} {e:Expr} {es:List Expr} {t:TA} {p pos:Pos}
theorem pe_callF (F:FnAt X.prog X.w X.K X.mg X.base x k ps sp) (hr:Room k X.A) (hg:Gl X x) (ha:PA X (e :: es) t) (hdb:(x == ("__debug__" : Str))=false:=by decide +kernel) (he:starEach (e :: es) X.env=(false,eval e X.env) :: starEach es X.env:=by rfl) (hpl:(backTo pos (starEach es X.env)).any (·.1)=false:=by rfl) :
  PE X (.Call (.Name x p) (e :: es) [] pos) (tCall sp [] E0 t):=by
 obtain ⟨f,fd,F,hm,hk,hb⟩:=F.ex
 exact pe_call F hr hg hm hk hb .nil pass0 ha hdb he hpl
def CDivL (i j:Int) : Prop:=0<j∧j<2 ^ 200
theorem log2_lt {j:Int} (h : 0<j) (h2:j<2 ^ 200) : j.natAbs.log2<9000:=by
 have h3:j.natAbs<2 ^ 200:=by
  have e:((j.natAbs:Nat) : Int)=j:=Int.natAbs_of_nonneg (Int.le_of_lt h)
  have:((j.natAbs:Nat) : Int)<((2 ^ 200:Nat) : Int):=by rw [e]; simpa using h2
  exact Int.ofNat_lt.mp this
 have h0:j.natAbs≠0:=by omega
 have:=(Nat.log2_lt h0).mpr h3
 omega
theorem op_fdivL:OpR X (binaryOp .FloorDiv) (rI CDivL fun i j=>.int (i / j)):=opI fun i j _ _ _ _ _ hc q=>by
 refine floordiv_int (by have:=hc.1; omega) ?_ (.inl (PyProof.noPylong_of_log2 (log2_lt hc.1 hc.2)))
 rw [Int.fdiv_eq_ediv_of_nonneg _ (Int.le_of_lt hc.1)]
 exact q
end
def capB (XN N:List Str) (ix:List (Option Nat)) (names:List (Str × NameKind)) : Bool :=
 (List.range ix.length).all fun j=>match ix[j]? with
  | some (some i)=>match N[j]? with
   | some x=>XN[i]? == some x && names.lookup x == some .free
   | none=>false
  | _=>true
theorem cap_ok {XN N:List Str} {ix:List (Option Nat)} {names:List (Str × NameKind)} (h:capB XN N ix names=true) :
  ∀ (j i:Nat),ix[j]?=some (some i)→∃ x:Str,N[j]?=some x∧XN[i]?=some x∧names.lookup x=some .free∧(x,NameKind.free)∈names:=by
 intro j i e
 have hj:j<ix.length:=(List.getElem?_eq_some_iff.mp e).1
 have q:=List.all_eq_true.mp h j (List.mem_range.mpr hj)
 rw [e] at q
 dsimp only at q
 cases hn:N[j]? with
 | none=>rw [hn] at q; cases q
 | some x =>
  rw [hn] at q
  dsimp only at q
  obtain ⟨q1,q2⟩:=Bool.and_eq_true_iff.mp q
  have q1:XN[i]?=some x:=by simpa using q1
  have q2:names.lookup x=some NameKind.free:=by
   cases hl:names.lookup x with
   | none=>rw [hl] at q2; cases q2
   | some k=>rw [hl] at q2; cases k <;> first | rfl | cases q2
  exact ⟨x,rfl,q1,q2,mem_of_lookup q2⟩
def SameX (p:Addr) (H H':Hp) : Prop:=∀ b o,b≠p→H b=some o→H' b=some o
theorem SameX.trans {p:Addr} {H H1 H2:Hp} (a:SameX p H H1) (b:SameX p H1 H2) : SameX p H H2:=fun c o n h=>b c o n (a c o n h)
theorem Same.x {p:Addr} {H H':Hp} (a:Same H H') : SameX p H H':=fun c o _ h=>a c o h
theorem SameX.upd {p:Addr} {H:Hp} {o:HO} : SameX p H (upd H p o):=fun c o n h=>by rw [upd_ne n]; exact h
theorem Same.new {p:Addr} {H:Hp} {o:HO} (h:H p=none) : Same H (upd H p o):=fun c o e=>by rw [upd_ne (ne_of_none e h)]; exact e
end L2
namespace L2
open PySem PySem.Spec PyProof.Rows
def compB (XS:List (Str × NameKind)) (XN:List Str) (names:List (Str × NameKind)) (N:List Str) (ix:List (Option Nat)) : Bool :=
 names.all (fun y=>match y.2 with
  | .cell=>false
  | .local=>(match names.lookup y.1 with | some .local=>true | _=>false)
  | .free=>(match XS.lookup y.1 with | some .cell=>true | some .free=>true | _=>false)
  | _=>true) && decide (ix.length=N.length) && capB XN N ix names
theorem comp_ok {X:Cx} {scope:Scope} {N:List Str} {ix:List (Option Nat)} (hk:scope.kind=.function) (h:compB X.env.scope.names X.N scope.names N ix=true) : CompOk X scope N ix:=by
 unfold compB at h
 obtain ⟨h,h3⟩:=Bool.and_eq_true_iff.mp h
 obtain ⟨h1,h2⟩:=Bool.and_eq_true_iff.mp h
 have all : ∀ y∈scope.names,_:=fun y hy=>List.all_eq_true.mp h1 y hy
 refine ⟨hk,fun y hy e=>?_,of_decide_eq_true h2,fun y hy e=>?_,fun y hy e=>?_,cap_ok h3⟩
 ·have q:=all y hy
  rw [e] at q
  cases q
 ·have q:=all y hy
  rw [e] at q
  dsimp only at q
  cases hl:scope.names.lookup y.1 with
  | none=>rw [hl] at q; cases q
  | some k=>rw [hl] at q; cases k <;> first | rfl | cases q
 ·have q:=all y hy
  rw [e] at q
  dsimp only at q
  show X.env.scope.names.lookup y.1=_∨X.env.scope.names.lookup y.1=_
  cases hl:X.env.scope.names.lookup y.1 with
  | none=>rw [hl] at q; cases q
  | some k=>rw [hl] at q; cases k <;> first | exact .inl rfl | exact .inr rfl | cases q
section
variable {X:Cx} {K:PySem.W.Frag}
theorem call_isiK (h:X.K=K) : CallR X (.builtin "isinstance") (rIsi K):=by subst h; exact call_isi
theorem ix_listK (h:X.K=K) : IxR X (rIxL K):=by subst h; exact ix_list
theorem ix_tupK (h:X.K=K) : IxR X (rIxT K):=by subst h; exact ix_tup
theorem call_lenK (h:X.K=K) : CallR X (.builtin "len") (fun xs H Q=>∃ p ys,xs=[.ref p]∧(SqL K H p ys∨SqT K H p ys)∧Q (.int ys.length) H):=by subst h; exact call_len_seq
theorem call_allK (h:X.K=K) (hc:X.calm=true) : CallR X (.builtin "all") (rAll K):=by subst h; exact call_all hc
theorem op_inK (h:X.K=K) : OpR X (compareOp .In) (rIn K false):=by subst h; exact op_in_seq
theorem pi_listK {tg l:Expr} {tl:TE} (h:X.K=K) (hl:PE X l tl) : PI X tg l (iList K tl):=by subst h; exact pi_list hl
theorem pi_tupK {tg l:Expr} {tl:TE} (h:X.K=K) (hl:PE X l tl) : PI X tg l (iTup K tl):=by subst h; exact pi_tup hl
theorem pg_tupK {es:List Expr} {k:Nat} {t:TGs} {n:Nat} {pos:Pos} (hk:X.K=K) (hc:X.calm=true) (h:PGs X es t)
  (hn:(assignEach es X.env).length=n:=by rfl) (hst:(assignEach es X.env).findIdx? (·.1)=none:=by rfl) : PG X (.Tuple es k pos) (gTup K n t):=by subst hk; exact pg_tup hc h hn hst
end
end L2
namespace Sw
open PySem L2
inductive Exs (H:Hp) : List V→List (Int × Int)→Prop
 | nil:Exs H [] []
 | cons {t:Addr} {a b:Int} {vs:List V} {r:List (Int × Int)} : H t=some (.tup [.int a,.int b])→Exs H vs r→Exs H (.ref t :: vs) ((a,b) :: r)
theorem Exs.length {H:Hp} : ∀ {vs:List V} {r:List (Int × Int)},Exs H vs r→vs.length=r.length
 | _,_,.nil=>rfl
 | _,_,.cons _ x=>by rw [List.length_cons,List.length_cons,x.length]
theorem Exs.append {H:Hp} : ∀ {vs ws:List V} {r q:List (Int × Int)},Exs H vs r→Exs H ws q→Exs H (vs++ws) (r++q)
 | _,_,_,_,.nil,y=>y
 | _,_,_,_,.cons h x,y=>.cons h (x.append y)
theorem ints_dat {K:PySem.W.Frag} {H:Hp} {P:Addr→Prop} : ∀ (ns:List Int),DatAll K H P (ns.map V.int) (ns.map PyData.int)
 | []=>.nil
 | n :: r=>.cons (.int n) (ints_dat r)
theorem lay_ints : ∀ (ns:List Int),PyData.canLayAll0 (ns.map PyData.int)=true
 | []=>rfl
 | n :: r=>by rw [List.map_cons]; unfold PyData.canLayAll0; rw [lay_ints r]; rfl
theorem depth_ints : ∀ (ns:List Int),PyData.depthAll (ns.map PyData.int)=0
 | []=>by simp [PyData.depthAll]
 | n :: r=>by rw [List.map_cons]; unfold PyData.depthAll; rw [depth_ints r]; simp [PyData.depth]
theorem eqv_ints : ∀ (ns ms:List Int),PyData.eqvAll (ns.map PyData.int) (ms.map PyData.int)=decide (ns=ms)
 | [],[]=>by simp [PyData.eqvAll]
 | [],m :: r=>by simp [PyData.eqvAll]
 | n :: r,[]=>by simp [PyData.eqvAll]
 | n :: r,m :: q=>by
  rw [List.map_cons,List.map_cons]; unfold PyData.eqvAll; rw [eqv_ints r q]
  simp [PyData.eqv]
  by_cases h1:n=m <;> by_cases h2:r=q <;> simp [h1,h2]
def swp (x:Int) (e:Int × Int) : Int:=if x=e.1 then e.2 else if x=e.2 then e.1 else x
def go (row:List (Int × Int)) (x:Int) : Int:=row.foldl swp x
def Good (n:Int) (row:List (Int × Int)) : Prop:=∀ e∈row,1≤e.1∧e.1<e.2∧e.2≤n
theorem Good.append {n:Int} {r q:List (Int × Int)} (a:Good n r) (b:Good n q) : Good n (r++q):=fun e h=>(List.mem_append.mp h).elim (a e) (b e)
theorem swp_in {n x:Int} {e:Int × Int} (h : 1≤e.1∧e.1<e.2∧e.2≤n) (h1 : 1≤x) (h2:x≤n) : 1≤swp x e∧swp x e≤n:=by
 unfold swp; split
 ·omega
 ·split <;> omega
theorem swp_swp (x:Int) (e:Int × Int) : swp (swp x e) e=x:=by
 unfold swp
 by_cases h1:x=e.1
 ·rw [if_pos h1]
  by_cases h2:e.2=e.1
  ·rw [if_pos h2]; omega
  ·rw [if_neg h2,if_pos rfl]; exact h1.symm
 ·rw [if_neg h1]
  by_cases h2:x=e.2
  ·rw [if_pos h2,if_pos rfl]; exact h2.symm
  ·rw [if_neg h2,if_neg h1,if_neg h2]
theorem mem_ivl {lo hi x:Int} : x∈ivl lo hi↔lo≤x∧x<hi:=by
 unfold ivl
 rw [List.mem_map]
 constructor
 ·rintro ⟨i,h,rfl⟩
  have:=List.mem_range.mp h
  omega
 ·intro h
  exact ⟨(x - lo).toNat,List.mem_range.mpr (by omega),by omega⟩
theorem get_ivl {lo hi:Int} {i:Nat} (h:i<(hi - lo).toNat) : (ivl lo hi)[i]?=some (lo+i):=by
 unfold ivl
 rw [List.getElem?_map,List.getElem?_range h]
 rfl
end Sw
namespace L2
open PySem PySem.Spec PyProof.Rows
section
variable {X:Cx} {pins:List (Addr × Obj)} {σ : St} {H:Hp} {s:Shared} {h':Heap}
theorem Inv.turnedL {t':Nat} {fp:List Addr} (I:Inv X pins σ H s) (k : ∀ b o,b∉fp→s.heap.get? b=some o→h'.get? b=some o) (hf : ∀ b∈fp,FpOk X pins H b) : Inv X pins σ H { s with heap:=h',toks:=t' }:=by
 have nit : ∀ b u,H b=some u→b∉fp:=fun b u e z=>by rw [(hf b z).1] at e; cases e
 refine I.step (g':=s.gens) (d':=s.drawn) (ch:=fp) (fun b hb=>?_) (fun b o _ _ hc e _=>k b o hc e) (fun b o _ _ hc e _=>⟨o.slots,k b o hc e⟩) (fun _ _ _ _ n=>n)
  (fun b o hc e=>⟨o,k b o hc e⟩) (fun _ _ e=>e) (fun _ _ _ e=>e) (fun b ps e=>⟨#[],by rw [e]; simp⟩) (fun m hm=>?_) (fun b u e=>?_) I.bare
 ·obtain ⟨f0,f1,f2,f3,f4,f5⟩:=hf b hb
  exact ⟨f3,f1,f4,f5⟩
 ·obtain ⟨o,es,ep,ho,r⟩:=hm
  exact ⟨o,es,ep,k _ o (fun z=>(hf _ z).2.1 rfl) ho,r⟩
 ·refine (I.hok b u e).stay (fun c v hc q=>k c v ?_ q) (fun _ q=>q) fun _ _ q=>q
  rcases hc with z | z
  ·rw [z]; exact nit b u e
  ·exact nit c _ z
theorem Inv.track {T:Addr} {o:HO} (I:Inv X pins σ H s) (hf:FpOk X pins H T) (new:ObjOk X.prog X.w (upd H T o) s.heap T o) : Inv X pins σ (upd H T o) s:=by
 obtain ⟨f0,f1,f2,f3,f4,f5⟩:=hf
 have:=I.step (h':=s.heap) (H':=upd H T o) (g':=s.gens) (d':=s.drawn) (t':=s.toks) (ch:=[T]) (fun b hb=>by
  have e:b=T:=by simpa using hb
  subst e
  exact ⟨f3,f1,f4,f5⟩) (fun b o _ _ _ e _=>e) (fun b o _ _ _ e _=>⟨o.slots,e⟩) (fun b o hc _ n=>by rw [upd_ne (fun z=>hc (by simp [z]))]; exact n)
  (fun b o _ e=>⟨o,e⟩) (fun b xs e=>by rw [upd_ne (ne_of_none e f0)]; exact e) (fun b o u e=>by rw [upd_ne (ne_of_none e f0)]; exact e) (fun b ps e=>⟨#[],by rw [upd_ne (ne_of_none e f0),e]; simp⟩) (fun m hm=>hm) (fun b u e=>?_) I.bare
 ·exact this
 ·by_cases hb:b=T
  ·subst hb
   rw [upd_same] at e
   cases e
   exact new
  ·rw [upd_ne hb] at e
   refine (I.hok b u e).stay (fun _ _ _ q=>q) (fun c q=>?_) fun c xs q=>?_
   ·rw [upd_ne (ne_of_none q f0)]; exact q
   ·rw [upd_ne (ne_of_none q f0)]; exact q
end
end L2
namespace L2
open PySem PySem.Spec PyProof.Rows
theorem comp_by {ix:List (Option Nat)} {g:TG} {tc:TT} {te:TE} {σ : St} {Q:VK} {J:It} {H:Hp} {n:Nat} (Pv:Nat→List V→St→Hp→Prop) (hn:n≤1000000) (h0:Pv 0 [] (startC ix σ) H)
  (hgo : ∀ i ys σ H,i<n→Pv i ys σ H→J.go i H) (hst : ∀ ys σ H,Pv n ys σ H→J.stop n H) (hlen : ∀ i ys σ H,Pv i ys σ H→ys.length≤i)
  (hs : ∀ i ys σ H x H2 (R:St→List V→Hp→Prop),i<n→Pv i ys σ H→J.yld i H x H2→(∀ σ2 ys2 H5,Pv (i+1) ys2 σ2 H5→R σ2 ys2 H5) →
   g x σ H2 fun σ2 H3=>tc σ2 H3 fun b H4=>if b=true then te σ2 H4 fun v H5=>R σ2 (ys++[v]) H5 else R σ2 ys H4)
  (hd : ∀ ys σ' H' p,Pv n ys σ' H'→H' p=none→Q (.ref p) (upd H' p (.lst ys))) : rComp ix g tc te σ Q J H:=by
 have big:(1000000:Nat)<sizeLine:=by decide
 refine ⟨fun i m ys σ' H'=>m=n - i∧i≤n∧Pv i ys σ' H',⟨n,by simp,Nat.zero_le _,h0⟩,?_⟩
 rintro i m ys σ' H' ⟨rfl,hi,p⟩
 have hl:=hlen i ys σ' H' p
 by_cases hlt:i<n
 ·refine .inr ⟨hgo i ys σ' H' hlt p,by omega,fun x H2 y=>?_⟩
  exact hs i ys σ' H' x H2 (fun σ2 ys2 H5=>∃ m',m'<n - i∧(m'=n - (i+1)∧i+1≤n∧Pv (i+1) ys2 σ2 H5)) hlt p y fun σ2 ys2 H5 q=>⟨n - (i+1),by omega,rfl,hlt,q⟩
 ·have e:i=n:=by omega
  subst e
  exact .inl ⟨hst ys σ' H' p,by omega,fun q hq=>hd ys σ' H' q p hq⟩
theorem compL {K:PySem.W.Frag} {ix:List (Option Nat)} {te:TE} {σ : St} {Q:VK} {H:Hp} {a:Addr} {xs:List V} {k:Nat} (Pv:Nat→List V→St→Hp→Prop) (hn:xs.length≤1000000) (h0:Pv 0 [] (startC ix σ) H)
  (hl : ∀ i ys σ H,i≤xs.length→Pv i ys σ H→SqL K H a xs) (hlen : ∀ i ys σ H,Pv i ys σ H→ys.length≤i)
  (hs : ∀ i ys σ H x (R:St→List V→Hp→Prop),xs[i]?=some x→Pv i ys σ H→(∀ σ2 ys2 H5,Pv (i+1) ys2 σ2 H5→R σ2 ys2 H5)→te (σ.set k (some x)) H fun v H5=>R (σ.set k (some x)) (ys++[v]) H5)
  (hd : ∀ ys σ' H' p,Pv xs.length ys σ' H'→H' p=none→Q (.ref p) (upd H' p (.lst ys))) : rComp ix (gName k) tTrue te σ Q (Itl K a) H:=by
 refine comp_by Pv hn h0 (fun i ys σ H hi p=>⟨xs,xs[i],hl i ys σ H (Nat.le_of_lt hi) p,by simp [hi]⟩) (fun ys σ H p=>⟨xs,hl _ ys σ H (Nat.le_refl _) p,Nat.le_refl _⟩) hlen (fun i ys σ H x H2 R hi p y r=>?_) hd
 obtain ⟨rfl,y⟩:=y
 unfold gName tTrue
 simp only [if_true]
 exact hs i ys σ _ x R (y xs (hl i ys σ _ (Nat.le_of_lt hi) p)) p r
theorem compT {K:PySem.W.Frag} {ix:List (Option Nat)} {te:TE} {σ : St} {Q:VK} {H:Hp} {a:Addr} {xs:List V} {k:Nat} (Pv:Nat→List V→St→Hp→Prop) (hn:xs.length≤1000000) (h0:Pv 0 [] (startC ix σ) H)
  (hl : ∀ i ys σ H,i≤xs.length→Pv i ys σ H→SqT K H a xs) (hlen : ∀ i ys σ H,Pv i ys σ H→ys.length≤i)
  (hs : ∀ i ys σ H x (R:St→List V→Hp→Prop),xs[i]?=some x→Pv i ys σ H→(∀ σ2 ys2 H5,Pv (i+1) ys2 σ2 H5→R σ2 ys2 H5)→te (σ.set k (some x)) H fun v H5=>R (σ.set k (some x)) (ys++[v]) H5)
  (hd : ∀ ys σ' H' p,Pv xs.length ys σ' H'→H' p=none→Q (.ref p) (upd H' p (.lst ys))) : rComp ix (gName k) tTrue te σ Q (Itt K a) H:=by
 refine comp_by Pv hn h0 (fun i ys σ H hi p=>⟨xs,xs[i],hl i ys σ H (Nat.le_of_lt hi) p,by simp [hi]⟩) (fun ys σ H p=>⟨xs,hl _ ys σ H (Nat.le_refl _) p,Nat.le_refl _⟩) hlen (fun i ys σ H x H2 R hi p y r=>?_) hd
 obtain ⟨rfl,y⟩:=y
 unfold gName tTrue
 simp only [if_true]
 exact hs i ys σ _ x R (y xs (hl i ys σ _ (Nat.le_of_lt hi) p)) p r
theorem compR {ix:List (Option Nat)} {te:TE} {σ : St} {Q:VK} {H:Hp} {lo:Int} {n:Nat} {k:Nat} (Pv:Nat→List V→St→Hp→Prop) (hn:n≤1000000) (h0:Pv 0 [] (startC ix σ) H) (hlen : ∀ i ys σ H,Pv i ys σ H→ys.length≤i)
  (hs : ∀ i ys σ H (R:St→List V→Hp→Prop),i<n→Pv i ys σ H→(∀ σ2 ys2 H5,Pv (i+1) ys2 σ2 H5→R σ2 ys2 H5)→te (σ.set k (some (.int (lo+i)))) H fun v H5=>R (σ.set k (some (.int (lo+i)))) (ys++[v]) H5)
  (hd : ∀ ys σ' H' p,Pv n ys σ' H'→H' p=none→Q (.ref p) (upd H' p (.lst ys))) : rComp ix (gName k) tTrue te σ Q (Itr lo n) H:=by
 refine comp_by Pv hn h0 (fun i ys σ H hi p=>hi) (fun ys σ H p=>Nat.le_refl _) hlen (fun i ys σ H x H2 R hi p y r=>?_) hd
 obtain ⟨rfl,rfl⟩:=y
 unfold gName tTrue
 simp only [if_true]
 exact hs i ys σ _ R hi p r
theorem compLif {K:PySem.W.Frag} {ix:List (Option Nat)} {tc:TT} {te:TE} {σ : St} {Q:VK} {H:Hp} {a:Addr} {xs:List V} {k:Nat} (Pv:Nat→List V→St→Hp→Prop) (hn:xs.length≤1000000) (h0:Pv 0 [] (startC ix σ) H)
  (hl : ∀ i ys σ H,i≤xs.length→Pv i ys σ H→SqL K H a xs) (hlen : ∀ i ys σ H,Pv i ys σ H→ys.length≤i)
  (hs : ∀ i ys σ H x (R:St→List V→Hp→Prop),xs[i]?=some x→Pv i ys σ H→(∀ σ2 ys2 H5,Pv (i+1) ys2 σ2 H5→R σ2 ys2 H5) →
   tc (σ.set k (some x)) H fun b H4=>if b=true then te (σ.set k (some x)) H4 fun v H5=>R (σ.set k (some x)) (ys++[v]) H5 else R (σ.set k (some x)) ys H4)
  (hd : ∀ ys σ' H' p,Pv xs.length ys σ' H'→H' p=none→Q (.ref p) (upd H' p (.lst ys))) : rComp ix (gName k) tc te σ Q (Itl K a) H:=by
 refine comp_by Pv hn h0 (fun i ys σ H hi p=>⟨xs,xs[i],hl i ys σ H (Nat.le_of_lt hi) p,by simp [hi]⟩) (fun ys σ H p=>⟨xs,hl _ ys σ H (Nat.le_refl _) p,Nat.le_refl _⟩) hlen (fun i ys σ H x H2 R hi p y r=>?_) hd
 obtain ⟨rfl,y⟩:=y
 unfold gName
 exact hs i ys σ _ x R (y xs (hl i ys σ _ (Nat.le_of_lt hi) p)) p r
section
variable {X:Cx} {K:PySem.W.Frag} {o e:Expr} {es:List Expr} {to:TE} {t:TA} {name:Str} {apos cpos:Pos} {T id:String} {r:V→List V→Hp→VK→Prop}
theorem pe_bmK (h:X.K=K) (pa:PlainAttrs T) (slot:Slot T name id) (hty:typeOf (.builtin id)=pure (.type "method_descriptor")) (hm:MtR X id r) (ho:PE X o to) (ha:PA X (e :: es) t)
  (hbase:attributeBase o name X.env (eval o X.env)=eval o X.env:=by rfl)
  (hfew:((backTo cpos (starEach (e :: es) X.env)).all (fun x=>!x.1) && (backToKw cpos (keywordEach [] X.env)).all (fun x=>x.1.isSome)
   && decide ((e :: es).length+([] : List Keyword).length+(if ([] : List Keyword).isEmpty then 0 else 1)<30))=true:=by rfl)
  (hline:(apos.endLine == cpos.line)=true:=by rfl) (hs:starEach (e :: es) X.env=(false,eval e X.env) :: starEach es X.env:=by rfl) (hplain:(backTo cpos (starEach es X.env)).any (·.1)=false:=by rfl) :
  PE X (.Call (.Attribute o name apos) (e :: es) [] cpos) (tBM K T r to t):=by
 subst h; exact pe_bm pa slot hty hm ho ha hbase hfew hline hs hplain
theorem sl_listK (h:X.K=K) : SlR X (rSlL K):=by subst h; exact sl_list
theorem sl_tupK (h:X.K=K) : SlR X (rSlT K):=by subst h; exact sl_tup
theorem op_catTK (h:X.K=K) : OpR X (binaryOp .Add) (rCatT K):=by subst h; exact op_catT
end
end L2
namespace Sw
open PySem L2
theorem ivl_nodup (a b:Int) : (ivl a b).Nodup:=by
 unfold ivl
 refine List.Pairwise.map _ ?_ (List.nodup_range (n:=(b - a).toNat))
 intro x y h z
 apply h
 omega
def Ord (n:Int) (xs:List Int) : Prop:=xs.Perm (ivl 1 (n+1))
theorem Ord.length {n:Int} {xs:List Int} (o:Ord n xs) : xs.length=n.toNat:=by
 rw [List.Perm.length_eq o,ivl_length]; congr 1; omega
theorem Ord.mem {n:Int} {xs:List Int} (o:Ord n xs) {x:Int} : x∈xs↔1≤x∧x≤n:=by
 rw [List.Perm.mem_iff o,mem_ivl]; omega
theorem Ord.nodup {n:Int} {xs:List Int} (o:Ord n xs) : xs.Nodup:=(List.Perm.nodup_iff o).mpr (ivl_nodup _ _)
def nxt (xs:List Int) (x:Int) : Int:=xs.getD ((xs.idxOf x+1) % xs.length) 0
theorem nxt_at {xs:List Int} (nd:xs.Nodup) {j:Nat} {x:Int} (h:xs[j]?=some x) : nxt xs x=xs.getD ((j+1) % xs.length) 0:=by
 obtain ⟨h1,rfl⟩:=List.getElem?_eq_some_iff.mp h
 unfold nxt
 rw [List.Nodup.idxOf_getElem nd]
theorem ord_plain (n:Int) : Ord n (ivl 1 (n+1)):=List.Perm.refl _
end Sw
namespace L2
open PySem PySem.Spec PyProof.Rows
section
variable {X:Cx} {K:PySem.W.Frag}
def tChain3 (r r' r'':R2) (ta tb tc td:TE) : TE:=fun σ H Q=>ta σ H fun x H1=>tb σ H1 fun y H2=>r x y H2 fun z H3=>∃ k,z=.bl k ∧
 (if k=true then tc σ H3 fun w' H4=>r' y w' H4 fun z' H5=>∃ k',z'=.bl k'∧(if k'=true then td σ H5 fun w2 H6=>r'' w' w2 H6 Q else Q (.bl false) H5) else Q (.bl false) H3)
theorem pt_chain3 {op op' op'':CmpOp} {r r' r'':R2} {a b c d:Expr} {ta tb tc td:TE} {pos:Pos} (ho:OpR X (compareOp op) r) (ho':OpR X (compareOp op') r') (ho2:OpR X (compareOp op'') r'') (ha:PE X a ta) (hb:PE X b tb) (hc:PE X c tc) (hd:PE X d td)
  (hm:lastMarks [op,op',op''] [b,c,d]=false:=by with_unfolding_all rfl) : PT X (.Compare a [op,op',op''] [b,c,d] pos) (tTest (tChain3 r r' r'' ta tb tc td)):=by
 intro pins s σ H Q I h
 refine isTrue_chain (thn (ha pins s σ H _ I h) fun v s1 ⟨x,H1,I1,r1,q1⟩=>test_link (thn (hb pins s1 σ H1 _ I1 q1) fun u s2 ⟨y,H2,I2,r2,q2⟩ =>
  thn (ho pins s2 σ H2 x y v u _ I2 r1 r2 q2) fun d s3 ⟨z,H3,I3,r3,k,e,q3⟩=>?_)) hm
 subst e
 cases r3
 refine wpAny_truthy_bool ?_
 cases k with
 | false =>
  obtain ⟨k',e',q'⟩:=q3
  cases e'
  exact ite_ff ⟨H3,I3,q'⟩
 | true =>
  refine ite_tt (test_link (thn (hc pins s3 σ H3 _ I3 q3) fun w' s4 ⟨z',H4,I4,r4,q4⟩=>thn (ho' pins s4 σ H4 y z' u w' _ I4 r2 r4 q4) fun d' s5 ⟨z2,H5,I5,r5,k2,e2,q5⟩=>?_))
  subst e2
  cases r5
  refine wpAny_truthy_bool ?_
  cases k2 with
  | false =>
   obtain ⟨k',e',q'⟩:=q5
   cases e'
   exact ite_ff ⟨H5,I5,q'⟩
  | true =>
   refine ite_tt (test_last (thn (hd pins s5 σ H5 _ I5 q5) fun w2 s6 ⟨z3,H6,I6,r6,q6⟩=>thn (ho2 pins s6 σ H6 z' z3 w' w2 _ I6 r4 r6 q6) fun d2 s7 ⟨z4,H7,I7,r7,k3,e3,q7⟩=>?_))
   subst e3
   cases r7
   exact wpAny_truthy_bool ⟨H7,I7,q7⟩
end
end L2
namespace L2
open PySem PySem.Spec PyProof.Rows
section
variable {X:Cx} {K:PySem.W.Frag}
theorem ints_are : ∀ {ns:List Int} {us:List Value},Vals (ns.map V.int) us→IntsAre us ns
 | [],us,r=>by cases r; exact .nil
 | n :: ns,us,r=>by
  cases r with
  | cons r1 r2 =>
   obtain ⟨t,rfl⟩:=r1
   exact .cons n t (ints_are r2)
theorem vals_are : ∀ {us:List Value} {ns:List Int},IntsAre us ns→Vals (ns.map V.int) us
 | _,_,.nil=>.nil
 | _,_,.cons n t r=>.cons ⟨t,rfl⟩ (vals_are r)
def rSort (K:PySem.W.Frag) : List V→Hp→VK→Prop:=fun xs H Q=>∃ (p:Addr) (ns:List Int),xs=[.ref p]∧SqL K H p (ns.map V.int)∧ns.length<64∧∀ (l:Addr) (ns':List Int),H l=none→ns'.Perm ns→ns'.Pairwise (·≤·)→Q (.ref l) (upd H l (.lst (ns'.map V.int)))
theorem call_sorted (hK:X.K=K) : CallR X (.builtin "sorted") (rSort K):=by
 subst hK
 intro pins s σ H xs us Q I r h
 obtain ⟨p,ns,rfl,hl,hz,q⟩:=h
 obtain ⟨u,rfl,rx⟩:=vals1 r
 cases rx
 obtain ⟨its,rv,pl,_⟩:=I.list hl
 have len:=rv.length
 rw [List.length_map] at len
 refine sorted_ints pl.isList (ints_are rv) (by omega) fun out ns' ia pm pw=>?_
 obtain ⟨e,he⟩:=sortedAll_at s.heap its out
 have lp:=pm.length_eq
 have big:(64:Nat)≤sizeLine:=by decide
 refine ⟨.ref (s.heap.objs.size+1),_,I.laid (o:=.lst (ns'.map V.int)) (fun b u e=>sortedAll_old e) (Nat.le_succ _) ⟨by rw [List.length_map]; omega,out.toList,e,vals_are ia,by simpa using he⟩,rfl,q _ ns' (I.hok.fresh (Nat.le_succ _)) pm pw⟩
end
end L2
namespace L2
open PySem PySem.Spec PyProof.Rows
def kitB (T C:String) : Option Bool:=if (Value.type T == Value.type C)=true then some true else if PySem.W.kitMeta C=true then (fastBuiltinMro T).map (·.contains (Value.type C)) else none
theorem kit_type (K:PySem.W.Frag) {T C:String} {b:Bool} (h:kitB T C=some b) : PySem.W.kitOne K (.type T) (.type C)=some b:=h
theorem kit_int_bool (K:PySem.W.Frag) : PySem.W.kitOne K (.type "int") (.type "bool")=some false:=kit_type K (by decide +kernel)
end L2
namespace Sw
open PySem L2
def ld (xs:List Int) (x:Int) : Int:=xs.getD (x - 1).toNat 0
def itn (f:Int→Int) : Nat→Int→Int
 | 0,x=>x
 | k+1,x=>f (itn f k x)
theorem itn_add (f:Int→Int) (j:Nat) (x:Int) : ∀ k,itn f (k+j) x=itn f k (itn f j x)
 | 0=>by rw [Nat.zero_add]; rfl
 | k+1=>by rw [Nat.succ_add]; show f _=f _; rw [itn_add f j x k]
theorem ld_get {n:Int} {xs:List Int} (o:Ord n xs) {x:Int} (h1 : 1≤x) (h2:x≤n) : xs[(x - 1).toNat]?=some (ld xs x):=by
 have:=o.length
 unfold ld
 rw [List.getD_eq_getElem?_getD,List.getElem?_eq_getElem (by omega)]
 rfl
theorem ld_in {n:Int} {xs:List Int} (o:Ord n xs) {x:Int} (h1 : 1≤x) (h2:x≤n) : 1≤ld xs x∧ld xs x≤n:=o.mem.mp (List.mem_of_getElem? (ld_get o h1 h2))
theorem ld_inj {n:Int} {xs:List Int} (o:Ord n xs) {x y:Int} (h1 : 1≤x) (h2:x≤n) (h3 : 1≤y) (h4:y≤n) (e:ld xs x=ld xs y) : x=y:=by
 have a:=ld_get o h1 h2
 have b:=ld_get o h3 h4
 rw [e] at a
 obtain ⟨p,pa⟩:=List.getElem?_eq_some_iff.mp a
 obtain ⟨q,qa⟩:=List.getElem?_eq_some_iff.mp b
 have:=(List.getElem_inj (i:=(x - 1).toNat) (j:=(y - 1).toNat) (h₀:=p) (h₁:=q) o.nodup).mp (pa.trans qa.symm)
 omega
theorem itn_in {n:Int} {xs:List Int} (o:Ord n xs) {x:Int} (h1 : 1≤x) (h2:x≤n) : ∀ k,1≤itn (ld xs) k x∧itn (ld xs) k x≤n
 | 0=>⟨h1,h2⟩
 | k+1=>ld_in o (itn_in o h1 h2 k).1 (itn_in o h1 h2 k).2
theorem itn_inj {n:Int} {xs:List Int} (o:Ord n xs) {x y:Int} (h1 : 1≤x) (h2:x≤n) (h3 : 1≤y) (h4:y≤n) : ∀ k,itn (ld xs) k x=itn (ld xs) k y→x=y
 | 0,e=>e
 | k+1,e=>itn_inj o h1 h2 h3 h4 k (ld_inj o (itn_in o h1 h2 k).1 (itn_in o h1 h2 k).2 (itn_in o h3 h4 k).1 (itn_in o h3 h4 k).2 e)
theorem ex_per {n:Int} {xs:List Int} (o:Ord n xs) {x:Int} (h1 : 1≤x) (h2:x≤n) : ∃ k,k<n.toNat∧itn (ld xs) (k+1) x=x:=by
 apply Classical.byContradiction
 intro no
 have hne : ∀ i j,i<j→j≤n.toNat→itn (ld xs) i x≠itn (ld xs) j x:=by
  intro i j hij hj e
  apply no
  refine ⟨j - i - 1,by omega,?_⟩
  have e2:itn (ld xs) (i+(j - i)) x=itn (ld xs) i (itn (ld xs) (j - i) x):=itn_add _ _ _ _
  rw [show i+(j - i)=j by omega,← e] at e2
  have q:=itn_in o h1 h2 (j - i)
  have:=itn_inj o h1 h2 q.1 q.2 i e2
  rw [show j - i - 1+1=j - i by omega]
  exact this.symm
 have nd:((List.range (n.toNat+1)).map (fun k=>itn (ld xs) k x)).Nodup:=by
  rw [List.Nodup,List.pairwise_iff_getElem]
  intro i j hi hj hij
  simp only [List.getElem_map,List.getElem_range]
  simp at hj
  exact hne i j hij (by omega)
 have le:=List.Nodup.length_le_of_subset nd (l₂:=ivl 1 (n+1)) (by
  intro y hy
  obtain ⟨k,_,rfl⟩:=List.mem_map.mp hy
  have:=itn_in o h1 h2 k
  exact mem_ivl.mpr (by omega))
 rw [List.length_map,List.length_range,ivl_length] at le
 omega
def per (xs:List Int) (x:Int) : Nat:=(List.range xs.length).findIdx (fun k=>itn (ld xs) (k+1) x == x)+1
def orb (xs:List Int) (x:Int) : List Int:=(List.range (per xs x)).map fun k=>itn (ld xs) k x
theorem per_le {n:Int} {xs:List Int} (o:Ord n xs) {x:Int} (h1 : 1≤x) (h2:x≤n) : per xs x≤n.toNat:=by
 obtain ⟨k,hk,e⟩:=ex_per o h1 h2
 have:=List.findIdx_lt_length_of_exists (xs:=List.range xs.length) (p:=fun k=>itn (ld xs) (k+1) x == x) ⟨k,List.mem_range.mpr (by rw [o.length]; exact hk),by simpa using e⟩
 rw [List.length_range,o.length] at this
 unfold per
 rw [o.length]
 omega
theorem per_eq {n:Int} {xs:List Int} (o:Ord n xs) {x:Int} (h1 : 1≤x) (h2:x≤n) : itn (ld xs) (per xs x) x=x:=by
 obtain ⟨k,hk,e⟩:=ex_per o h1 h2
 have lt:=List.findIdx_lt_length_of_exists (xs:=List.range xs.length) (p:=fun k=>itn (ld xs) (k+1) x == x) ⟨k,List.mem_range.mpr (by rw [o.length]; exact hk),by simpa using e⟩
 have:=List.findIdx_getElem (xs:=List.range xs.length) (p:=fun k=>itn (ld xs) (k+1) x == x) (w:=lt)
 rw [List.getElem_range] at this
 unfold per
 simpa using this
theorem per_ne {xs:List Int} {x:Int} {j:Nat} (h0 : 0<j) (h:j<per xs x) : itn (ld xs) j x≠x:=by
 unfold per at h
 have lt:j - 1<(List.range xs.length).findIdx (fun k=>itn (ld xs) (k+1) x == x):=by omega
 have:=List.not_of_lt_findIdx lt
 rw [List.getElem_range] at this
 rw [show j - 1+1=j by omega] at this
 simpa using this
theorem itn_mod {n:Int} {xs:List Int} (o:Ord n xs) {x:Int} (h1 : 1≤x) (h2:x≤n) (k:Nat) : ∃ j,j<per xs x∧itn (ld xs) k x=itn (ld xs) j x:=by
 induction k with
 | zero=>exact ⟨0,by unfold per; omega,rfl⟩
 | succ k ih =>
  obtain ⟨j,hj,e⟩:=ih
  by_cases h:j+1<per xs x
  ·exact ⟨j+1,h,by show ld xs _=ld xs _; rw [e]⟩
  ·refine ⟨0,by unfold per; omega,?_⟩
   show ld xs _=x
   rw [e]
   have:j+1=per xs x:=by omega
   have q:=per_eq o h1 h2
   rw [← this] at q
   exact q
theorem orb_mem {n:Int} {xs:List Int} (o:Ord n xs) {x:Int} (h1 : 1≤x) (h2:x≤n) {y:Int} : y∈orb xs x↔∃ k,itn (ld xs) k x=y:=by
 unfold orb
 rw [List.mem_map]
 constructor
 ·rintro ⟨k,_,e⟩
  exact ⟨k,e⟩
 ·rintro ⟨k,e⟩
  obtain ⟨j,hj,e2⟩:=itn_mod o h1 h2 k
  exact ⟨j,List.mem_range.mpr hj,e2.symm.trans e⟩
def least (xs:List Int) (x:Int) : Bool:=(orb xs x).all fun y=>decide (x≤y)
def rndM (n:Int) (xs:List Int) : List (List Int):=((ivl 1 (n+1)).filter (least xs)).map (orb xs)
theorem map_ord {n:Int} {xs:List Int} (o:Ord n xs) {e:Int × Int} (h : 1≤e.1∧e.1<e.2∧e.2≤n) : Ord n (xs.map (swp · e)):=by
 have nd:(xs.map (swp · e)).Nodup:=by
  refine List.Pairwise.map _ ?_ o.nodup
  intro a b ne z
  apply ne
  have:=congrArg (swp · e) z
  simpa [swp_swp] using this
 refine (List.perm_ext_iff_of_nodup nd (ivl_nodup _ _)).mpr fun y=>?_
 rw [mem_ivl,List.mem_map]
 constructor
 ·rintro ⟨x,hx,rfl⟩
  have hx:=o.mem.mp hx
  have:=swp_in h hx.1 hx.2
  omega
 ·rintro ⟨a,b⟩
  have:=swp_in h a (by omega)
  exact ⟨swp y e,o.mem.mpr this,swp_swp _ _⟩
theorem ld_map {n:Int} {xs:List Int} (o:Ord n xs) (f:Int→Int) {x:Int} (h1 : 1≤x) (h2:x≤n) : ld (xs.map f) x=f (ld xs x):=by
 have g:=ld_get o h1 h2
 show (xs.map f).getD _ 0=_
 rw [List.getD_eq_getElem?_getD,List.getElem?_map,g]
 rfl
theorem ord_ext {n:Int} {xs ys:List Int} (a:xs.length=n.toNat) (b:ys.length=n.toNat) (h : ∀ x,1≤x→x≤n→ld xs x=ld ys x) : xs=ys:=by
 apply List.ext_getElem
 ·rw [a,b]
 intro i h1 h2
 have:=h (1+i) (by omega) (by omega)
 unfold ld at this
 rw [show (1+(i:Int) - 1).toNat=i by omega,List.getD_eq_getElem?_getD,List.getD_eq_getElem?_getD,List.getElem?_eq_getElem h1,List.getElem?_eq_getElem h2] at this
 exact this
end Sw
namespace Sw
open PySem L2
inductive Rise:Int→List (Int × Int)→Prop
 | nil {m:Int} : Rise m []
 | snoc {m a b:Int} {r:List (Int × Int)} : Rise (b - 1) r→1≤a→a<b→b≤m→Rise m (r++[(a,b)])
theorem least_ex : ∀ {l:List Int},l≠[]→∃ M,M∈l∧∀ b∈l,M≤b
 | [],h=>absurd rfl h
 | [a],_=>⟨a,List.mem_singleton.mpr rfl,fun b hb=>by rw [List.mem_singleton.mp hb]; exact Int.le_refl _⟩
 | a :: b :: r,_=>by
  obtain ⟨M,h1,h2⟩:=least_ex (l:=b :: r) (by simp)
  by_cases h:a≤M
  ·refine ⟨a,List.mem_cons_self,fun c hc=>?_⟩
   rcases List.mem_cons.mp hc with rfl | hc
   ·exact Int.le_refl _
   ·exact Int.le_trans h (h2 c hc)
  ·refine ⟨M,List.mem_cons_of_mem _ h1,fun c hc=>?_⟩
   rcases List.mem_cons.mp hc with rfl | hc
   ·omega
   ·exact h2 c hc
end Sw
namespace Sw
open PySem L2
theorem orb_sym {n:Int} {xs:List Int} (o:Ord n xs) {x y:Int} (h1 : 1≤x) (h2:x≤n) (h:y∈orb xs x) : x∈orb xs y:=by
 obtain ⟨k,rfl⟩:=(orb_mem o h1 h2).mp h
 obtain ⟨j,hj,e⟩:=itn_mod o h1 h2 k
 have r:=itn_in o h1 h2 k
 refine (orb_mem o r.1 r.2).mpr ⟨per xs x - j,?_⟩
 rw [e,← itn_add,show per xs x - j+j=per xs x by omega]
 exact per_eq o h1 h2
theorem orb_trans {n:Int} {xs:List Int} (o:Ord n xs) {x y z:Int} (h1 : 1≤x) (h2:x≤n) (h:y∈orb xs x) (h':z∈orb xs y) : z∈orb xs x:=by
 obtain ⟨k,rfl⟩:=(orb_mem o h1 h2).mp h
 have r:=itn_in o h1 h2 k
 obtain ⟨j,rfl⟩:=(orb_mem o r.1 r.2).mp h'
 exact (orb_mem o h1 h2).mpr ⟨j+k,itn_add _ _ _ _⟩
theorem orb_in {n:Int} {xs:List Int} (o:Ord n xs) {x y:Int} (h1 : 1≤x) (h2:x≤n) (h:y∈orb xs x) : 1≤y∧y≤n:=by
 obtain ⟨k,rfl⟩:=(orb_mem o h1 h2).mp h
 exact itn_in o h1 h2 k
theorem orb_self {xs:List Int} (x:Int) : x∈orb xs x:=by
 unfold orb
 exact List.mem_map.mpr ⟨0,List.mem_range.mpr (by unfold per; omega),rfl⟩
theorem orb_length (xs:List Int) (x:Int) : (orb xs x).length=per xs x:=by unfold orb; rw [List.length_map,List.length_range]
theorem low_ex {n:Int} {xs:List Int} (o:Ord n xs) {x:Int} (h1 : 1≤x) (h2:x≤n) : ∃ m,m∈orb xs x∧least xs m=true∧m≤x:=by
 obtain ⟨M,m1,m2⟩:=least_ex (l:=orb xs x) (List.ne_nil_of_mem (orb_self x))
 refine ⟨M,m1,?_,m2 x (orb_self x)⟩
 unfold least
 rw [List.all_eq_true]
 intro y hy
 exact decide_eq_true (m2 y (orb_trans o h1 h2 m1 hy))
theorem inV_int (x:Int) (ms:List Int) : inV (.int x) (ms.map V.int)=decide (x∈ms):=by
 unfold inV
 rw [List.any_map,Bool.eq_iff_iff,List.any_eq_true]
 simp only [decide_eq_true_eq]
 constructor
 ·rintro ⟨y,hy,e⟩
  have e:eqV (.int y) (.int x)=true:=e
  unfold eqV at e
  have:y=x:=by simpa using e
  rw [← this]; exact hy
 ·intro h
  refine ⟨x,h,?_⟩
  show eqV (.int x) (.int x)=true
  unfold eqV
  simp
theorem flat_ints (ms:List Int) : (ms.map V.int).all flatV=true:=by
 rw [List.all_map,List.all_eq_true]
 intro x _
 rfl
def bump:Nat→List (List Int)→List (List Int)
 | _,[]=>[]
 | k,r :: t=>(r++[100+(k:Int)]) :: bump (k+1) t
def half (l:List (List Int)) (i:Nat) : List (List Int):=bump 0 (l.take i)++l.drop i
theorem lay_ll : ∀ (r:List (List Int)),PyData.canLayAll0 (r.map fun p=>PyData.list (p.map PyData.int))=true
 | []=>rfl
 | p :: r=>by
  rw [List.map_cons]; unfold PyData.canLayAll0; rw [lay_ll r]
  unfold PyData.canLay0; rw [lay_ints p]; rfl
theorem depth_ll : ∀ (r:List (List Int)),PyData.depthAll (r.map fun p=>PyData.list (p.map PyData.int))≤1
 | []=>by simp [PyData.depthAll]
 | p :: r=>by
  have:=depth_ll r
  rw [List.map_cons]; unfold PyData.depthAll; unfold PyData.depth; rw [depth_ints p]
  omega
theorem eqv_ll : ∀ (r q:List (List Int)),PyData.eqvAll (r.map fun p=>PyData.list (p.map PyData.int)) (q.map fun p=>PyData.list (p.map PyData.int))=decide (r=q)
 | [],[]=>by simp [PyData.eqvAll]
 | [],m :: r=>by simp [PyData.eqvAll]
 | n :: r,[]=>by simp [PyData.eqvAll]
 | n :: r,m :: q=>by
  rw [List.map_cons,List.map_cons]; unfold PyData.eqvAll; rw [eqv_ll r q]
  unfold PyData.eqv
  rw [eqv_ints n m]
  by_cases h1:n=m <;> by_cases h2:r=q <;> simp [h1,h2]
theorem eqL {K:PySem.W.Frag} {H:Hp} {t u:Addr} {ns ms:List Int} {Q:VK} (h1:H t=some (.lst (ns.map V.int))) (h2:H u=some (.lst (ms.map V.int))) (q:Q (.bl (!decide (ns=ms))) H) : rNeD K (.ref t) (.ref u) H Q:=by
 refine ⟨fun _=>True,.list (ns.map PyData.int),.list (ms.map PyData.int),.lst (SqL.of h1) True.intro (ints_dat ns),.lst (SqL.of h2) True.intro (ints_dat ms),?_,?_,?_,?_⟩
 ·unfold PyData.canLay0; exact lay_ints ns
 ·unfold PyData.canLay0; exact lay_ints ms
 ·unfold PyData.depth; rw [depth_ints]; decide
 ·unfold PyData.eqv; rw [eqv_ints]; exact q
end Sw
namespace Sw
open PySem L2
def Cyc (n:Int) (xs r:List Int) : Prop:=r≠[]∧∀ (i:Nat) (x:Int),r[i]?=some x→1≤x∧x≤n∧r[(i+1) % r.length]?=some (ld xs x)
structure Rnds (n:Int) (xs:List Int) (rs:List (List Int)) : Prop where
 cyc : ∀ r∈rs,Cyc n xs r
 nd:rs.flatten.Nodup
 rest : ∀ x,1≤x→x≤n→x∉rs.flatten→ld xs x=x
theorem itn_per {n:Int} {xs:List Int} (o:Ord n xs) {x:Int} (h1 : 1≤x) (h2:x≤n) {k:Nat} (h:k<per xs x) : itn (ld xs) ((k+1) % per xs x) x=ld xs (itn (ld xs) k x):=by
 by_cases e:k+1<per xs x
 ·rw [Nat.mod_eq_of_lt e]; rfl
 ·have e:k+1=per xs x:=by omega
  rw [e,Nat.mod_self]
  have:=per_eq o h1 h2
  rw [← e] at this
  exact this.symm
theorem orb_cyc {n:Int} {xs:List Int} (o:Ord n xs) {x:Int} (h1 : 1≤x) (h2:x≤n) : Cyc n xs (orb xs x):=by
 refine ⟨List.ne_nil_of_mem (orb_self x),fun i y hy=>?_⟩
 have hi:i<per xs x:=by rw [← orb_length xs x]; exact (List.getElem?_eq_some_iff.mp hy).1
 rw [orb_length]
 unfold orb at hy ⊢
 rw [List.getElem?_map,List.getElem?_range hi] at hy
 have hy:itn (ld xs) i x=y:=by simpa using hy
 have r:=itn_in o h1 h2 i
 rw [List.getElem?_map,List.getElem?_range (Nat.mod_lt _ (by omega))]
 refine ⟨by omega,by omega,?_⟩
 show some (itn (ld xs) ((i+1) % per xs x) x)=_
 rw [itn_per o h1 h2 hi,hy]
structure Part (n:Int) (xs:List Int) (rf rl:List (List Int)) : Prop where
 cf : ∀ r∈rf,Cyc n xs r
 cl : ∀ r∈rl,Cyc n xs r
 nd:(rf.flatten++rl.flatten).Nodup
 rest : ∀ x,1≤x→x≤n→x∉rf.flatten→x∉rl.flatten→ld xs x=x
theorem orb_nodup {n:Int} {xs:List Int} (o:Ord n xs) {x:Int} (h1 : 1≤x) (h2:x≤n) : (orb xs x).Nodup:=by
 unfold orb
 rw [List.Nodup,List.pairwise_map]
 refine (List.Pairwise.and_mem.mp (List.pairwise_lt_range (n:=per xs x))).imp ?_
 rintro i j ⟨hi,hj,hij⟩ e
 have hi:=List.mem_range.mp hi
 have hj:=List.mem_range.mp hj
 have e2:itn (ld xs) (i+(j - i)) x=itn (ld xs) i (itn (ld xs) (j - i) x):=itn_add _ _ _ _
 rw [show i+(j - i)=j by omega,← e] at e2
 have q:=itn_in o h1 h2 (j - i)
 have:=itn_inj o h1 h2 q.1 q.2 i e2
 exact per_ne (by omega) (by omega) this.symm
theorem rnd_nodup {n:Int} {xs:List Int} (o:Ord n xs) : (rndM n xs).flatten.Nodup:=by
 unfold rndM
 rw [List.Nodup,List.pairwise_flatten]
 constructor
 ·intro r hr
  obtain ⟨x,hx,rfl⟩:=List.mem_map.mp hr
  have hx:=mem_ivl.mp (List.mem_filter.mp hx).1
  exact orb_nodup o hx.1 (by omega)
 ·rw [List.pairwise_map]
  have nd:((ivl 1 (n+1)).filter (least xs)).Nodup:=(ivl_nodup 1 (n+1)).filter _
  refine (List.Pairwise.and_mem.mp nd).imp ?_
  rintro a b ⟨ha,hb,ne⟩ y hya z hzb e
  subst e
  have ha':=List.mem_filter.mp ha
  have hb':=List.mem_filter.mp hb
  have ia:=mem_ivl.mp ha'.1
  have ib:=mem_ivl.mp hb'.1
  have yb:=orb_sym o ib.1 (by omega) hzb
  have ab:b∈orb xs a:=orb_trans o ia.1 (by omega) hya yb
  have ba:a∈orb xs b:=orb_sym o ia.1 (by omega) ab
  have l1:=ha'.2
  have l2:=hb'.2
  unfold least at l1 l2
  have e1:=of_decide_eq_true (List.all_eq_true.mp l1 b ab)
  have e2:=of_decide_eq_true (List.all_eq_true.mp l2 a ba)
  exact ne (by omega)
theorem rnd_all {n:Int} {xs:List Int} (o:Ord n xs) {x:Int} (h1 : 1≤x) (h2:x≤n) : x∈(rndM n xs).flatten:=by
 obtain ⟨m,m1,m2,m3⟩:=low_ex o h1 h2
 have mi:=orb_in o h1 h2 m1
 refine List.mem_flatten.mpr ⟨orb xs m,?_,orb_sym o h1 h2 m1⟩
 unfold rndM
 exact List.mem_map.mpr ⟨m,List.mem_filter.mpr ⟨mem_ivl.mpr (by omega),m2⟩,rfl⟩
theorem rnd_cyc {n:Int} {xs:List Int} (o:Ord n xs) {r:List Int} (h:r∈rndM n xs) : Cyc n xs r:=by
 unfold rndM at h
 obtain ⟨x,hx,rfl⟩:=List.mem_map.mp h
 have hx:=mem_ivl.mp (List.mem_filter.mp hx).1
 exact orb_cyc o hx.1 (by omega)
theorem nil_rnds (n:Int) : Rnds n (ivl 1 (n+1)) []:=by
 refine ⟨fun r h=>(by cases h),by simp,fun x h1 h2 _=>?_⟩
 unfold ld
 rw [List.getD_eq_getElem?_getD,get_ivl (by omega)]
 show 1+(((x - 1).toNat:Nat) : Int)=x
 omega
end Sw
namespace L2
open PySem PySem.Spec PyProof.Rows
theorem int_shown {i:Int} (h:i.natAbs<10 ^ 35) : (PyData.int i).shown.length≤40:=by
 rw [PyData.shown_int]
 have len : ∀ s:String,(Str.ofString s).length=s.length:=fun s=>PySem.ofString_length s
 rw [len]
 have nat : ∀ n:Nat,n<10 ^ 35→(Nat.repr n).length≤35:=fun n hn=>by
  have:=(Nat.length_toDigits_le_iff (b:=10) (n:=n) (k:=35) (by decide) (by decide)).mpr hn
  unfold Nat.repr
  simpa using this
 match i,h with
 | .ofNat n,h =>
  have:=nat n h
  show (Nat.repr n).length≤40
  omega
 | .negSucc n,h =>
  have:=nat (n+1) h
  show ("-" ++ Nat.repr (n+1)).length≤40
  rw [String.length_append]
  have : "-".length=1:=rfl
  omega
mutual
inductive DT (H:Hp) (P:Addr→Prop) : V→PyData→Prop
 | non:DT H P .non .none
 | bl (b:Bool) : DT H P (.bl b) (.bool b)
 | int (i:Int) : DT H P (.int i) (.int i)
 | str (x:Str) : DT H P (.str x) (.str x)
 | lst {a:Addr} {vs:List V} {ds:List PyData} : H a=some (.lst vs)→P a→DTs H P vs ds→DT H P (.ref a) (.list ds)
 | tup {a:Addr} {vs:List V} {ds:List PyData} : H a=some (.tup vs)→P a→DTs H P vs ds→DT H P (.ref a) (.tuple ds)
inductive DTs (H:Hp) (P:Addr→Prop) : List V→List PyData→Prop
 | nil:DTs H P [] []
 | cons {v:V} {d:PyData} {vs:List V} {ds:List PyData} : DT H P v d→DTs H P vs ds→DTs H P (v :: vs) (d :: ds)
end
mutual
theorem DT.keep {H H':Hp} {P:Addr→Prop} (k:Keep P H H') : ∀ {v:V} {d:PyData},DT H P v d→DT H' P v d
 | _,_,.non=>.non
 | _,_,.bl b=>.bl b
 | _,_,.int i=>.int i
 | _,_,.str x=>.str x
 | _,_,.lst h p r=>.lst (k _ _ p h) p (r.keep k)
 | _,_,.tup h p r=>.tup (k _ _ p h) p (r.keep k)
theorem DTs.keep {H H':Hp} {P:Addr→Prop} (k:Keep P H H') : ∀ {vs:List V} {ds:List PyData},DTs H P vs ds→DTs H' P vs ds
 | _,_,.nil=>.nil
 | _,_,.cons h r=>.cons (h.keep k) (r.keep k)
end
mutual
theorem DT.dat {K:PySem.W.Frag} {H:Hp} {P:Addr→Prop} : ∀ {v:V} {d:PyData},DT H P v d→Dat K H P v d
 | _,_,.non=>.non
 | _,_,.bl b=>.bl b
 | _,_,.int i=>.int i
 | _,_,.str x=>.str x
 | _,_,.lst h p r=>.lst (SqL.of h) p r.dat
 | _,_,.tup h p r=>.tup (SqT.of h) p r.dat
theorem DTs.dat {K:PySem.W.Frag} {H:Hp} {P:Addr→Prop} : ∀ {vs:List V} {ds:List PyData},DTs H P vs ds→DatAll K H P vs ds
 | _,_,.nil=>.nil
 | _,_,.cons h r=>.cons h.dat r.dat
end
theorem DTs.length {H:Hp} {P:Addr→Prop} : ∀ {vs:List V} {ds:List PyData},DTs H P vs ds→vs.length=ds.length
 | _,_,.nil=>rfl
 | _,_,.cons h r=>by rw [List.length_cons,List.length_cons,r.length]
theorem DTs.append {H:Hp} {P:Addr→Prop} : ∀ {vs ws:List V} {ds es:List PyData},DTs H P vs ds→DTs H P ws es→DTs H P (vs++ws) (ds++es)
 | _,_,_,_,.nil,y=>y
 | _,_,_,_,.cons h x,y=>.cons h (x.append y)
theorem DTs.snoc {H:Hp} {P:Addr→Prop} {vs:List V} {ds:List PyData} {v:V} {d:PyData} (x:DTs H P vs ds) (h:DT H P v d) : DTs H P (vs++[v]) (ds++[d]):=x.append (.cons h .nil)
theorem DTs.take {H:Hp} {P:Addr→Prop} : ∀ {vs:List V} {ds:List PyData} (k:Nat),DTs H P vs ds→DTs H P (vs.take k) (ds.take k)
 | _,_,0,_=>.nil
 | _,_,k+1,.nil=>.nil
 | _,_,k+1,.cons h x=>.cons h (x.take k)
theorem DTs.drop {H:Hp} {P:Addr→Prop} : ∀ {vs:List V} {ds:List PyData} (k:Nat),DTs H P vs ds→DTs H P (vs.drop k) (ds.drop k)
 | _,_,0,x=>x
 | _,_,k+1,.nil=>.nil
 | _,_,k+1,.cons h x=>x.drop k
theorem DTs.get {H:Hp} {P:Addr→Prop} : ∀ {vs:List V} {ds:List PyData} {i:Nat} {x:V},DTs H P vs ds→vs[i]?=some x→∃ d,ds[i]?=some d∧DT H P x d
 | _,_,_,_,.nil,e=>by simp at e
 | _,_,0,_,.cons h x,e=>by simp at e; subst e; exact ⟨_,rfl,h⟩
 | _,_,i+1,_,.cons h x,e=>by
  obtain ⟨d,e1,e2⟩:=x.get (i:=i) (by simpa using e)
  exact ⟨d,by simpa using e1,e2⟩
theorem DTs.ints {H:Hp} {P:Addr→Prop} : ∀ (ns:List Int),DTs H P (ns.map V.int) (ns.map PyData.int)
 | []=>.nil
 | n :: r=>.cons (.int n) (DTs.ints r)
def tyD:PyData→String
 | .none => "NoneType"
 | .bool _ => "bool"
 | .int _ => "int"
 | .str _ => "str"
 | .list _ => "list"
 | .tuple _ => "tuple"
 | .dict _ => "dict"
theorem DT.ty {K:PySem.W.Frag} {H:Hp} {P:Addr→Prop} {v:V} {d:PyData} (h:DT H P v d) : TyOf K H v (.type (tyD d)):=by
 cases h with
 | non=>exact .non
 | bl b=>exact .bl b
 | int i=>exact .int i
 | str x=>exact .str x
 | lst h p r=>exact .lst h
 | tup h p r=>exact .tup h
def isL:PyData→Bool
 | .list _=>true
 | _=>false
theorem kit_list (K:PySem.W.Frag) {H:Hp} {P:Addr→Prop} {v:V} {d:PyData} (h:DT H P v d) : PySem.W.kitOne K (.type (tyD d)) (.type "list")=some (isL d):=by
 cases h with
 | non=>exact kit_type K (show kitB "NoneType" "list" = some false by decide +kernel)
 | bl b=>exact kit_type K (show kitB "bool" "list" = some false by decide +kernel)
 | int i=>exact kit_type K (show kitB "int" "list" = some false by decide +kernel)
 | str x=>exact kit_type K (show kitB "str" "list" = some false by decide +kernel)
 | lst h p r=>exact kit_type K (show kitB "list" "list" = some true by decide +kernel)
 | tup h p r=>exact kit_type K (show kitB "tuple" "list" = some false by decide +kernel)
def isT:PyData→Bool
 | .tuple _=>true
 | _=>false
theorem kit_tuple (K:PySem.W.Frag) {H:Hp} {P:Addr→Prop} {v:V} {d:PyData} (h:DT H P v d) : PySem.W.kitOne K (.type (tyD d)) (.type "tuple")=some (isT d):=by
 cases h with
 | non=>exact kit_type K (show kitB "NoneType" "tuple" = some false by decide +kernel)
 | bl b=>exact kit_type K (show kitB "bool" "tuple" = some false by decide +kernel)
 | int i=>exact kit_type K (show kitB "int" "tuple" = some false by decide +kernel)
 | str x=>exact kit_type K (show kitB "str" "tuple" = some false by decide +kernel)
 | lst h p r=>exact kit_type K (show kitB "list" "tuple" = some false by decide +kernel)
 | tup h p r=>exact kit_type K (show kitB "tuple" "tuple" = some true by decide +kernel)
def isI:PyData→Bool
 | .int _=>true
 | .bool _=>true
 | _=>false
theorem kit_int (K:PySem.W.Frag) {H:Hp} {P:Addr→Prop} {v:V} {d:PyData} (h:DT H P v d) : PySem.W.kitOne K (.type (tyD d)) (.type "int")=some (isI d):=by
 cases h with
 | non=>exact kit_type K (show kitB "NoneType" "int" = some false by decide +kernel)
 | bl b=>exact kit_type K (show kitB "bool" "int" = some true by decide +kernel)
 | int i=>exact kit_type K (show kitB "int" "int" = some true by decide +kernel)
 | str x=>exact kit_type K (show kitB "str" "int" = some false by decide +kernel)
 | lst h p r=>exact kit_type K (show kitB "list" "int" = some false by decide +kernel)
 | tup h p r=>exact kit_type K (show kitB "tuple" "int" = some false by decide +kernel)
def isB:PyData→Bool
 | .bool _=>true
 | _=>false
theorem kit_bool (K:PySem.W.Frag) {H:Hp} {P:Addr→Prop} {v:V} {d:PyData} (h:DT H P v d) : PySem.W.kitOne K (.type (tyD d)) (.type "bool")=some (isB d):=by
 cases h with
 | non=>exact kit_type K (show kitB "NoneType" "bool" = some false by decide +kernel)
 | bl b=>exact kit_type K (show kitB "bool" "bool" = some true by decide +kernel)
 | int i=>exact kit_type K (show kitB "int" "bool" = some false by decide +kernel)
 | str x=>exact kit_type K (show kitB "str" "bool" = some false by decide +kernel)
 | lst h p r=>exact kit_type K (show kitB "list" "bool" = some false by decide +kernel)
 | tup h p r=>exact kit_type K (show kitB "tuple" "bool" = some false by decide +kernel)
structure Fit (B:Nat) (d:PyData) : Prop where
 sh:d.showable=true
 nd:d.hasDict=false
 dp:d.depth≤20
 ls:PyData.leavesShort 40 d=true
 wt:d.weight≤B
theorem Fit.len {B:Nat} {d:PyData} (f:Fit B d) (hB:B≤100000) : d.shown.length≤sizeLine:=by
 have:=PyData.shown_le 40 (by decide) d f.ls
 have big:(10000000:Nat)≤sizeLine:=by decide
 have:=f.wt
 omega
section
variable {X:Cx} {K:PySem.W.Frag}
def rRepr (K:PySem.W.Frag) : List V→Hp→VK→Prop:=fun xs H Q=>∃ (x:V) (P:Addr→Prop) (d:PyData) (B:Nat),xs=[x]∧Dat K H P x d∧Fit B d∧B≤100000∧Q (.str d.shown) H
theorem call_repr (hg:X.A.guards=some []) (hu:X.A.units+64<cLine) : CallR X (.builtin "repr") (rRepr X.K):=by
 intro pins s σ H xs us Q I r h
 obtain ⟨x,P,d,B,rfl,hd,ft,hB,q⟩:=h
 obtain ⟨u,rfl,rx⟩:=vals1 r
 have hl:=ft.len hB
 obtain ⟨as,rd⟩:=I.reads hd rx
 cases hd with
 | non =>
  cases (show u=Value.none from rx)
  exact PySem.P.repr_of_none ⟨.str _,H,I.tok _,⟨_,rfl⟩,by rw [PyData.shown_none] at q; exact q⟩
 | bl b =>
  cases (show u=Value.bool b from rx)
  exact PySem.P.repr_of_bool ⟨.str _,H,I.tok _,⟨_,rfl⟩,by rw [PyData.shown_bool] at q; exact q⟩
 | int i =>
  obtain ⟨t,rfl⟩:=(show ∃ t,u=Value.int i t from rx)
  have:i.natAbs.log2<1920:=by have:=ft.sh; unfold PyData.showable at this; exact of_decide_eq_true this
  exact PySem.P.repr_of_int this ⟨.str _,H,I.tok _,⟨_,rfl⟩,by rw [PyData.shown_int] at q; exact q⟩
 | str z =>
  obtain ⟨t,rfl⟩:=(show ∃ t,u=Value.str z t from rx)
  rw [PyData.shown_str] at hl q
  exact PySem.P.repr_of_str ⟨.str _,H,I.tok _,⟨_,rfl⟩,q⟩ hl
 | lst h p rs =>
  cases (show u=Value.ref _ from rx)
  exact repr_of_reads' rd ft.sh (fun z=>by rw [ft.nd] at z; cases z) hg (by have:=ft.dp; omega) (fun _ _ e=>e) (fun h' t tk k=>⟨.str _,H,(I.kept (t':=s.toks) (h':=h') k).tok tk,⟨_,rfl⟩,q⟩) hl
 | tup h p rs =>
  cases (show u=Value.ref _ from rx)
  exact repr_of_reads' rd ft.sh (fun z=>by rw [ft.nd] at z; cases z) hg (by have:=ft.dp; omega) (fun _ _ e=>e) (fun h' t tk k=>⟨.str _,H,(I.kept (t':=s.toks) (h':=h') k).tok tk,⟨_,rfl⟩,q⟩) hl
end
theorem fit_none:Fit 0 .none:=⟨rfl,rfl,Nat.zero_le _,rfl,Nat.le_refl _⟩
theorem fit_bool (b:Bool) : Fit 0 (.bool b):=⟨rfl,rfl,Nat.zero_le _,rfl,Nat.le_refl _⟩
theorem log_lt {i:Int} (h:i.natAbs<10 ^ 35) : i.natAbs.log2<120:=by
 by_cases z:i.natAbs=0
 ·rw [z]; decide
 ·exact (Nat.log2_lt z).mpr (Nat.lt_of_lt_of_le h (by decide))
theorem fit_int {i:Int} (h:i.natAbs<10 ^ 35) : Fit 200 (.int i):=by
 have l:=log_lt h
 refine ⟨?_,rfl,Nat.zero_le _,?_,?_⟩
 ·unfold PyData.showable; exact decide_eq_true (by omega)
 ·unfold PyData.leavesShort; exact decide_eq_true (int_shown h)
 ·unfold PyData.weight; split <;> omega
structure Fits (B k:Nat) (ds:List PyData) : Prop where
 sh:PyData.showableAll ds=true
 nd:PyData.hasDictAll ds=false
 dp:PyData.depthAll ds≤k
 ls:PyData.leavesShortAll 40 ds=true
 wt:PyData.weightAll ds≤B * ds.length
theorem fits_of {B k:Nat} (hk:k≤20) : ∀ {ds:List PyData},(∀ d∈ds,Fit B d∧d.depth≤k)→Fits (B+1) k ds
 | [],_=>⟨rfl,rfl,Nat.zero_le _,rfl,Nat.zero_le _⟩
 | d :: ds,h=>by
  obtain ⟨f,hd⟩:=h d List.mem_cons_self
  have r:=fits_of hk (ds:=ds) fun e he=>h e (List.mem_cons_of_mem _ he)
  refine ⟨?_,?_,?_,?_,?_⟩
  ·unfold PyData.showableAll; rw [f.sh,r.sh]; rfl
  ·unfold PyData.hasDictAll; rw [f.nd,r.nd]; rfl
  ·unfold PyData.depthAll; have:=r.dp; omega
  ·unfold PyData.leavesShortAll; rw [f.ls,r.ls]; rfl
  ·unfold PyData.weightAll
   have a:=f.wt
   have b:=r.wt
   rw [List.length_cons,Nat.mul_add,Nat.mul_one]
   omega
theorem fit_list {B k:Nat} {ds:List PyData} (hk:k<20) (h : ∀ d∈ds,Fit B d∧d.depth≤k) : Fit ((B+1) * ds.length) (.list ds)∧(PyData.list ds).depth≤k+1:=by
 have r:=fits_of (by omega) h
 have dd:=r.dp
 refine ⟨⟨?_,?_,?_,?_,?_⟩,?_⟩
 ·unfold PyData.showable; exact r.sh
 ·unfold PyData.hasDict; exact r.nd
 ·unfold PyData.depth; omega
 ·unfold PyData.leavesShort; exact r.ls
 ·unfold PyData.weight; exact r.wt
 ·unfold PyData.depth; omega
theorem fit_tuple {B k:Nat} {ds:List PyData} (hk:k<20) (h : ∀ d∈ds,Fit B d∧d.depth≤k) : Fit ((B+1) * ds.length) (.tuple ds)∧(PyData.tuple ds).depth≤k+1:=by
 have r:=fits_of (by omega) h
 have dd:=r.dp
 refine ⟨⟨?_,?_,?_,?_,?_⟩,?_⟩
 ·unfold PyData.showable; exact r.sh
 ·unfold PyData.hasDict; exact r.nd
 ·unfold PyData.depth; omega
 ·unfold PyData.leavesShort; exact r.ls
 ·unfold PyData.weight; exact r.wt
 ·unfold PyData.depth; omega
theorem Fit.mono {B B':Nat} {d:PyData} (f:Fit B d) (h:B≤B') : Fit B' d:=⟨f.sh,f.nd,f.dp,f.ls,Nat.le_trans f.wt h⟩
end L2
namespace L2
open PySem PySem.Spec PyProof.Rows
def Sm (x:Str) : Prop:=∀ c∈x.cps.toList,c<16 ^ 8
end L2
namespace L2
open PySem PySem.Spec PyProof.Rows
def Lone (h:Heap) (e:Addr) : Prop:=∃ o vs,h.get? e=some o∧o.data=.fields vs∧vs[2]?=some .none
end L2
namespace L2
open PySem PySem.Spec PyProof.Rows
structure Fly (P:Program) (w:World) (fr:List Env) (H:Hp) (h:Heap) (e:Addr) (cls a0:Value) (B:Heap) (H':Hp) (h':Heap) : Prop where
 un:Un (frs fr) [] H H' h h'
 hok:HOk P w H' h'
 fl:Heap.FlyingW B fr e cls a0 h'
 old : ∀ b o o',h.get? b=some o→b∉frs fr→h'.get? b=some o'→B.get? b=some o'
 trk : ∀ b u o',H' b=some u→h'.get? b=some o'→B.get? b=some o'
 frf : ∀ b∈frs fr,H' b=none
 lo:Lone h' e
def CX1 (P:Program) (w:World) : CXT:=fun fr H s E ev s'=>∃ (e:Addr) (cls a0:Value) (B:Heap) (H':Hp),ev=.ref e∧s'.os=s.os∧AllBare s'.gens∧Fly P w fr H s.heap e cls a0 B H' s'.heap∧E cls none H'
end L2
namespace L2
open PySem PySem.Spec PyProof.Rows PySem.W PySem.Builtin PySem.Builtin.ObjectAttr PySem.Builtin.Getset_descriptor
structure ExcI (K:Frag) (C:Addr) : Prop where
 ga:findIn K (.ref C) "__getattribute__" = some (some (.builtin "BaseException.__getattribute__"))
 gt:findIn K (.ref C) "__getattr__" = some none
 fd:findIn K (.ref C) "__class__" = some (some (.builtin "object.__class__"))
 sp:specialIn K (.builtin "object.__class__") "__get__" = some (some (.builtin "getset_descriptor.__get__"))
 tk:takesIn K (.builtin "object.__class__")=some true
 mo:mroIn K C (.type "object")=some true
 mb:mroIn K C (.type "BaseException")=some true
 cl:(clsIn K C).isSome=true
end L2
namespace L2
open PySem PySem.Spec PyProof.Rows PySem.W
structure ExcM (K:Frag) (C D:Addr) (b:Bool) : Prop where
 ty:typeIn K (.ref D)=some (.type "type")
 cd:(clsIn K D).isSome=true
 mb:mroIn K D (.type "BaseException")=some true
 mc:mroIn K C (.ref D)=some b
abbrev TH:=Ends→St→Value→Addr→Hp→Prop
end L2
namespace L2
open PySem PySem.Spec PyProof.Rows
structure RoomH (k:Nat) (A:Around) : Prop where
 gd:A.guards=some []
 dp:A.depth+3 * k+5<recursionLimit
 un:A.units+16 * k+200<cLine
structure FnOkH (P:Program) (w:World) (K:PySem.W.Frag) (mg:Str→Option Value) (base:Heap) (k:Nat) (f:Addr) (fd:FuncData) (ps:List Str) (sp:Sp) : Prop where
 len : ∀ vs H Q E,sp vs H Q E→vs.length=ps.length
 run : ∀ (A:Around) (outer:List Env) (s:Shared) (H:Hp) (args:Args) (us:List Value) (vs:List V) (Q:VK) (E:XK),RoomH k A→Env0 P w K mg base A outer s H→BindsTo s fd args (ps.zip us)→Vals vs us→sp vs H Q E →
  codeAny (model P w) A (.call (.ref f) args) (CR CX0 outer P w H s Q E) s
structure FnAtH (P:Program) (w:World) (K:PySem.W.Frag) (mg:Str→Option Value) (base:Heap) (x:Str) (k:Nat) (ps:List Str) (sp:Sp) : Prop where
 ex : ∃ (f:Addr) (fd:FuncData),FnOkH P w K mg base k f fd ps sp∧mg x=some (.ref f)∧PySem.W.keepIn K (.ref f)=true∧Binds K fd ps []
structure FnAtX (P:Program) (w:World) (K:PySem.W.Frag) (mg:Str→Option Value) (base:Heap) (x:Str) (k:Nat) (ps:List Str) (sp:Sp) : Prop where
 ex : ∃ (f:Addr) (fd:FuncData),FnOk P w K mg base (CX1 P w) k f fd ps sp∧mg x=some (.ref f)∧PySem.W.keepIn K (.ref f)=true∧Binds K fd ps []
end L2
namespace L2
open PySem PySem.Spec PyProof.Rows PySem.SeqAt
theorem st_con {c k p es env} : starEach (.Constant c k p :: es) env=(false,eval (.Constant c k p) env) :: starEach es env:=rfl
theorem st_name {x p es env} : starEach (.Name x p :: es) env=(false,eval (.Name x p) env) :: starEach es env:=rfl
theorem st_bin {a o b p es env} : starEach (.BinOp a o b p :: es) env=(false,eval (.BinOp a o b p) env) :: starEach es env:=rfl
theorem st_un {o b p es env} : starEach (.UnaryOp o b p :: es) env=(false,eval (.UnaryOp o b p) env) :: starEach es env:=rfl
theorem st_call {f a k p es env} : starEach (.Call f a k p :: es) env=(false,eval (.Call f a k p) env) :: starEach es env:=rfl
theorem st_sub {a b p es env} : starEach (.Subscript a b p :: es) env=(false,eval (.Subscript a b p) env) :: starEach es env:=rfl
theorem st_list {a p es env} : starEach (.List a p :: es) env=(false,eval (.List a p) env) :: starEach es env:=rfl
def conV:Expr→Option V
 | .Constant (.int i) _ _=>some (.int i)
 | .Constant (.str s) _ _=>some (.str s)
 | _=>none
def consV:List Expr→Option (List V)
 | []=>some []
 | e :: es=>match conV e,consV es with
  | some v,some vs=>some (v :: vs)
  | _,_=>none
def tConsts (vs:List V) : TA:=fun _ H Q=>Q vs H
theorem pa_consts {X:Cx} : ∀ (es:List Expr) (vs:List V),consV es=some vs→PA X es (tConsts vs)
 | [],vs,h=>by cases h; exact pa_nil
 | e :: es,vs,h=>by
  unfold consV at h
  cases h1:conV e with
  | none=>rw [h1] at h; cases h
  | some v =>
   cases h2:consV es with
   | none=>rw [h1,h2] at h; cases h
   | some ws =>
    rw [h1,h2] at h
    cases h
    have ih:=pa_consts (X:=X) es ws h2
    unfold conV at h1
    split at h1
    ·cases h1
     exact pa_cons pe_int ih st_con
    ·cases h1
     exact pa_cons pe_str ih st_con
    ·cases h1
end L2
namespace Sw
open PySem L2
def top (i:Nat) : Stmt:=PySem.Challenge.pw_swapstars_k67_papers_of_chains.main.body.getD i (.Pass ⟨0,0,0,0⟩)
structure Purse (H:Hp) (p:Addr) (c:Nat) : Prop where
 ex : ∃ (a b d:Int),H p=some (.lst [.int a,.int b,.int d])∧0≤a∧0≤b∧b<2147483647∧0≤d∧d≤c∧c≤100000
section
variable {P:Program} {w:World} {K:PySem.W.Frag} {mg:Str→Option Value} {base:Heap}
structure TPurse (mg:Str→Option Value) : Prop where
 b_len:mg "len" = none
 b_abs:mg "abs" = none
 b_int:mg "int" = none
end
end Sw
namespace L2
open PySem
theorem call_list_ofK {X:Cx} {K:PySem.W.Frag} (h:X.K=K) : CallR X (.type "list") (fun xs H Q=>∃ p ys,xs=[.ref p]∧(SqL K H p ys∨SqT K H p ys)∧∀ l,H l=none→Q (.ref l) (upd H l (.lst ys))):=by subst h; exact call_list_of
theorem call_tuple_ofK {X:Cx} {K:PySem.W.Frag} (h:X.K=K) : CallR X (.type "tuple") (fun xs H Q=>∃ p ys,xs=[.ref p]∧((SqL K H p ys∧∀ l,H l=none→Q (.ref l) (upd H l (.tup ys)))∨(SqT K H p ys∧Q (.ref p) H))):=by subst h; exact call_tuple_of
end L2
namespace Sw
open PySem L2
structure T1 (mg:Str→Option Value) (K:PySem.W.Frag) : Prop extends TPurse mg where
 b_all:mg "all" = none
 b_isinstance:mg "isinstance" = none
 b_bool:mg "bool" = none
 b_tuple:mg "tuple" = none
 b_list:mg "list" = none
 b_range:mg "range" = none
 k_ib:PySem.W.kitOne K (.type "int") (.type "bool")=some false
theorem take_succ_map {α β : Type} (f : α→β) {l:List α} {i:Nat} {x : α} (h:l[i]?=some x) : (l.take (i+1)).map f=(l.take i).map f++[f x]:=by
 rw [List.take_succ,h,List.map_append]; rfl
theorem eraseIdx_map {ls:List Int} : ∀ {k:Nat},(ls.map V.int).eraseIdx k=(ls.eraseIdx k).map V.int:=by
 induction ls with
 | nil=>intro k; rfl
 | cons a t ih =>
  intro k
  cases k with
  | zero=>rfl
  | succ k =>
   rw [List.map_cons,List.eraseIdx_cons_succ,List.eraseIdx_cons_succ,List.map_cons,ih]
theorem mem_int {ns:List Int} {i:Nat} {x:V} (h:(ns.map V.int)[i]?=some x) : ∃ z,x=.int z∧ns[i]?=some z:=by
 rw [List.getElem?_map] at h
 cases e:ns[i]? with
 | none=>rw [e] at h; cases h
 | some z=>rw [e] at h; exact ⟨z,(Option.some.inj h).symm,rfl⟩
theorem at_int {ns:List Int} {i:Int} {z:Int} (h0 : 0≤i) (h:ns[i.toNat]?=some z) : atI (ns.map V.int) i=some (V.int z):=by
 have e:((i.toNat:Nat) : Int)=i:=Int.toNat_of_nonneg h0
 rw [← e]
 exact atI_nat (by rw [List.getElem?_map,h]; rfl)
theorem get_lt {ns:List Int} {k:Nat} (h:k<ns.length) : ∃ z,ns[k]?=some z:=⟨_,List.getElem?_eq_getElem h⟩
theorem ixN_lt {n:Nat} {i:Int} (h0 : 0≤i) (h:i<n) : ixN n i=some i.toNat:=by
 unfold ixN
 rw [if_pos h0,if_pos h]
theorem map_get {ns:List Int} {k:Nat} {z:Int} (h:ns[k]?=some z) : (ns.map V.int)[k]?=some (V.int z):=by rw [List.getElem?_map,h]; rfl
inductive Lsts (H:Hp) : List V→List (List Int)→Prop
 | nil:Lsts H [] []
 | cons {a:Addr} {ns:List Int} {vs:List V} {r:List (List Int)} : H a=some (.lst (ns.map V.int))→Lsts H vs r→Lsts H (.ref a :: vs) (ns :: r)
theorem Lsts.length {H:Hp} : ∀ {vs:List V} {r:List (List Int)},Lsts H vs r→vs.length=r.length
 | _,_,.nil=>rfl
 | _,_,.cons _ x=>by rw [List.length_cons,List.length_cons,x.length]
theorem Lsts.keep {H H':Hp} (k:Same H H') : ∀ {vs:List V} {r:List (List Int)},Lsts H vs r→Lsts H' vs r
 | _,_,.nil=>.nil
 | _,_,.cons h x=>.cons (k _ _ h) (x.keep k)
theorem Lsts.append {H:Hp} : ∀ {vs ws:List V} {r q:List (List Int)},Lsts H vs r→Lsts H ws q→Lsts H (vs++ws) (r++q)
 | _,_,_,_,.nil,y=>y
 | _,_,_,_,.cons h x,y=>.cons h (x.append y)
theorem Lsts.snoc {H:Hp} {vs:List V} {r:List (List Int)} {a:Addr} {ns:List Int} (x:Lsts H vs r) (h:H a=some (.lst (ns.map V.int))) : Lsts H (vs++[.ref a]) (r++[ns]):=x.append (.cons h .nil)
theorem Lsts.get {H:Hp} : ∀ {vs:List V} {r:List (List Int)} {i:Nat} {x:V},Lsts H vs r→vs[i]?=some x→∃ a ns,x=.ref a∧H a=some (.lst (ns.map V.int))∧r[i]?=some ns
 | _,_,_,_,.nil,e=>by simp at e
 | _,_,0,_,.cons h x,e=>by simp at e; subst e; exact ⟨_,_,rfl,h,rfl⟩
 | _,_,i+1,_,.cons h x,e=>by
  obtain ⟨t,a,e1,e2,e3⟩:=x.get (i:=i) (by simpa using e)
  exact ⟨t,a,e1,e2,by simpa using e3⟩
theorem Lsts.mem {H:Hp} {vs:List V} {r:List (List Int)} (x:Lsts H vs r) {a:Addr} (h:V.ref a∈vs) : ∃ ns,H a=some (.lst ns):=by
 obtain ⟨i,hi,e⟩:=List.mem_iff_getElem.mp h
 obtain ⟨b,ns,e1,e2,_⟩:=x.get (i:=i) (by rw [List.getElem?_eq_getElem hi,e])
 cases e1
 exact ⟨_,e2⟩
theorem Lsts.off {H:Hp} {a:Addr} {o:HO} : ∀ {vs:List V} {r:List (List Int)},Lsts H vs r→V.ref a∉vs→Lsts (upd H a o) vs r
 | _,_,.nil,_=>.nil
 | _,_,.cons (a:=b) h x,n=>by
  refine .cons ?_ (x.off fun z=>n (List.mem_cons_of_mem _ z))
  rw [upd_ne (by intro z; subst z; exact n List.mem_cons_self)]
  exact h
def Fresh (H:Hp) (vs:List V) : Prop:=vs.Nodup∧∀ v∈vs,∃ a,v=.ref a∧H a=none
theorem Fresh.nil {H:Hp} : Fresh H []:=⟨List.nodup_nil,fun v h=>by cases h⟩
theorem Fresh.snoc {H H':Hp} {vs:List V} {r:List (List Int)} {a:Addr} (f:Fresh H vs) (x:Lsts H' vs r) (h':H' a=none) (h:H a=none) : Fresh H (vs++[.ref a]):=by
 refine ⟨List.nodup_append.mpr ⟨f.1,by simp,?_⟩,fun v hv=>?_⟩
 ·intro y hy z hz e
  rw [List.mem_singleton.mp hz] at e
  subst e
  obtain ⟨ns,e⟩:=x.mem hy
  rw [h'] at e
  cases e
 ·rcases List.mem_append.mp hv with z | z
  ·exact f.2 v z
  ·exact ⟨a,List.mem_singleton.mp z,h⟩
theorem iteP {A B:Prop} {b:Bool} (h:b=true) (x:A) : if b=true then A else B:=by rw [if_pos h]; exact x
theorem iteE {A B:Prop} {b:Bool} (h:b=false) (x:B) : if b=true then A else B:=by rw [h,if_neg Bool.false_ne_true]; exact x
theorem Lsts.dat {K:PySem.W.Frag} {H:Hp} : ∀ {vs:List V} {r:List (List Int)},Lsts H vs r→DatAll K H (fun _=>True) vs (r.map fun p=>.list (p.map PyData.int))
 | _,_,.nil=>.nil
 | _,_,.cons h x=>.cons (.lst (SqL.of h) True.intro (ints_dat _)) x.dat
theorem eqLL {K:PySem.W.Frag} {H:Hp} {l m:Addr} {vs ws:List V} {r q:List (List Int)} {Q:VK} (h1:H l=some (.lst vs)) (x1:Lsts H vs r) (h2:H m=some (.lst ws)) (x2:Lsts H ws q) (hq:Q (.bl (!decide (r=q))) H) : rNeD K (.ref l) (.ref m) H Q:=by
 refine ⟨fun _=>True,.list (r.map fun p=>PyData.list (p.map PyData.int)),.list (q.map fun p=>PyData.list (p.map PyData.int)),.lst (SqL.of h1) True.intro x1.dat,.lst (SqL.of h2) True.intro x2.dat,?_,?_,?_,?_⟩
 ·unfold PyData.canLay0; exact lay_ll r
 ·unfold PyData.canLay0; exact lay_ll q
 ·unfold PyData.depth; have:=depth_ll r; omega
 ·have e:PyData.eqv (.list (r.map fun p=>PyData.list (p.map PyData.int))) (.list (q.map fun p=>PyData.list (p.map PyData.int)))=decide (r=q):=by unfold PyData.eqv; exact eqv_ll r q
  rw [e]; exact hq
theorem Lsts.eraseIdx {H:Hp} : ∀ {vs:List V} {r:List (List Int)} (k:Nat),Lsts H vs r→Lsts H (vs.eraseIdx k) (r.eraseIdx k)
 | _,_,_,.nil=>.nil
 | _,_,0,.cons h x=>x
 | _,_,k+1,.cons h x=>.cons h (x.eraseIdx k)
def spLaw (K:PySem.W.Frag) : Sp:=fun vs H Q _=>∃ (a:Addr) (ns:List Int),vs=[.ref a]∧SqL K H a (ns.map V.int)∧ns.length≤63∧∀ H',Q (.bl true) H'
theorem add_at {x y z:Int} {H:Hp} {Q:VK} (h:x+y=z) (q:Q (.int z) H) : rI0 (fun i j=>.int (i+j)) (.int x) (.int y) H Q:=by subst h; exact ⟨_,_,rfl,rfl,q⟩
theorem Same.put {l:Addr} {H H':Hp} {o:HO} (s:Same H H') (h:H l=none) : Same H (upd H' l o):=fun b o' e=>by
 rw [upd_ne (ne_of_none e h)]
 exact s b o' e
end Sw
namespace Sw
open PySem L2
def isw:PyData→Bool
 | .int _=>true
 | _=>false
def btw (lo hi:Int) : PyData→Bool
 | .int i=>decide (lo≤i∧i≤hi)
 | _=>false
def spIwD:Sp:=fun vs H Q _=>∃ (v:V) (P:Addr→Prop) (d:PyData),vs=[v]∧DT H P v d∧Q (.bl (isw d)) H
def spBtD:Sp:=fun vs H Q _=>∃ (v:V) (P:Addr→Prop) (d:PyData) (lo hi:Int),vs=[v,.int lo,.int hi]∧DT H P v d∧Q (.bl (btw lo hi d)) H
theorem DT.same {H H':Hp} {P:Addr→Prop} {v:V} {d:PyData} (h:DT H P v d) (s:Same H H') : DT H' P v d:=h.keep fun b o _ e=>s b o e
theorem DTs.same {H H':Hp} {P:Addr→Prop} {v:List V} {d:List PyData} (h:DTs H P v d) (s:Same H H') : DTs H' P v d:=h.keep fun b o _ e=>s b o e
theorem all_take {α : Type} {q : α→Bool} {l:List α} {i:Nat} {x : α} (h:l[i]?=some x) : (l.take (i+1)).map q=(l.take i).map q++[q x]:=by
 rw [List.take_succ,h,List.map_append]; rfl
structure TD (P:Program) (w:World) (K:PySem.W.Frag) (mg:Str→Option Value) (base:Heap) : Prop extends T1 mg K where
 f_is_whole:FnAt P w K mg base "is_whole" 1 ["thing"] spIwD
structure TD2 (P:Program) (w:World) (K:PySem.W.Frag) (mg:Str→Option Value) (base:Heap) : Prop extends T1 mg K where
 f_is_between:FnAt P w K mg base "is_between" 2 ["thing", "low", "high"] spBtD
end Sw
namespace Sw
open PySem L2
def relab (f:Int→Int) (e:Int × Int) : Int→Int:=fun x=>if f x=f e.2 then f e.1 else f x
def labs (row:List (Int × Int)) : Int→Int:=row.foldl relab id
def addC (f:Int→Int) (acc:List (Int × List Int)) (x:Int) : List (Int × List Int) :=
 if f x∈acc.map (·.1) then acc.map (fun p=>if p.1=f x then (p.1,p.2++[x]) else p) else acc++[(f x,[x])]
def grp (f:Int→Int) (L:List Int) : List (Int × List Int):=L.foldl (addC f) []
def partsM (n:Int) (row:List (Int × Int)) : List (List Int):=(grp (labs row) (ivl 1 (n+1))).map (·.2)
section
variable {f:Int→Int} {acc:List (Int × List Int)} {x k:Int} {ms:List Int} {j:Nat}
structure Grp (f:Int→Int) (L:List Int) (acc:List (Int × List Int)) : Prop where
 nd:(acc.map (·.1)).Nodup
 mem : ∀ p∈acc,p.2=L.filter (fun y=>decide (f y=p.1))∧p.2≠[]
 all : ∀ y∈L,f y∈acc.map (·.1)
theorem Grp.nil:Grp f [] []:=⟨List.nodup_nil,fun p hp=>(by cases hp),fun y hy=>(by cases hy)⟩
end
end Sw
namespace Sw
open PySem L2
section
variable {n:Int} {xs:List Int} {a b:Int}
def np (n:Int) (row:List (Int × Int)) : Nat:=(partsM n row).length
end
end Sw
namespace Sw
open PySem L2
def Seat (tk:List Int) (c p:Int) : Prop:=c≤p∧p∉tk∧∀ q,c≤q→q<p→q∈tk
def Plc (cs ps:List Int) : Prop:=ps.length=cs.length∧∀ (i:Nat) (c p:Int),cs[i]?=some c→ps[i]?=some p→Seat (ps.take i) c p
theorem Plc.nil:Plc [] []:=⟨rfl,fun i c p h=>by simp at h⟩
end Sw
namespace Sw
open PySem L2
structure Nice (k:Nat) (d:PyData) : Prop where
 lay:d.canLay0=true
 dp:d.depth≤k
theorem Nice.mono {k m:Nat} {d:PyData} (h:Nice k d) (l:k≤m) : Nice m d:=⟨h.lay,Nat.le_trans h.dp l⟩
theorem nice_int {k:Nat} (i:Int) : Nice k (.int i):=⟨rfl,by unfold PyData.depth; omega⟩
theorem nice_bool {k:Nat} (b:Bool) : Nice k (.bool b):=⟨rfl,by unfold PyData.depth; omega⟩
theorem nice_none {k:Nat} : Nice k .none:=⟨rfl,by unfold PyData.depth; omega⟩
theorem nice_str {k:Nat} {x:Str} (h:PyData.strOk x=true) : Nice k (.str x):=⟨h,by unfold PyData.depth; omega⟩
theorem nice_all {k:Nat} : ∀ {ds:List PyData},(∀ d∈ds,Nice k d)→PyData.canLayAll0 ds=true∧PyData.depthAll ds≤k
 | [],_=>⟨rfl,by unfold PyData.depthAll; omega⟩
 | d :: ds,h=>by
  obtain ⟨h1,h2⟩:=nice_all fun e he=>h e (List.mem_cons_of_mem _ he)
  have h0:=h d List.mem_cons_self
  refine ⟨?_,?_⟩
  ·unfold PyData.canLayAll0; rw [h1,h0.lay]; rfl
  ·unfold PyData.depthAll
   have:=h0.dp
   omega
theorem nice_list {k:Nat} {ds:List PyData} (h : ∀ d∈ds,Nice k d) : Nice (k+1) (.list ds):=by
 obtain ⟨h1,h2⟩:=nice_all h
 exact ⟨by unfold PyData.canLay0; exact h1,by unfold PyData.depth; omega⟩
theorem nice_tuple {k:Nat} {ds:List PyData} (h : ∀ d∈ds,Nice k d) : Nice (k+1) (.tuple ds):=by
 obtain ⟨h1,h2⟩:=nice_all h
 exact ⟨by unfold PyData.canLay0; exact h1,by unfold PyData.depth; omega⟩
theorem nice_ints {k:Nat} (ns:List Int) : ∀ d∈ns.map PyData.int,Nice k d:=fun d hd=>by
 obtain ⟨x,_,rfl⟩:=List.mem_map.mp hd
 exact nice_int x
end Sw
namespace Sw
open PySem L2
def up (es:List Int) (p:Int) : Int:=if 0<p then es.getD (p - 1).toNat 0 else p
def ups (es:List Int) : Nat→Int→Int
 | 0,p=>p
 | k+1,p=>up es (ups es k p)
section
variable {es come:List Int} {p x y:Int}
structure Grown (es come:List Int) : Prop where
 z:come[0]?=some 0
 st : ∀ (j:Nat) (x:Int),1≤j→come[j]?=some x→1≤x∧∃ (m:Nat) (y:Int),m<j∧come[m]?=some y∧es.getD (x - 1).toNat 0=y
end
structure TreeM (n:Int) (es:List Int) : Prop where
 len:es.length=n.toNat
 ein : ∀ e∈es,0≤e∧e≤n
 home : ∀ p,1≤p→p≤n→ups es es.length p=0
end Sw
namespace Sw
open PySem L2
def grM (n:Int) : List Int:=(ivl 1 (n+1)).map fun x=>x % n+1
structure OneR (n:Int) (xs:List Int) : Prop where
 ord:Ord n xs
 pos : 1≤n
 all : ∀ x,1≤x→x≤n→x∈orb xs 1
def lab (f:Int→Int) (e:Int × Int) : Int × Int:=(min (f e.1) (f e.2),max (f e.1) (f e.2))
def Inj (n:Int) (f:Int→Int) : Prop:=∀ x y,1≤x→x≤n→1≤y→y≤n→f x=f y→x=y
def el (es:List Int) (i:Nat) : Int:=es.getD i 0
def tiesM (es:List Int) : List (Int × Int):=(List.range es.length).map fun i=>(min (el es i+1) ((i:Int)+2),max (el es i+1) ((i:Int)+2))
structure Tied (es:List Int) (f:Int→Int) (row:List (Int × Int)) : Prop where
 tree:TreeM es.length es
 one:f 1=1
 inj:Inj ((es.length:Int)+1) f
 rng : ∀ x,1≤x→x≤(es.length:Int)+1→1≤f x∧f x≤(es.length:Int)+1
 row:row=(tiesM es).map (lab f)
inductive Grow (row:List (Int × Int)) : List (Int × Int)→Prop
 | base:Grow row [(1,0)]
 | step {L:List (Int × Int)} {x y j:Int} {i:Nat} {e:Int × Int} : Grow row L→(y,j)∈L→row[i]?=some e→(e=(x,y)∨e=(y,x))→x∉L.map (·.1)→Grow row (L++[(x,(i:Int)+1)])
end Sw
namespace Sw
open PySem L2
def plc (L:List (Int × Int)) (x:Int) : Int:=((L.find? fun p=>decide (p.1=x)).getD (0,0)).2
end Sw
namespace Sw
open PySem L2
def cn (A M:List Int) : Nat:=(M.map fun x=>A.count x).sum
structure PK (A L:List Int) : Prop where
 all:cn A L+1=L.length
 some_ : ∀ j,1≤j→j<L.length→j≤cn A (L.take j)
def Nx (L:List Int) (x y:Int) : Prop:=∃ i,L[i]?=some x∧(L[i+1]?=some y∨(i+1=L.length∧L[0]?=some y))
structure Cut (n:Int) (A:List Int) (Ls:List (List Int)) (suf:List (Int × Int)) : Prop where
 uniq : ∀ L1∈Ls,∀ L2∈Ls,∀ x,x∈L1→x∈L2→L1=L2
 cov : ∀ x,1≤x→x≤n→∃ L∈Ls,x∈L
 inn : ∀ L∈Ls,∀ x∈L,1≤x∧x≤n
 rise : ∀ L∈Ls,L.Pairwise (· < ·)
 pk : ∀ L∈Ls,PK A L
 nx : ∀ L∈Ls,∀ x y,Nx L x y→go suf y=x % n+1
end Sw
namespace Sw
open PySem L2
theorem sIx_in {n m:Nat} {a:Int} (h0 : 0≤a) : HT.sIx n m (some a)=min a.toNat n:=by
 show (if a<0 then (a+(n:Int)).toNat else min a.toNat n)=_
 rw [if_neg (by omega)]
theorem cutT9 {xs:List V} {a:Int} (h0 : 0≤a) (h:a≤xs.length) : cutV xs none (some a)=xs.take a.toNat:=by
 have e:HT.sIx xs.length 0 none=0:=rfl
 unfold cutV
 rw [e,sIx_in h0,List.drop_zero,Nat.sub_zero,Nat.min_eq_left (by omega)]
theorem cutD9 {xs:List V} {a:Int} (h0 : 0≤a) (h:a≤xs.length) : cutV xs (some a) none=xs.drop a.toNat:=by
 have e2:HT.sIx xs.length xs.length none=xs.length:=rfl
 unfold cutV
 rw [sIx_in h0,e2,Nat.min_eq_left (by omega),List.take_of_length_le (by rw [List.length_drop]; exact Nat.le_refl _)]
end Sw
namespace Sw
open PySem L2
def NonX (Ls:List (List Int)) : Prop:=∀ L∈Ls,∀ M∈Ls,∀ a b c d,a∈L→c∈L→b∈M→d∈M→a<b→b<c→c<d→L=M
end Sw
namespace Sw
open PySem L2
def Fine (n:Int) (rs:List (List Int)) : Prop:=(∀ r∈rs,r≠[]∧∀ x∈r,1≤x∧x≤n)∧rs.flatten.Nodup
instance {n:Int} {rs:List (List Int)} : Decidable (Fine n rs):=by unfold Fine; infer_instance
def nx:List (List Int)→Int→Int
 | [],x=>x
 | r :: rs,x=>if x∈r then nxt r x else nx rs x
def madeM (n:Int) (rs:List (List Int)) : List Int:=(ivl 1 (n+1)).map (nx rs)
theorem nx_out : ∀ {rs:List (List Int)} {x:Int},x∉rs.flatten→nx rs x=x
 | [],_,_=>rfl
 | r :: rs,x,h=>by
  rw [List.flatten_cons,List.mem_append,not_or] at h
  show (if x∈r then nxt r x else nx rs x)=x
  rw [if_neg h.1,nx_out h.2]
theorem nx_at : ∀ {rs:List (List Int)} {r:List Int} {j:Nat} {x:Int},rs.flatten.Nodup→r∈rs→r[j]?=some x→nx rs x=r.getD ((j+1) % r.length) 0
 | [],_,_,_,_,h,_=>by cases h
 | a :: rs,r,j,x,nd,h,hj=>by
  rw [List.flatten_cons,List.nodup_append] at nd
  obtain ⟨na,nr,dis⟩:=nd
  show (if x∈a then nxt a x else nx rs x)=_
  rcases List.mem_cons.mp h with rfl | h
  ·rw [if_pos (List.mem_of_getElem? hj),nxt_at na hj]
  ·have:x∉a:=fun z=>dis x z x (List.mem_flatten.mpr ⟨r,h,List.mem_of_getElem? hj⟩) rfl
   rw [if_neg this,nx_at nr h hj]
theorem madeM_length (n:Int) (rs:List (List Int)) : (madeM n rs).length=n.toNat:=by
 unfold madeM
 rw [List.length_map,ivl_length]
 omega
theorem ld_made {n:Int} {rs:List (List Int)} {x:Int} (h1 : 1≤x) (h2:x≤n) : ld (madeM n rs) x=nx rs x:=by
 unfold ld madeM
 rw [List.getD_eq_getElem?_getD,List.getElem?_map,get_ivl (by omega)]
 show nx rs (1+((x - 1).toNat:Int))=nx rs x
 congr 1
 omega
theorem fine_rnds {n:Int} {rs:List (List Int)} (f:Fine n rs) : Rnds n (madeM n rs) rs:=by
 refine ⟨fun r hr=>⟨(f.1 r hr).1,fun j x hx=>?_⟩,f.2,fun x h1 h2 hx=>by rw [ld_made h1 h2,nx_out hx]⟩
 have b:=(f.1 r hr).2 x (List.mem_of_getElem? hx)
 refine ⟨b.1,b.2,?_⟩
 rw [ld_made b.1 b.2,nx_at f.2 hr hx,List.getD_eq_getElem?_getD]
 have:(j+1) % r.length<r.length:=Nat.mod_lt _ (List.length_pos_iff.mpr (f.1 r hr).1)
 rw [List.getElem?_eq_getElem this]
 rfl
section
variable {n:Int} {rs:List (List Int)} {r:List Int} {i j:Nat} {z:Int}
theorem take_snoc {α : Type} {l:List α} {i:Nat} {x : α} (h:l[i]?=some x) : l.take (i+1)=l.take i++[x]:=by rw [List.take_succ,h]; rfl
end
end Sw
namespace L2
open PySem PySem.Spec PyProof.Rows PySem.SeqAt
inductive TxtEs (pr:Params) : List DictEntry→List (Str × Str)→Prop
 | nil:TxtEs pr [] []
 | cons {x y:Str} {t u:Tok} {es:List DictEntry} {ps:List (Str × Str)} : TxtEs pr es ps→TxtEs pr ({ hash:=PyData.keyHash pr x,key:=.str x t,val:=.str y u } :: es) ((x,y) :: ps)
structure KTxt (K:PySem.W.Frag) (pr:Params) (a:Addr) (ps:List (Str × Str)) : Prop where
 sys:(a == sysModules)=false
 nd:(ps.map (·.1)).Nodup
 ex : ∃ (es:List DictEntry) (ep:Nat),K.lookup a=some { cls:=.type "dict", data:=.dict es.toArray ep }∧TxtEs pr es ps
end L2
namespace L2
open PySem PySem.Spec PyProof.Rows
section
variable {prog:Program} {w:World} {A:Around} {R:Result→Shared→Prop} {s:Shared}
theorem compStart1 {elt t1 i1 t2 i2:Expr} {scope:Scope} {pos:Pos} {it acc:Value} {env:Env}
  (h1:codeAny (model prog w) A (.compLoop (.ListComp elt [⟨t1,i1,[],0⟩,⟨t2,i2,[],0⟩] scope pos) 1 it acc env) R s)
  (h2:wpAny (model prog w) A (pyIter it) (fun it' s'=>codeAny (model prog w) A (.compLoop (.ListComp elt [⟨t1,i1,[],0⟩,⟨t2,i2,[],0⟩] scope pos) 1 it' acc env) R s') (fun _ _=>False) s) :
  codeAny (model prog w) A (.compStart (.ListComp elt [⟨t1,i1,[],0⟩,⟨t2,i2,[],0⟩] scope pos) 1 it acc env) R s:=by
 refine codeAny_of_tree ?_
 show wpAny _ A ((compStart (.ListComp elt [⟨t1,i1,[],0⟩,⟨t2,i2,[],0⟩] scope pos) 1 it acc env).onRaise (fun x=>do noteFrame x env; standAt theWindowsPlace)) _ _ s
 refine wpAny_onRaise ?_
 show wpAny _ A (ask >>= fun st=>if st.params.followText "comprehension-iter-twice" = true then again (.compLoop (.ListComp elt [⟨t1,i1,[],0⟩,⟨t2,i2,[],0⟩] scope pos) 1 it acc env) else do
  rule "comprehension.iter-twice"
  standAt i2.pos
  let it' ← pyIter it
  again (.compLoop (.ListComp elt [⟨t1,i1,[],0⟩,⟨t2,i2,[],0⟩] scope pos) 1 it' acc env)) _ _ s
 refine wpAny_bind (wpAny_askSetting ?_)
 split
 ·exact wpAny_pure ⟨rfl,h1⟩
 ·refine wpAny_bind (wpAny_rule (wpAny_bind (wpAny_standAt (wpAny_bind (wpAny_mono h2 (fun it' s' h'=>?_) fun _ _ z=>z.elim)))))
  exact wpAny_pure ⟨rfl,h'⟩
theorem compLoop1_any {elt t1 i1 t2 i2:Expr} {scope:Scope} {pos:Pos} {it acc:Value} {env:Env} (I:Nat→Shared→Prop)
  (turn : ∀ n s,I n s→wpAny (model prog w) A (pyNext it) (fun r s₁=>match r with
   | none=>R (.ok .next) s₁
   | some v=>wpAny (model prog w) A (letOwnedTupleGo t2 it v) (fun _ s₁=>wpAny (model prog w) A (assign t2 env v) (fun _ s₂ =>
     wpAny (model prog w) A (eval elt env) (fun x s₄ =>
      wpAny (model prog w) A (call (.builtin "list.append") [acc,x]) (fun _ s₅=>∃ m,m<n∧I m s₅) (fun _ _=>False) s₄) (fun _ _=>False) s₂) (fun _ _=>False) s₁) (fun _ _=>False) s₁) (fun _ _=>False) s)
  (n:Nat) (h:I n s) :
  codeAny (model prog w) A (.compLoop (.ListComp elt [⟨t1,i1,[],0⟩,⟨t2,i2,[],0⟩] scope pos) 1 it acc env) R s:=by
 refine codeAny_loop rfl I (fun n s hI=>?_) n h
 show wpAny _ A ((compTurn (.ListComp elt [⟨t1,i1,[],0⟩,⟨t2,i2,[],0⟩] scope pos) 1 it acc env).onRaise (fun x=>do noteFrame x env; theTreesLotGoes x)) _ _ s
 refine wpAny_noted ?_
 show wpAny _ A (do
  standAt i2.pos
  let r ← pyNext it
  match r with
  | none=>pure (Fin.done Flow.next)
  | some v=>do
   letOwnedTupleGo t2 it v
   assign t2 env v
   let ok ← forIn ([] : List Expr) true fun c r=>if r=true then do let ok ← isTrue c env (eval c env); pure (ForInStep.yield ok) else pure (ForInStep.yield r)
   if ok=true then do
    let _ ← (do
     let x ← eval elt env
     let _ ← call (.builtin "list.append") [acc,x]
     pure ())
    again (.compLoop (.ListComp elt [⟨t1,i1,[],0⟩,⟨t2,i2,[],0⟩] scope pos) 1 it acc env)
   else again (.compLoop (.ListComp elt [⟨t1,i1,[],0⟩,⟨t2,i2,[],0⟩] scope pos) 1 it acc env)) _ _ s
 refine wpAny_bind (wpAny_standAt (wpAny_bind (wpAny_mono (turn n s hI) (fun r s₁ h₁=>?_) fun _ _ h'=>h'.elim)))
 cases r with
 | none=>exact wpAny_pure h₁
 | some v =>
  refine wpAny_bind (wpAny_mono h₁ (fun _ s₁ h₁=>?_) fun _ _ h'=>h'.elim)
  refine wpAny_bind (wpAny_mono h₁ (fun _ s₂ h₂=>wpAny_bind (wpAny_tests_nil ?_)) fun _ _ h'=>h'.elim)
  rw [if_pos rfl]
  refine wpAny_bind (wpAny_bind (wpAny_mono h₂ (fun x s₄ h₄=>wpAny_bind (wpAny_mono h₄ (fun _ s₅ h₅=>?_) fun _ _ h'=>h'.elim)) fun _ _ h'=>h'.elim))
  exact wpAny_pure (wpAny_pure ⟨rfl,h₅⟩)
theorem compLoop0_any {elt t1 i1 t2 i2:Expr} {scope:Scope} {pos:Pos} {it acc:Value} {env:Env} (hs : ∀ x,foldedSetIterable i2 env x=pure x) (I:Nat→Shared→Prop)
  (turn : ∀ n s,I n s→wpAny (model prog w) A (pyNext it) (fun r s₁=>match r with
   | none=>R (.ok .next) s₁
   | some v=>wpAny (model prog w) A (letOwnedTupleGo t1 it v) (fun _ s₁=>wpAny (model prog w) A (assign t1 env v) (fun _ s₂ =>
     wpAny (model prog w) A (eval i2 env) (fun x s₃=>wpAny (model prog w) A (pyIter x) (fun it2 s₄ =>
      codeAny (model prog w) A (.compStart (.ListComp elt [⟨t1,i1,[],0⟩,⟨t2,i2,[],0⟩] scope pos) 1 it2 acc env) (fun r s₅=>r=.ok .next∧∃ m,m<n∧I m s₅) s₄) (fun _ _=>False) s₃) (fun _ _=>False) s₂) (fun _ _=>False) s₁) (fun _ _=>False) s₁) (fun _ _=>False) s)
  (n:Nat) (h:I n s) :
  codeAny (model prog w) A (.compLoop (.ListComp elt [⟨t1,i1,[],0⟩,⟨t2,i2,[],0⟩] scope pos) 0 it acc env) R s:=by
 refine codeAny_loop rfl I (fun n s hI=>?_) n h
 show wpAny _ A ((compTurn (.ListComp elt [⟨t1,i1,[],0⟩,⟨t2,i2,[],0⟩] scope pos) 0 it acc env).onRaise (fun x=>do noteFrame x env; theTreesLotGoes x)) _ _ s
 refine wpAny_noted ?_
 show wpAny _ A (do
  standAt i1.pos
  let r ← pyNext it
  match r with
  | none=>pure (Fin.done Flow.next)
  | some v=>do
   letOwnedTupleGo t1 it v
   assign t1 env v
   let ok ← forIn ([] : List Expr) true fun c r=>if r=true then do let ok ← isTrue c env (eval c env); pure (ForInStep.yield ok) else pure (ForInStep.yield r)
   if ok=true then do
    let x ← eval i2 env
    standAt i2.pos
    let x ← foldedSetIterable i2 env x
    let it2 ← holding [x] (pyIter x)
    let _ ← runOwn (.compStart (.ListComp elt [⟨t1,i1,[],0⟩,⟨t2,i2,[],0⟩] scope pos) 1 it2 acc env) env
    again (.compLoop (.ListComp elt [⟨t1,i1,[],0⟩,⟨t2,i2,[],0⟩] scope pos) 0 it acc env)
   else again (.compLoop (.ListComp elt [⟨t1,i1,[],0⟩,⟨t2,i2,[],0⟩] scope pos) 0 it acc env)) _ _ s
 refine wpAny_bind (wpAny_standAt (wpAny_bind (wpAny_mono (turn n s hI) (fun r s₁ h₁=>?_) fun _ _ h'=>h'.elim)))
 cases r with
 | none=>exact wpAny_pure h₁
 | some v =>
  refine wpAny_bind (wpAny_mono h₁ (fun _ s₁ h₁=>?_) fun _ _ h'=>h'.elim)
  refine wpAny_bind (wpAny_mono h₁ (fun _ s₂ h₂=>wpAny_bind (wpAny_tests_nil ?_)) fun _ _ h'=>h'.elim)
  rw [if_pos rfl]
  refine wpAny_bind (wpAny_mono h₂ (fun x s₃ h₃=>wpAny_bind (wpAny_standAt (wpAny_bind (wpAny_of_eq (hs x) (wpAny_bind (wpAny_holding (wpAny_mono h₃ (fun it2 s₄ h₄=>?_) fun _ _ h'=>h'.elim))))))) fun _ _ h'=>h'.elim)
  refine wpAny_bind (wpAny_runOwn (codeAny_mono h₄ fun r s₅ h₅=>?_))
  obtain ⟨rfl,h₅⟩:=h₅
  exact wpAny_pure ⟨rfl,h₅⟩
end
end L2
namespace L2
open PySem PySem.Spec PyProof.Rows
def rComp2 (ix:List (Option Nat)) (g:TG) (wi2:TI) (g2:TG) (te:TE) (σ : St) (Q:VK) (J:It) (H1:Hp) : Prop :=
 ∃ W:WC,(∃ m,W 0 m [] (startC ix σ) H1)∧∀ i m ys σ' H',W i m ys σ' H' →
  (J.stop i H'∧ys.length≤sizeLine∧∀ p,H' p=none→Q (.ref p) (upd H' p (.lst ys))) ∨
  (J.go i H'∧∀ x H2,J.yld i H' x H2→g x σ' H2 fun σ2 H3=>wi2 σ2 H3 fun J2 H4 =>
   ∃ W2:WC,(∃ m2,W2 0 m2 ys σ2 H4)∧∀ j m2 ys' σ3 H5,W2 j m2 ys' σ3 H5 →
    (J2.stop j H5∧∃ m',m'<m∧W (i+1) m' ys' σ3 H5) ∨
    (J2.go j H5∧ys'.length<sizeLine∧∀ y H6,J2.yld j H5 y H6→g2 y σ3 H6 fun σ4 H7=>te σ4 H7 fun v H8=>∃ m3,m3<m2∧W2 (j+1) m3 (ys'++[v]) σ4 H8))
def tComp2 (ix:List (Option Nat)) (wi:TI) (g:TG) (wi2:TI) (g2:TG) (te:TE) : TE:=fun σ H Q=>wi σ H (rComp2 ix g wi2 g2 te σ Q)
section
variable {X:Cx} {scope:Scope} {N:List Str} {ix:List (Option Nat)} {elt tg iter tg2 iter2:Expr} {g g2:TG} {wi2:TI} {te:TE} {pos:Pos}
theorem comp_block2 {pins:List (Addr × Obj)} {σ : St} {s2:Shared} {Q:VK} {itv:Value} {RR:Value→Addr→Result→Shared→Prop} {E:Value→Shared→Prop} (c:CompOk X scope N ix) (hc:X.calm=true)
  (hg : ∀ C fp s H,PG (cxC X N scope C fp s H) tg g) (hi2 : ∀ C fp s H,PI (cxC X N scope C fp s H) tg2 iter2 wi2) (hg2 : ∀ C fp s H,PG (cxC X N scope C fp s H) tg2 g2) (he : ∀ C fp s H,PE (cxC X N scope C fp s H) elt te)
  (hs2 : ∀ C fp s H x,foldedSetIterable iter2 (cxC X N scope C fp s H).env x=pure x)
  (h2:PIE X pins σ tg (rComp2 ix g wi2 g2 te σ Q) itv s2)
  (hR : ∀ (D C:Addr) (s':Shared) (H':Hp) (m:Str→Option Value),Inv X pins σ H' s'→s'.heap.Ns C m→H' C=none→X.s₀.heap.objs.size≤C→(∀ p∈X.pn++pins,p.1≠C)→C≠X.env.locals→(∀ x c,X.env.cells.lookup x=some c→c≠C)→Q (.ref D) H'→RR (.ref D) C (.ok .next) s') :
  wpAny (model X.prog X.w) X.A (newList []) (fun acc s₃=>wpAny (model X.prog X.w) X.A (newFunctionEnv scope X.env.globals (closL X.env.cells scope.names []) [] X.env.qual none .none (some X.env)) (fun cenv s₄ =>
   codeAny (model X.prog X.w) X.A (.compStart (.ListComp elt [⟨tg,iter,[],0⟩,⟨tg2,iter2,[],0⟩] scope pos) 0 itv acc { cenv with scope:=relabel scope X.env }) (RR acc cenv.locals) s₄) E s₃) E s2:=by
 obtain ⟨it,fp,tn,J,H2,rfl,I2,T,st2,f2,W,⟨m0,w0⟩,turn⟩:=h2
 refine wpAny_newObj_type (wpAny_newFunctionEnv c.nocell (by intro y hy; simp at hy) (fun h₁ hns₁ hsb₁=>?_) c.kind)
 dsimp only at hns₁ hsb₁ ⊢
 generalize hH2:s2.heap.push { cls:=.type "list", dict:=none,data:=.seq ([] : List Value).toArray }=G2 at hns₁ hsb₁ ⊢
 have hCs:G2.objs.size=s2.heap.objs.size+1:=by rw [← hH2,Heap.size_push]
 generalize hCe:G2.objs.size=C at hns₁ hsb₁ hCs ⊢
 generalize hDe:s2.heap.objs.size=D at hCs ⊢
 have ltC : ∀ b,@LT.lt Nat _ b D→b≠C:=fun b hb=>Nat.ne_of_lt (by rw [hCs]; exact Nat.lt_succ_of_lt hb)
 have ltS : ∀ b o,s2.heap.get? b=some o→@LT.lt Nat _ b D:=fun b o e=>by rw [← hDe]; exact Heap.lt_size e
 have hDC:D≠C:=Nat.ne_of_lt (by rw [hCs]; exact Nat.lt_succ_self _)
 have old : ∀ b o,s2.heap.get? b=some o→h₁.get? b=some o:=fun b o e=>hsb₁.extBut b o (ltC b (ltS b o e)) (Heap.get?_push_of_some _ (hH2 ▸ Heap.get?_push_of_some _ e))
 have hoD:h₁.get? D=some { cls:=.type "list", dict:=none,data:=.seq ([] : List Value).toArray }:=by
  refine hsb₁.extBut _ _ hDC (Heap.get?_push_of_some _ ?_)
  rw [← hH2,← hDe]
  exact Heap.get?_push_size _ rfl
 have I4:Inv (cxC X N scope C fp s2 H2) (pins++[(D,{ cls:=.type "list", data:=.seq ([] : List Value).toArray })]) (startC ix σ) H2 { s2 with heap:=h₁,toks:=s2.toks+([] : List (Str × Value)).length } :=
  c.enter I2 f2 (T.obj _ _ st2) (by rw [hCs,hDe]) hDe.symm old hns₁ hoD fun v z=>by cases z
 have st4:tn 0 h₁:=T.keep _ _ _ st2 fun b _ o e=>old b o e
 have pinD : ∀ p∈X.pn++pins,p.1≠D:=fun p hp=>Nat.ne_of_lt (ltS _ _ (I2.pin p hp).1)
 have pinC : ∀ p∈X.pn++pins,p.1≠C:=fun p hp=>ltC _ (ltS _ _ (I2.pin p hp).1)
 have celD : ∀ x d,X.env.cells.lookup x=some d→@LT.lt Nat _ d D:=fun x d e=>by
  obtain ⟨v,o,ho,_⟩:=I2.cell x d e
  exact ltS d o ho
 have fpD : ∀ b∈fp,@LT.lt Nat _ b D:=fun b hb=>by
  obtain ⟨o,e,_⟩:=T.obj _ _ st2 b hb
  exact ltS b o e
 have sub : ∀ x d,(closL X.env.cells scope.names []).lookup x=some d→X.env.cells.lookup x=some d:=fun x d e=>by
  rcases closL_sub e with z | z
  ·simp at z
  ·exact z
 have stat : ∀ {H':Hp} {oD:Obj},(∀ b∈fp,H' b=none)→∀ b∈fp,FpOk (cxC X N scope C fp s2 H2) (pins++[(D,oD)]) H' b:=fun {H' oD} hn b hb=>by
  obtain ⟨f0,f1,f2,f3,f4,f5⟩:=f2 b hb
  refine ⟨hn b hb,ltC b (fpD b hb),fun z=>?_,.inl hb,fun x d e=>f4 x d (sub x d e),fun p hp=>?_⟩
  ·rcases List.mem_cons.mp (I2.stkSub b z) with e | e
   ·exact f1 e
   ·exact f2 e
  ·have hp:p∈X.pn++(pins++[(D,oD)]):=hp
   rw [← List.append_assoc] at hp
   rcases List.mem_append.mp hp with z | z
   ·exact f5 p z
   ·have e:p=(D,oD):=by simpa using z
    subst e
    exact Nat.ne_of_gt (fpD b hb)
 have loop : ∀ s3:Shared,s3={ s2 with heap:=h₁,toks:=s2.toks+([] : List (Str × Value)).length } →
   codeAny (model X.prog X.w) X.A (.compLoop (.ListComp elt [⟨tg,iter,[],0⟩,⟨tg2,iter2,[],0⟩] scope pos) 0 (.ref it) (.ref D) (cxC X N scope C fp s2 H2).env) (RR (.ref D) C) s3:=by
  rintro s3 rfl
  refine compLoop0_any (hs2 C fp s2 H2) (fun n s'=>∃ i σ' H' ys its k,Inv (cxC X N scope C fp s2 H2) (pins++[(D,{ cls:=.type "list", data:=.seq (List.toArray its) k })]) σ' H' s'∧tn i s'.heap∧(∀ b∈fp,H' b=none)∧Vals ys its∧W i n ys σ' H') ?_ m0
   ⟨0,_,H2,[],[],_,I4,st4,fun b hb=>(f2 b hb).1,.nil,w0⟩
  rintro n s3 ⟨i,σ3,H3,ys,its,k,I3,st3,fr3,rv,w3⟩
  rcases turn i n ys σ3 H3 w3 with ⟨stop,hz,qn⟩ | ⟨go,step⟩
  ·refine thn (T.done (cxC X N scope C fp s2 H2) rfl rfl rfl hc i _ s3 σ3 H3 _ I3 (stat fr3) st3 stop) fun r s4 ⟨hr,I4⟩=>?_
   subst hr
   have hDn:H3 D=none:=(I3.pin (D,_) (List.mem_append_right _ (List.mem_append_right _ List.mem_cons_self))).2.1
   obtain ⟨m4,hn4,_⟩:=id I4.loc
   refine hR D C s4 _ m4 (c.leave I2 f2 (by rw [hCs,hDe]) hDe.symm I4 rv hz) hn4 ?_ ?_ pinC ?_ (fun x d e=>ltC d (celD x d e)) (qn D hDn)
   ·rw [upd_ne hDC.symm]; exact I4.free
   ·refine Nat.le_trans I2.sz ?_
    rw [hDe,hCs]; exact Nat.le_succ _
   ·refine Nat.ne_of_gt (Nat.lt_of_lt_of_le I2.lt ?_)
    rw [hDe,hCs]; exact Nat.le_succ _
  ·refine thn (T.item (cxC X N scope C fp s2 H2) rfl rfl rfl hc i _ s3 σ3 H3 _ I3 (stat fr3) st3 go) fun r s4 ⟨u,hr,h4⟩=>?_
   subst hr
   refine thn h4 fun _ s5 ⟨x,H5,I5,r5,y5,st5,fr5⟩=>?_
   have I5':=I5.pinned (stat fr5) (T.obj _ _ st5)
   refine thn (hg C fp s2 H2 _ s5 σ3 H5 x u _ I5' r5 (step x H5 y5)) fun _ s6 ⟨σ6,H6,I6,q6⟩=>?_
   refine thn (hi2 C fp s2 H2 _ s6 σ6 H6 _ I6 q6) fun v s7 h7=>thn h7 fun itv2 s8 h8=>?_
   obtain ⟨it2,fp2,tn2,J2,H8,rfl,I8,T2,st8,f8,W2,⟨m20,w20⟩,turn2⟩:=h8
   have keep : ∀ {s':Shared} {σ':St} {H':Hp} {oD:Obj},Inv (cxC X N scope C fp s2 H2) ((pins++[(D,oD)])++pinsAt fp s5.heap) σ' H' s'→tn (i+1) s'.heap∧∀ b∈fp,H' b=none:=fun {s' σ' H' oD} I'=>by
    refine ⟨T.keep _ _ _ st5 fun b hb o e=>(I'.pin (b,o) (List.mem_append_right _ (List.mem_append_right _ (mem_pinsAt hb e)))).1,fun b hb=>?_⟩
    obtain ⟨o,e,d⟩:=T.obj _ _ st5 b hb
    exact (I'.pin (b,o) (List.mem_append_right _ (List.mem_append_right _ (mem_pinsAt hb e)))).2.1
   -- the inner iterator's objects
   have n2D : ∀ b∈fp2,b≠D:=fun b hb z=>by
    obtain ⟨f0,f1,f2',f3,f4,f5⟩:=f8 b hb
    exact f5 (D,_) (List.mem_append_right _ (List.mem_append_left _ (List.mem_append_right _ List.mem_cons_self))) z.symm
   have stat2 : ∀ {H':Hp} {oD:Obj},(∀ b∈fp2,H' b=none)→∀ b∈fp2,FpOk (cxC X N scope C fp s2 H2) ((pins++[(D,oD)])++pinsAt fp s5.heap) H' b:=fun {H' oD} hn b hb=>by
    obtain ⟨f0,f1,f2',f3,f4,f5⟩:=f8 b hb
    refine ⟨hn b hb,f1,f2',f3,f4,fun p hp=>?_⟩
    have hp:p∈X.pn++((pins++[(D,oD)])++pinsAt fp s5.heap):=hp
    rcases List.mem_append.mp hp with z | z
    ·exact f5 p (List.mem_append_left _ z)
    ·rcases List.mem_append.mp z with z | z
     ·rcases List.mem_append.mp z with z | z
      ·exact f5 p (List.mem_append_right _ (List.mem_append_left _ (List.mem_append_left _ z)))
      ·have e:p=(D,oD):=by simpa using z
       subst e
       exact (n2D b hb).symm
     ·exact f5 p (List.mem_append_right _ (List.mem_append_right _ z))
   have loop2 : ∀ s9:Shared,s9=s8→codeAny (model X.prog X.w) X.A (.compLoop (.ListComp elt [⟨tg,iter,[],0⟩,⟨tg2,iter2,[],0⟩] scope pos) 1 (.ref it2) (.ref D) (cxC X N scope C fp s2 H2).env)
     (fun r s₅=>r=.ok .next∧∃ m,m<n∧∃ i σ' H' ys its k,Inv (cxC X N scope C fp s2 H2) (pins++[(D,{ cls:=.type "list", data:=.seq (List.toArray its) k })]) σ' H' s₅∧tn i s₅.heap∧(∀ b∈fp,H' b=none)∧Vals ys its∧W i m ys σ' H') s9:=by
    rintro s9 rfl
    refine compLoop1_any (fun n' s'=>∃ j σ' H' ys' its' k',Inv (cxC X N scope C fp s2 H2) ((pins++[(D,{ cls:=.type "list", data:=.seq (List.toArray its') k' })])++pinsAt fp s5.heap) σ' H' s'∧tn2 j s'.heap∧(∀ b∈fp2,H' b=none)∧Vals ys' its'∧W2 j n' ys' σ' H') ?_ m20
     ⟨0,σ6,H8,ys,its,k,I8,st8,fun b hb=>(f8 b hb).1,rv,w20⟩
    rintro n' s' ⟨j,σj,Hj,ysj,itsj,kj,Ij,stj,frj,rvj,wj⟩
    rcases turn2 j n' ysj σj Hj wj with ⟨stop2,m',hm',w'⟩ | ⟨go2,hz2,step2⟩
    ·refine thn (T2.done (cxC X N scope C fp s2 H2) rfl rfl rfl hc j _ s' σj Hj _ Ij (stat2 frj) stj stop2) fun r s10 ⟨hr,I10⟩=>?_
     subst hr
     obtain ⟨k1,k2⟩:=keep I10
     exact ⟨rfl,m',hm',i+1,σj,Hj,ysj,itsj,kj,I10.unpinned,k1,k2,rvj,w'⟩
    ·refine thn (T2.item (cxC X N scope C fp s2 H2) rfl rfl rfl hc j _ s' σj Hj _ Ij (stat2 frj) stj go2) fun r s10 ⟨u2,hr,h10⟩=>?_
     subst hr
     refine thn h10 fun _ s11 ⟨y,H11,I11,r11,y11,st11,fr11⟩=>?_
     have I11':=I11.pinned (stat2 fr11) (T2.obj _ _ st11)
     refine thn (hg2 C fp s2 H2 _ s11 σj H11 y u2 _ I11' r11 (step2 y H11 y11)) fun _ s12 ⟨σ12,H12,I12,q12⟩=>?_
     refine thn (he C fp s2 H2 _ s12 σ12 H12 _ I12 q12) fun z s13 ⟨v13,H13,I13,r13,m3,hm3,w13⟩=>?_
     have pD:=I13.pin (D,_) (List.mem_append_right _ (List.mem_append_left _ (List.mem_append_left _ (List.mem_append_right _ List.mem_cons_self))))
     have I13v:Inv (cxC X N scope C fp s2 H2) pins σ12 H13 s13:=I13.unpinned.unpinned.unpinned
     have len:=rvj.length
     have k12 : ∀ b∈fp2,H13 b=none:=fun b hb=>by
      obtain ⟨o,e,d⟩:=T2.obj _ _ st11 b hb
      exact (I13.pin (b,o) (List.mem_append_right _ (List.mem_append_right _ (mem_pinsAt hb e)))).2.1
     have k11:tn2 (j+1) s13.heap:=T2.keep _ _ _ st11 fun b hb o e=>(I13.pin (b,o) (List.mem_append_right _ (List.mem_append_right _ (mem_pinsAt hb e)))).1
     refine wpAny_list_append_plain (items:=itsj.toArray) (hsz:=by simp; omega) ⟨kj,pD.1⟩ fun h9 hl9 hs9=>?_
     obtain ⟨k9,e9⟩:=hl9
     have I9:Inv (cxC X N scope C fp s2 H2) pins σ12 H13 { s13 with heap:=h9 }:=by
      refine I13v.turned (t':=s13.toks) (it:=D) (fun b o hb e=>hs9.extBut b o hb e) pD.2.1 hDC (.inr ?_) (fun x d e=>Nat.ne_of_lt (celD x d (sub x d e))) fun p hp=>?_
      ·show s2.heap.objs.size≤D
       rw [hDe]; exact Nat.le_refl _
      ·exact pinD p hp
     have e9':h9.get? D=some { cls:=.type "list", data:=.seq (itsj++[z]).toArray k9 }:=by
      rw [e9]; simp
     refine ⟨m3,hm3,j+1,σ12,H13,ysj++[v13],itsj++[z],k9,I9.pins_of fun p hp=>?_,T2.keep _ _ _ k11 fun b hb o e=>hs9.extBut b o (n2D b hb) e,k12,rvj.append (.cons r13 .nil),w13⟩
     rcases List.mem_append.mp hp with q | q
     ·rcases List.mem_append.mp q with q | q
      ·exact I9.pin p (List.mem_append_right _ q)
      ·have e:p=(D,{ cls:=.type "list", data:=.seq (itsj++[z]).toArray k9 }):=by simpa using q
       subst e
       exact ⟨e9',pD.2.1,pD.2.2.1,pD.2.2.2.1,fun v z=>by cases z⟩
     ·obtain ⟨hb,_⟩:=of_pinsAt q
      obtain ⟨a1,a2,a3,a4,a5⟩:=I13.pin p (List.mem_append_right _ (List.mem_append_left _ (List.mem_append_right _ q)))
      exact ⟨hs9.extBut p.1 p.2 (Nat.ne_of_lt (fpD p.1 hb)) a1,a2,a3,a4,a5⟩
   exact compStart1 (loop2 _ rfl) (T2.self _ 0 _ _ _ st8 (loop2 _ rfl))
 exact codeAny_compStart_list (loop _ rfl) (T.self _ 0 _ _ _ st4 (loop _ rfl))
variable {wi:TI}
theorem pe_comp2 (c:CompOk X scope N ix) (hc:X.calm=true) (hi:PI X tg iter wi) (hg : ∀ C fp s H,PG (cxC X N scope C fp s H) tg g) (hi2 : ∀ C fp s H,PI (cxC X N scope C fp s H) tg2 iter2 wi2) (hg2 : ∀ C fp s H,PG (cxC X N scope C fp s H) tg2 g2) (he : ∀ C fp s H,PE (cxC X N scope C fp s H) elt te)
  (hs : ∀ x,foldedSetIterable iter X.env x=pure x:=by intro _; rfl) (hs2 : ∀ C fp s H x,foldedSetIterable iter2 (cxC X N scope C fp s H).env x=pure x:=by intro _ _ _ _ _; rfl) : PE X (.ListComp elt [⟨tg,iter,[],0⟩,⟨tg2,iter2,[],0⟩] scope pos) (tComp2 ix wi g wi2 g2 te):=by
 intro pins s σ H Q I h
 rw [eval_ListComp]
 have hcl : ∀ y∈scope.names,y.2=NameKind.free→∃ d,X.env.cells.lookup y.1=some d:=fun y hy e=>I.ok.has _ (c.fr y hy e)
 refine wpAny_comprehension_free (use:=none) rfl hs (closureFor_eq hcl) c.kind c.names (thn (hi pins s σ H _ I h) fun v s1 h1=>thn h1 fun itv s2 h2=>?_)
 refine comp_block2 (RR:=fun acc C=>compPost (model X.prog X.w) X.A X.xe none (EP X pins σ Q) acc C) c hc hg hi2 hg2 he hs2 h2 ?_
 intro D C s' H' m I' hn hC hz hp hL hcells q
 exact ⟨m,hn,fun h' hs'=>⟨.ref D,H',I'.turned (t':=s'.toks) (fun b o hb e=>hs'.extBut b o hb e) hC hL (.inr hz) hcells hp,rfl,q⟩⟩
end
end L2
namespace L2
open PySem PySem.Spec PyProof.Rows
theorem inner2L {K:PySem.W.Frag} {a:Addr} {xs:List V} {k:Nat} {te:TE} {ys:List V} {σ : St} {H:Hp} {R:List V→St→Hp→Prop} (Pw:Nat→List V→St→Hp→Prop) (h0:Pw 0 ys σ H)
  (hl : ∀ j ys σ H,j≤xs.length→Pw j ys σ H→SqL K H a xs) (hz : ∀ j ys σ H,Pw j ys σ H→ys.length<1000000)
  (hs : ∀ j ys σ H x (S:List V→St→Hp→Prop),xs[j]?=some x→Pw j ys σ H→(∀ ys' σ' H',Pw (j+1) ys' σ' H'→S ys' σ' H')→te (σ.set k (some x)) H fun v H5=>S (ys++[v]) (σ.set k (some x)) H5)
  (hd : ∀ ys σ H,Pw xs.length ys σ H→R ys σ H) :
  ∃ W2:WC,(∃ m2,W2 0 m2 ys σ H)∧∀ j m2 ys' σ3 H5,W2 j m2 ys' σ3 H5 →
   ((Itl K a).stop j H5∧R ys' σ3 H5) ∨
   ((Itl K a).go j H5∧ys'.length<sizeLine∧∀ y H6,(Itl K a).yld j H5 y H6→gName k y σ3 H6 fun σ4 H7=>te σ4 H7 fun v H8=>∃ m3,m3<m2∧W2 (j+1) m3 (ys'++[v]) σ4 H8):=by
 have big:(1000000:Nat)<sizeLine:=by decide
 refine ⟨fun j m ys σ H=>m=xs.length - j∧j≤xs.length∧Pw j ys σ H,⟨xs.length,by simp,Nat.zero_le _,h0⟩,?_⟩
 rintro j m ys' σ3 H5 ⟨rfl,hj,p⟩
 have hy:=hz j ys' σ3 H5 p
 by_cases hlt:j<xs.length
 ·refine .inr ⟨⟨xs,xs[j],hl j ys' σ3 H5 hj p,by simp [hlt]⟩,by omega,fun y H6 yy=>?_⟩
  obtain ⟨rfl,yy⟩:=yy
  unfold gName
  exact hs j ys' σ3 _ y (fun ys2 σ2 H2=>∃ m3,m3<xs.length - j∧(m3=xs.length - (j+1)∧j+1≤xs.length∧Pw (j+1) ys2 σ2 H2)) (yy xs (hl j ys' σ3 _ hj p)) p fun ys2 σ2 H2 q=>⟨xs.length - (j+1),by omega,rfl,hlt,q⟩
 ·have e:j=xs.length:=by omega
  subst e
  exact .inl ⟨⟨xs,hl _ ys' σ3 H5 (Nat.le_refl _) p,Nat.le_refl _⟩,hd ys' σ3 H5 p⟩
theorem comp2L {K:PySem.W.Frag} {ix:List (Option Nat)} {wi2:TI} {g2:TG} {te:TE} {σ : St} {Q:VK} {H:Hp} {a:Addr} {xs:List V} {k:Nat} (Pv:Nat→List V→St→Hp→Prop) (h0:Pv 0 [] (startC ix σ) H)
  (hl : ∀ i ys σ H,i≤xs.length→Pv i ys σ H→SqL K H a xs) (hz : ∀ i ys σ H,Pv i ys σ H→ys.length<1000000)
  (hs : ∀ i ys σ H x (R:List V→St→Hp→Prop),xs[i]?=some x→Pv i ys σ H→(∀ ys' σ' H',Pv (i+1) ys' σ' H'→R ys' σ' H')→wi2 (σ.set k (some x)) H fun J2 H4 =>
   ∃ W2:WC,(∃ m2,W2 0 m2 ys (σ.set k (some x)) H4)∧∀ j m2 ys' σ3 H5,W2 j m2 ys' σ3 H5 →
    (J2.stop j H5∧R ys' σ3 H5) ∨
    (J2.go j H5∧ys'.length<sizeLine∧∀ y H6,J2.yld j H5 y H6→g2 y σ3 H6 fun σ4 H7=>te σ4 H7 fun v H8=>∃ m3,m3<m2∧W2 (j+1) m3 (ys'++[v]) σ4 H8))
  (hd : ∀ ys σ' H' p,Pv xs.length ys σ' H'→H' p=none→Q (.ref p) (upd H' p (.lst ys))) : rComp2 ix (gName k) wi2 g2 te σ Q (Itl K a) H:=by
 have big:(1000000:Nat)<sizeLine:=by decide
 refine ⟨fun i m ys σ H=>m=xs.length - i∧i≤xs.length∧Pv i ys σ H,⟨xs.length,by simp,Nat.zero_le _,h0⟩,?_⟩
 rintro i m ys σ' H' ⟨rfl,hi,p⟩
 have hy:=hz i ys σ' H' p
 by_cases hlt:i<xs.length
 ·refine .inr ⟨⟨xs,xs[i],hl i ys σ' H' hi p,by simp [hlt]⟩,fun x H2 yy=>?_⟩
  obtain ⟨rfl,yy⟩:=yy
  unfold gName
  exact hs i ys σ' _ x (fun ys2 σ2 H2=>∃ m3,m3<xs.length - i∧(m3=xs.length - (i+1)∧i+1≤xs.length∧Pv (i+1) ys2 σ2 H2)) (yy xs (hl i ys σ' _ hi p)) p fun ys2 σ2 H2 q=>⟨xs.length - (i+1),by omega,rfl,hlt,q⟩
 ·have e:i=xs.length:=by omega
  subst e
  exact .inl ⟨⟨xs,hl _ ys σ' H' (Nat.le_refl _) p,Nat.le_refl _⟩,by omega,fun q hq=>hd ys σ' H' q p hq⟩
end L2
namespace L2
open PySem PySem.Spec PyProof.Rows
section
variable {X:Cx} {K:PySem.W.Frag}
def rSum (K:PySem.W.Frag) : List V→Hp→VK→Prop:=fun xs H Q=>∃ (p:Addr) (ns:List Int),xs=[.ref p]∧SqL K H p (ns.map V.int)∧Q (.int ns.sum) H
theorem call_sum (hK:X.K=K) (hc:X.calm=true) : CallR X (.builtin "sum") (rSum K):=by
 subst hK
 intro pins s σ H xs us Q I r h
 obtain ⟨p,ns,rfl,hp,q⟩:=h
 obtain ⟨u,rfl,ru⟩:=vals1 r
 cases ru
 obtain ⟨its,rv,pl,_⟩:=I.list hp
 have hi:=ints_are rv
 obtain ⟨zs,hx⟩:=hi.allInts.items
 have hl:s.heap.IsList p (intItems zs):=hx ▸ pl.isList
 refine sum_intListG (I.ok.hd hc) hl fun h' tk t' hk=>?_
 have e1:ns=zs.toList.map (·.1):=by
  rw [← nums_intItems,← hx]
  exact (show numsOf its.toArray.toList=ns from hi.numsOf).symm
 have e2:preSum (numAt zs) zs.size=ns.sum:=by
  rw [preSum_eq,List.take_of_length_le (by simp),e1]
 rw [e2]
 exact ⟨.int _,H,I.kept hk,⟨_,rfl⟩,q⟩
def rAny (K:PySem.W.Frag) : List V→Hp→VK→Prop:=fun xs H Q=>∃ (p:Addr) (bs:List Bool),xs=[.ref p]∧SqL K H p (bs.map V.bl)∧Q (.bl (bs.any id)) H
theorem call_any (hK:X.K=K) (hc:X.calm=true) : CallR X (.builtin "any") (rAny K):=by
 subst hK
 intro pins s σ H xs us Q I r h
 obtain ⟨p,bs,rfl,hl,q⟩:=h
 obtain ⟨u,rfl,rx⟩:=vals1 r
 cases rx
 obtain ⟨its,rv,pl,hz⟩:=I.list hl
 have e:=vals_bools rv
 subst e
 refine call_any_walk (wpAny_pyIter_list pl.isList ?_)
 have lt:p<s.heap.objs.size:=by obtain ⟨o,n,e,_⟩:=pl; exact Heap.lt_size e
 refine ⟨s.heap.objs.size,_,_,_,_,_,fun i=>bs.getD i false,rfl,Walks.list (A:=X.A.in1) (show X.A.in1.handled=none from I.ok.hd hc) s.heap.objs.size p (Nat.ne_of_lt lt) (bs.map Value.bool).toArray,?_,?_,?_⟩
 ·exact ⟨⟨_,Heap.get?_push_size _ rfl,rfl,rfl⟩,pl.isList.at fun o e=>Heap.get?_push_of_some _ e⟩
 ·intro i v s' Q' E' hP hQ'
  have hP:(bs.map Value.bool)[i]?=some v:=by simpa using hP
  rw [List.getElem?_map] at hP
  cases hb:bs[i]? with
  | none=>rw [hb] at hP; cases hP
  | some b =>
   rw [hb] at hP
   cases hP
   have hQ':Q' (bs.getD i false) s':=hQ'
   rw [show bs.getD i false=b by rw [List.getD_eq_getElem?_getD,hb]; rfl] at hQ'
   exact wpAny_truthy_bool hQ'
 ·intro h' tk hk
  have e:(List.range (bs.map Value.bool).toArray.size).any (fun i=>bs.getD i false)=bs.any id:=by
   have key : ∀ (l:List Bool),(List.range l.length).any (fun i=>l.getD i false)=l.any id:=by
    intro l
    induction l with
    | nil=>rfl
    | cons b r ih =>
     rw [List.length_cons,List.range_succ_eq_map,List.any_cons,List.any_cons,List.any_map,← ih]
     rfl
   simpa using key bs
  rw [e]
  refine ⟨.bl (bs.any id),H,?_,rfl,q⟩
  refine (I.kept (t':=s.toks) (h':=h') fun b o e=>hk b o (fun z=>?_) (Heap.get?_push_of_some _ e)).tok tk
  have z:b=s.heap.objs.size:=by simpa using z
  exact absurd (Heap.lt_size e) (by rw [z]; exact Nat.lt_irrefl _)
end
end L2
namespace L2
open PySem PySem.Spec PyProof.Rows PySem.SeqAt
inductive NumEs (pr:Params) : List DictEntry→List (Str × Int)→Prop
 | nil:NumEs pr [] []
 | cons {x:Str} {y:Int} {t u:Tok} {es:List DictEntry} {ps:List (Str × Int)} : NumEs pr es ps→NumEs pr ({ hash:=PyData.keyHash pr x,key:=.str x t,val:=.int y u } :: es) ((x,y) :: ps)
structure KNum (K:PySem.W.Frag) (pr:Params) (a:Addr) (ps:List (Str × Int)) : Prop where
 sys:(a == sysModules)=false
 nd:(ps.map (·.1)).Nodup
 ex : ∃ (es:List DictEntry) (ep:Nat),K.lookup a=some { cls:=.type "dict", data:=.dict es.toArray ep }∧NumEs pr es ps
def numK (ps:List (Str × Int)) : List (Key × V):=ps.map fun p=>(Sum.inr p.1,V.int p.2)
section
variable {X:Cx} {K:PySem.W.Frag}
theorem NumEs.go {pr:Params} {P:Program} {w:World} (hp:w.params=pr) : ∀ {es:List DictEntry} {ps:List (Str × Int)},NumEs pr es ps→∃ vs:List (Key × Value),KV (numK ps) vs∧(∀ e∈es,∃ k,(mixKind P w).is k e.key=true∧e.hash=(mixKind P w).hash k)∧Pairs (mixKind P w) es vs∧vs.map (·.1)=ps.map fun p=>Sum.inr p.1
 | _,_,.nil=>⟨[],.nil,by simp,.nil,rfl⟩
 | _,_,.cons (x:=x) (y:=y) (t:=t) (u:=u) r=>by
  obtain ⟨vs,h1,h2,h3,h4⟩:=NumEs.go (P:=P) hp r
  have hi:(mixKind P w).is (Sum.inr x) (Value.str x t)=true:=by
   show Value.isStrOf x (Value.str x t)=true
   simp [Value.isStrOf]
  refine ⟨(Sum.inr x,.int y u) :: vs,?_,?_,.cons hi rfl h3,by rw [List.map_cons,h4]; rfl⟩
  ·exact Paired.cons ⟨rfl,⟨u,rfl⟩⟩ h1
  ·intro e he
   rcases List.mem_cons.mp he with rfl | he
   ·refine ⟨Sum.inr x,hi,?_⟩
    subst hp
    rfl
   ·exact h2 e he
theorem KNum.dict {pins:List (Addr × Obj)} {σ : St} {H:Hp} {s:Shared} {a:Addr} {ps:List (Str × Int)} (k:KNum X.K X.w.params a ps) (I:Inv X pins σ H s) : ∃ vs:List (Key × Value),KV (numK ps) vs∧s.heap.DictOf (mixKind X.prog X.w) a vs:=by
 obtain ⟨es,ep,hl,ht⟩:=k.ex
 obtain ⟨vs,h1,h2,h3,h4⟩:=NumEs.go (P:=X.prog) (w:=X.w) rfl ht
 refine ⟨vs,h1,_,es.toArray,ep,I.kIn a _ hl,⟨rfl,rfl,rfl⟩,rfl,fun e he=>h2 e (by simpa using he),by simpa using h3,?_⟩
 rw [h4]
 have:=k.nd
 rw [show (ps.map fun p=>(Sum.inr p.1:Key))=(ps.map (·.1)).map Sum.inr by rw [List.map_map]; rfl]
 exact this.map _ fun x y h e=>h (Sum.inr.inj e)
def numOf (ps:List (Str × Int)) (k:Str) : Option Int:=(ps.find? fun p=>p.1=k).map (·.2)
theorem num_val (ps:List (Str × Int)) (k:Str) : valV (numK ps) (Sum.inr k:Key)=(numOf ps k).map V.int:=by
 unfold numK numOf valV
 induction ps with
 | nil=>rfl
 | cons p t ih =>
  rw [List.map_cons,List.find?_cons,List.find?_cons]
  by_cases h:p.1=k
  ·have:decide ((Sum.inr p.1:Key)=Sum.inr k)=true:=decide_eq_true (by rw [h])
   simp only [this,h,decide_true]
   rfl
  ·have:decide ((Sum.inr p.1:Key)=Sum.inr k)=false:=decide_eq_false fun z=>h (Sum.inr.inj z)
   simp only [this,decide_eq_false h]
   exact ih
def tKGet1 (a:Addr) (ps:List (Str × Int)) (td ty:TE) : TE:=fun σ H Q=>td σ H fun x H1=>x=.ref a∧ty σ H1 fun y H2=>∃ k,y=.str k∧Q (((numOf ps k).map V.int).getD .non) H2
theorem pe_kget1 {o e:Expr} {td ty:TE} {a:Addr} {apos cpos:Pos} {ps:List (Str × Int)} (kt:KNum X.K X.w.params a ps) (hu:X.A.units+1<cLine) (ho:PE X o td) (he:PE X e ty) (m:M1 X o "get" apos e cpos) : PE X (.Call (.Attribute o "get" apos) [e] [] cpos) (tKGet1 a ps td ty):=by
 intro pins s σ H Q I h
 refine wpAny_Call_method m.base m.few m.line PySem.F.plainAttrs_dict PySem.F.slot_dict_get PySem.F.type_dict_get (thn (ho pins s σ H _ I h) fun u s1 ⟨x,H1,I1,rx,ex,q1⟩=>?_)
 subst ex
 obtain rfl:u=Value.ref a:=rx
 obtain ⟨_,_,d1⟩:=kt.dict I1
 have t2 : ∀ b,Value.ref a=.ref b→∃ ob,s1.heap.get? b=some ob∧ob.dict=none:=fun b q=>by
  cases q
  obtain ⟨ob,_,_,h1,h2,_⟩:=d1
  exact ⟨ob,h1,h2.2.1⟩
 refine ⟨d1.typeIs,t2,?_⟩
 rw [m.trees]
 refine Calls.callWith_builtin rfl (Calls.evalArgs_plain (Calls.spliced_cons (thn (he pins s1 σ H1 _ I1 q1) fun iv s2 ⟨y,H2,I2,ry,k,ey,q2⟩=>Calls.spliced_nil ?_)))
 subst ey
 obtain ⟨vs,rel,dd⟩:=kt.dict I2
 refine call_meetsIn PySem.F.slot_dict_get dd.typeIs PySem.F.entry_dict_get (PySem.F.args_dict_get_2 _ _) (meets_dict_get (mixKind X.prog X.w) a (kV_is (k:=Sum.inr k) ry) kt.sys) ⟨_,dd.mapOf,⟨_,H2,I2.tok _,?_,q2⟩⟩
 rw [← num_val]
 exact (rel.val (Sum.inr k)).getD rfl
end
end L2
namespace L2
open PySem PySem.Spec PyProof.Rows PySem.SeqAt
open PySem.AutoSeq1 (wpAny_loadPart')
open PySem.MeetsSeq PySem.MeetsSeq2 PySem.MeetsSeq3
def HdAt (h:Heap) (v:Value) (a:Int) : Prop:=∃ (l:Addr) (xs:Array Value) (n:Nat) (t:Tok),v=.ref l∧h.get? l=some { cls:=.type "list", data:=.seq xs n }∧xs[0]?=some (.int a t)
structure Rising (h:Heap) (vs:List Value) (hs:List Int) : Prop where
 len:hs.length=vs.length
 up : ∀ (i:Nat) (a c:Int),hs[i]?=some a→hs[i+1]?=some c→a<c
 head : ∀ (i:Nat) (v:Value) (a:Int),vs[i]?=some v→hs[i]?=some a→HdAt h v a
section
variable {prog:Program} {w:World} {A:Around} {E:Value→Shared→Prop} {s:Shared}
theorem firsts_none {Q:List (Option Value)→Shared→Prop} : ∀ {vs:List Value},(∀ v∈vs,s.TypeIs v "list")→Q (vs.map fun _=>none) s→wpAny (model prog w) A (vs.mapM firstOfTuple') Q E s
 | [],_,q=>by rw [List.mapM_nil]; exact wpAny_pure q
 | v :: vs,h,q=>by
  rw [List.mapM_cons]
  refine wpAny_bind (wpAny_bind (wpAny_typeOf (h v List.mem_cons_self) ?_))
  rw [if_pos (by decide)]
  exact wpAny_pure (wpAny_bind (thn (firsts_none (Q:=fun r z=>Q (none :: r) z) (fun u hu=>h u (List.mem_cons_of_mem _ hu)) q) fun r s' z'=>wpAny_pure z'))
theorem types_list {Q:List Value→Shared→Prop} : ∀ {vs:List Value},(∀ v∈vs,s.TypeIs v "list")→Q (vs.map fun _=>Value.type "list") s→wpAny (model prog w) A (vs.mapM typeOf) Q E s
 | [],_,q=>by rw [List.mapM_nil]; exact wpAny_pure q
 | v :: vs,h,q=>by
  rw [List.mapM_cons]
  refine wpAny_bind (wpAny_typeOf (h v List.mem_cons_self) ?_)
  exact wpAny_bind (thn (types_list (Q:=fun r z=>Q (.type "list" :: r) z) (fun u hu=>h u (List.mem_cons_of_mem _ hu)) q) fun r s' z'=>wpAny_pure z')
theorem kind_lists {vs:List Value} {Q:SortKind→Shared→Prop} (h0:vs≠[]) (h : ∀ v∈vs,s.TypeIs v "list") (q:Q oneType' s) : wpAny (model prog w) A (keyKind' vs.toArray) Q E s:=by
 obtain ⟨v,r,rfl⟩ : ∃ v r,vs=v :: r:=by
  cases vs with
  | nil=>exact absurd rfl h0
  | cons v r=>exact ⟨v,r,rfl⟩
 rw [keyKind'_eq,List.mapM_toArray]
 simp only [map_eq_pure_bind,bind_assoc,pure_bind]
 refine wpAny_bind (firsts_none h ?_)
 rw [if_neg (by simp),if_neg (by simp),oneTypeOnly'_eq,List.mapM_toArray]
 simp only [map_eq_pure_bind,bind_assoc,pure_bind]
 refine wpAny_bind (types_list h ?_)
 have e:((List.map (fun _=>Value.type "list") (v :: r)).toArray.all fun x=>x == Value.type "list")=true:=by
  rw [List.all_toArray,List.all_map,List.all_eq_true]
  exact fun _ _=>rfl
 simp only [List.map_cons,List.getElem?_toArray,List.getElem?_cons_zero] at e ⊢
 rw [if_pos e]
 exact wpAny_pure q
theorem zip_snd {vs:List Value} : (vs.toArray.zip vs.toArray).map (·.2)=vs.toArray:=by
 apply Array.toList_inj.mp
 rw [Array.toList_map,Array.toList_zip]
 simp [List.map_snd_zip]
end
end L2
namespace L2
open PySem PySem.W PyProof.Rows
def KSat {α : Type} (N:Nat) (rk:Nat→Int) : KasT α→(α→Prop)→Prop
 | .ret a,P=>P a
 | .ask i j k,P=>(i<N∧j<N)∧KSat N rk (k (decide (rk i<rk j))) P
section
variable {N:Nat} {rk:Nat→Int}
theorem KSat.mono {α : Type} : ∀ {t:KasT α} {P Q : α→Prop},KSat N rk t P→(∀ a,P a→Q a)→KSat N rk t Q
 | .ret _,_,_,h,k=>k _ h
 | .ask i j f,P,Q,h,k=>⟨h.1,KSat.mono (t:=f (decide (rk i<rk j))) h.2 k⟩
theorem KSat.bind {α β : Type} : ∀ {t:KasT α} {f : α→KasT β} {P : β→Prop},KSat N rk t (fun a=>KSat N rk (f a) P)→KSat N rk (t.bind f) P
 | .ret _,_,_,h=>h
 | .ask i j k,f,P,h=>⟨h.1,KSat.bind (t:=k (decide (rk i<rk j))) h.2⟩
theorem KSat.wp {α : Type} {cmp:Nat→Nat→(Bool→Shared→Prop)→Shared→Prop} {s:Shared} (hc : ∀ i j C,i<N→j<N→C (decide (rk i<rk j)) s→cmp i j C s) : ∀ {t:KasT α} {P : α→Prop} {Q : α→Shared→Prop},KSat N rk t P→(∀ a,P a→Q a s)→t.kasWp cmp Q s
 | .ret _,_,_,h,k=>k _ h
 | .ask i j f,P,Q,h,k=>hc i j _ h.1.1 h.1.2 (KSat.wp hc (t:=f (decide (rk i<rk j))) h.2 k)
def KP (rk:Nat→Int) (p:Array Nat) (i:Nat) : Int:=rk (p.getD i 0)
def Srt (rk:Nat→Int) (k:Nat) (p:Array Nat) : Prop:=∀ i j,i≤j→j<k→KP rk p i≤KP rk p j
def Fal (rk:Nat→Int) (k:Nat) (p:Array Nat) : Prop:=∀ i j,i≤j→j<k→KP rk p j≤KP rk p i
theorem KP_congr {p q:Array Nat} {i j:Nat} (h:p[i]?=q[j]?) : KP rk p i=KP rk q j:=by
 unfold KP
 rw [Array.getD_eq_getD_getElem?,Array.getD_eq_getD_getElem?,h]
theorem KP_rev {p:Array Nat} {i j:Nat} (hj:j≤p.size) (k:Nat) : KP rk (kas_rev p i j) k=if i≤k∧k<j then KP rk p (i+j - 1 - k) else KP rk p k:=by
 have e:=getElem?_mirror_all (xs:=p) (i:=i) hj k
 unfold kas_rev
 by_cases h:i≤k∧k<j
 ·rw [if_pos h] at e ⊢; exact KP_congr e
 ·rw [if_neg h] at e ⊢; exact KP_congr e
theorem KP_bub {p:Array Nat} {src d:Nat} (hs:src<p.size) (hd:d≤src) (k:Nat) : KP rk (bubble p src d) k=if k=src - d then KP rk p src else if src - d<k∧k≤src then KP rk p (k - 1) else KP rk p k:=by
 have e:=getElem?_bubble hs d hd k
 by_cases h1:k=src - d
 ·rw [if_pos h1] at e ⊢; exact KP_congr e
 ·rw [if_neg h1] at e ⊢
  by_cases h2:src - d<k∧k≤src
  ·rw [if_pos h2] at e ⊢; exact KP_congr e
  ·rw [if_neg h2] at e ⊢; exact KP_congr e
theorem rev_same {p:Array Nat} {i j:Nat} (hj:j≤p.size) (h : ∀ k,i≤k→k<j→KP rk p k=KP rk p (j - 1)) (k:Nat) : KP rk (kas_rev p i j) k=KP rk p k:=by
 rw [KP_rev hj]
 split
 ·rename_i z
  rw [h (i+j - 1 - k) (by omega) (by omega),h k (by omega) (by omega)]
 ·rfl
theorem rev_size (p:Array Nat) (i j:Nat) : (kas_rev p i j).size=p.size:=mirror_size _ _ _ _
theorem rev_perm (p:Array Nat) (i j:Nat) : (kas_rev p i j).Perm p:=mirror_perm _ _ _ _
def Bdd (N:Nat) (p:Array Nat) : Prop:=∀ i,p.getD i 0<N
theorem Bdd.of {p q:Array Nat} (hN : 0<N) (pm:p.Perm q) (hq : ∀ x∈q.toList,x<N) : Bdd N p:=fun i=>by
 rw [Array.getD_eq_getD_getElem?]
 cases h:p[i]? with
 | none=>exact hN
 | some x =>
  have:x∈p:=Array.mem_of_getElem? h
  exact hq x (Array.mem_toList_iff.mpr (pm.mem_iff.mp this))
theorem asc_sat (p:Array Nat) (hp:Bdd N p) : ∀ (f n:Nat),1≤n→Srt rk n p→KSat N rk (kas_asc p f n) fun m=>n≤m∧m≤n+f∧Srt rk m p∧(m=n+f∨KP rk p m<KP rk p (m - 1))
 | 0,n,h1,hs=>⟨Nat.le_refl _,Nat.le_refl _,hs,.inl rfl⟩
 | f+1,n,h1,hs=>by
  refine ⟨⟨hp _,hp _⟩,?_⟩
  show KSat N rk (if decide (rk (p.getD n 0)<rk (p.getD (n - 1) 0))=true then .ret n else kas_asc p f (n+1)) _
  by_cases c:rk (p.getD n 0)<rk (p.getD (n - 1) 0)
  ·rw [if_pos (decide_eq_true c)]
   exact ⟨Nat.le_refl _,by omega,hs,.inr c⟩
  ·rw [if_neg (by simpa using c)]
   have c:KP rk p (n - 1)≤KP rk p n:=Int.not_lt.mp c
   refine KSat.mono (asc_sat p hp f (n+1) (by omega) fun i j hij hj=>?_) fun m ⟨a,b,d,e⟩=>⟨by omega,by omega,d,e.elim (fun e=>.inl (by omega)) .inr⟩
   by_cases z:j<n
   ·exact hs i j hij z
   ·have:j=n:=by omega
    subst this
    by_cases z:i=j
    ·subst z; exact Int.le_refl _
    ·exact Int.le_trans (hs i (j - 1) (by omega) (by omega)) c
structure DescOk (rk:Nat→Int) (p₀ p:Array Nat) (n q:Nat) : Prop where
 perm:p.Perm p₀
 size:p.size=p₀.size
 fal:Fal rk n p
 same : ∀ i,n - (q+1)≤i→i<n→KP rk p i=KP rk p (n - 1)
 q1:q+1≤n
theorem desc_sat {p₀ : Array Nat} (hN : 0<N) (h0 : ∀ x∈p₀.toList,x<N) : ∀ (f:Nat) (p:Array Nat) (n q:Nat),n+f≤p₀.size→DescOk rk p₀ p n q→KSat N rk (kas_desc f p n q) fun r=>n≤r.2.1∧r.2.1≤n+f∧DescOk rk p₀ r.1 r.2.1 r.2.2
 | 0,p,n,q,_,d=>⟨Nat.le_refl _,Nat.le_refl _,d⟩
 | f+1,p,n,q,hz,d=>by
  have hsz:=d.size
  have hq:=d.q1
  have fal1 : ∀ {p':Array Nat},(∀ k,KP rk p' k=KP rk p k)→KP rk p n≤KP rk p (n - 1)→Fal rk (n+1) p':=fun {p'} e le i j hij hj=>by
   rw [e,e]
   by_cases z:j<n
   ·exact d.fal i j hij z
   ·have:j=n:=by omega
    subst this
    by_cases z:i=j
    ·subst z; exact Int.le_refl _
    ·exact Int.le_trans le (d.fal i (j - 1) (by omega) (by omega))
  have hp:=Bdd.of hN d.perm h0
  refine ⟨⟨hp _,hp _⟩,?_⟩
  show KSat N rk (if decide (rk (p.getD n 0)<rk (p.getD (n - 1) 0))=true then (if q > 0 then kas_desc f (kas_rev p (n - (q+1)) n) (n+1) 0 else kas_desc f p (n+1) 0)
   else .ask (p.getD (n - 1) 0) (p.getD n 0) fun d=>if d=true then .ret (p,n,q) else kas_desc f p (n+1) (q+1)) _
  by_cases c:rk (p.getD n 0)<rk (p.getD (n - 1) 0)
  ·rw [if_pos (decide_eq_true c)]
   have le:KP rk p n≤KP rk p (n - 1):=Int.le_of_lt c
   have one : ∀ p',DescOk rk p₀ p' (n+1) 0→KSat N rk (kas_desc f p' (n+1) 0) fun r=>n≤r.2.1∧r.2.1≤n+(f+1)∧DescOk rk p₀ r.1 r.2.1 r.2.2:=fun p' d'=>KSat.mono (desc_sat hN h0 f p' (n+1) 0 (by omega) d') fun r ⟨a,b,e⟩=>⟨by omega,by omega,e⟩
   have lone : ∀ {p':Array Nat} (i:Nat),n+1 - (0+1)≤i→i<n+1→KP rk p' i=KP rk p' (n+1 - 1):=fun {p'} i h1 h2=>by rw [show i=n+1 - 1 by omega]
   by_cases z:q > 0
   ·rw [if_pos z]
    have e:=rev_same (rk:=rk) (p:=p) (i:=n - (q+1)) (j:=n) (by omega) d.same
    exact one _ ⟨(rev_perm p _ _).trans d.perm,by rw [rev_size]; exact hsz,fal1 e le,lone,by omega⟩
   ·rw [if_neg z]
    exact one _ ⟨d.perm,hsz,fal1 (fun _=>rfl) le,lone,by omega⟩
  ·rw [if_neg (by simpa using c)]
   have c1:KP rk p (n - 1)≤KP rk p n:=Int.not_lt.mp c
   refine ⟨⟨hp _,hp _⟩,?_⟩
   show KSat N rk (if decide (rk (p.getD (n - 1) 0)<rk (p.getD n 0))=true then .ret (p,n,q) else kas_desc f p (n+1) (q+1)) _
   by_cases c2:rk (p.getD (n - 1) 0)<rk (p.getD n 0)
   ·rw [if_pos (decide_eq_true c2)]
    exact ⟨Nat.le_refl _,by show n≤n+(f+1); omega,d⟩
   ·rw [if_neg (by simpa using c2)]
    have c2:KP rk p n≤KP rk p (n - 1):=Int.not_lt.mp c2
    refine KSat.mono (desc_sat hN h0 f p (n+1) (q+1) (by omega) ⟨d.perm,hsz,fal1 (fun _=>rfl) c2,fun i h1 h2=>?_,by omega⟩) fun r ⟨a,b,e⟩=>⟨by omega,by omega,e⟩
    rw [show n+1 - 1=n by omega]
    by_cases z:i=n
    ·rw [z]
    ·rw [d.same i (by omega) (by omega)]
     omega
def RunOk (rk:Nat→Int) (p₀ : Array Nat) (nrem:Nat) (r:Nat × Array Nat) : Prop:=r.2.Perm p₀∧r.2.size=p₀.size∧1≤r.1∧r.1≤nrem∧Srt rk r.1 r.2
theorem tail_sat {p₀ p:Array Nat} {n nrem:Nat} (hN : 0<N) (h0 : ∀ x∈p₀.toList,x<N) (h1 : 1≤n) (hn:n≤nrem) (hz:nrem≤p₀.size) (pm:p.Perm p₀) (sz:p.size=p₀.size) (fl:Fal rk n p) : KSat N rk (kas_tail3 n nrem p) (RunOk rk p₀ nrem):=by
 unfold kas_tail3
 refine KSat.bind (KSat.mono (asc_sat (kas_rev p 0 n) (Bdd.of hN ((rev_perm p 0 n).trans pm) h0) (nrem - n) n h1 fun i j hij hj=>?_) fun m ⟨a,b,c,_⟩=>⟨(rev_perm p 0 n).trans pm,by rw [rev_size]; exact sz,by omega,by omega,c⟩)
 rw [KP_rev (by omega),KP_rev (by omega),if_pos ⟨by omega,by omega⟩,if_pos ⟨by omega,by omega⟩]
 exact fl _ _ (by omega) (by omega)
theorem descPart_sat {p₀ p:Array Nat} {n nrem:Nat} (hN : 0<N) (h0 : ∀ x∈p₀.toList,x<N) (hn:n+1≤nrem) (hz:nrem≤p₀.size) (d:DescOk rk p₀ p (n+1) 0) : KSat N rk (kas_descPart n nrem p) (RunOk rk p₀ nrem):=by
 unfold kas_descPart
 refine KSat.bind (KSat.mono (desc_sat hN h0 (nrem - (n+1)) p (n+1) 0 (by omega) d) ?_)
 rintro ⟨p',n',q'⟩ ⟨a,b,d'⟩
 dsimp only at a b d'
 have sz:=d'.size
 show KSat N rk (if q' > 0 then kas_tail3 n' nrem (kas_rev p' (n' - (q'+1)) n') else kas_tail3 n' nrem p') _
 by_cases z:q' > 0
 ·rw [if_pos z]
  have e:=rev_same (rk:=rk) (p:=p') (i:=n' - (q'+1)) (j:=n') (by omega) d'.same
  exact tail_sat hN h0 (by omega) (by omega) hz ((rev_perm p' _ _).trans d'.perm) (by rw [rev_size]; exact sz) fun i j hij hj=>by rw [e,e]; exact d'.fal i j hij hj
 ·rw [if_neg z]
  exact tail_sat hN h0 (by omega) (by omega) hz d'.perm sz d'.fal
theorem count_sat {p:Array Nat} {nrem:Nat} (hN : 0<N) (h0 : ∀ x∈p.toList,x<N) (h1 : 1≤nrem) (hz:nrem≤p.size) : KSat N rk (kas_count nrem p) (RunOk rk p nrem):=by
 unfold kas_count
 refine KSat.bind (KSat.mono (asc_sat p (Bdd.of hN (Array.Perm.refl _) h0) (nrem - 1) 1 (Nat.le_refl _) fun i j hij hj=>by rw [show i=j by omega]; exact Int.le_refl _) ?_)
 rintro n ⟨a,b,hs,e⟩
 by_cases z:n=nrem
 ·rw [if_pos (by simpa using z)]
  exact ⟨Array.Perm.refl _,rfl,a,by omega,hs⟩
 ·rw [if_neg (by simpa using z)]
  have lt:KP rk p n<KP rk p (n - 1):=by
   rcases e with e | e
   ·omega
   ·exact e
  by_cases z1:n > 1
  ·rw [if_pos z1]
   have hp:=Bdd.of hN (Array.Perm.refl p) h0
   refine ⟨⟨hp _,hp _⟩,?_⟩
   show KSat N rk (if decide (rk (p.getD 0 0)<rk (p.getD (n - 1) 0))=true then .ret (n,p) else kas_descPart n nrem (kas_rev p 0 n)) _
   by_cases c:rk (p.getD 0 0)<rk (p.getD (n - 1) 0)
   ·rw [if_pos (decide_eq_true c)]
    exact ⟨Array.Perm.refl _,rfl,a,by omega,hs⟩
   ·rw [if_neg (by simpa using c)]
    have c:KP rk p (n - 1)≤KP rk p 0:=Int.not_lt.mp c
    have same : ∀ k,0≤k→k<n→KP rk p k=KP rk p (n - 1):=fun k _ hk=>by
     have x1:=hs 0 k (by omega) hk
     have x2:=hs k (n - 1) (by omega) (by omega)
     omega
    have ee:=rev_same (rk:=rk) (p:=p) (i:=0) (j:=n) (by omega) same
    refine descPart_sat hN h0 (by omega) hz ⟨rev_perm p 0 n,rev_size p 0 n,fun i j hij hj=>?_,fun i x1 x2=>by rw [show i=n+1 - 1 by omega],by omega⟩
    rw [ee,ee]
    by_cases w:j<n
    ·rw [same j (by omega) w,same i (by omega) (by omega)]; exact Int.le_refl _
    ·have:j=n:=by omega
     subst this
     by_cases w:i=j
     ·subst w; exact Int.le_refl _
     ·rw [same i (by omega) (by omega)]; exact Int.le_of_lt lt
  ·rw [if_neg z1]
   have n1:n=1:=by omega
   subst n1
   refine descPart_sat hN h0 (by omega) hz ⟨Array.Perm.refl _,rfl,fun i j hij hj=>?_,fun i x1 x2=>by rw [show i=1+1 - 1 by omega],by omega⟩
   by_cases w:i=j
   ·subst w; exact Int.le_refl _
   ·rw [show i=0 by omega,show j=1 by omega]; exact Int.le_of_lt lt
theorem place_sat {p:Array Nat} {k:Nat} (hp:Bdd N p) (hs:Srt rk k p) : ∀ (f l r:Nat),l≤r→r≤k→r - l≤f→(∀ i,i<l→KP rk p i≤KP rk p k)→(∀ i,r≤i→i<k→KP rk p k<KP rk p i)→KSat N rk (kas_place p k f l r) fun l'=>l'≤k∧(∀ i,i<l'→KP rk p i≤KP rk p k)∧∀ i,l'≤i→i<k→KP rk p k<KP rk p i
 | 0,l,r,h1,h2,h3,ha,hb=>⟨by omega,ha,fun i a b=>hb i (by omega) b⟩
 | f+1,l,r,h1,h2,h3,ha,hb=>by
  unfold kas_place
  by_cases z:l ≥ r
  ·rw [if_pos z]
   exact ⟨by omega,ha,fun i a b=>hb i (by omega) b⟩
  ·rw [if_neg z]
   refine ⟨⟨hp _,hp _⟩,?_⟩
   show KSat N rk (if decide (rk (p.getD k 0)<rk (p.getD ((l+r) / 2) 0))=true then kas_place p k f l ((l+r) / 2) else kas_place p k f ((l+r) / 2+1) r) _
   by_cases c:rk (p.getD k 0)<rk (p.getD ((l+r) / 2) 0)
   ·rw [if_pos (decide_eq_true c)]
    exact place_sat hp hs f l ((l+r) / 2) (by omega) (by omega) (by omega) ha fun i x y=>Int.lt_of_lt_of_le c (hs _ i x y)
   ·rw [if_neg (by simpa using c)]
    have c:KP rk p ((l+r) / 2)≤KP rk p k:=Int.not_lt.mp c
    exact place_sat hp hs f ((l+r) / 2+1) r (by omega) h2 (by omega) (fun i x=>Int.le_trans (hs i _ (by omega) (by omega)) c) hb
theorem bin_sat {p₀ : Array Nat} (hN : 0<N) (h0 : ∀ x∈p₀.toList,x<N) : ∀ (f:Nat) (p:Array Nat) (k:Nat),p.Perm p₀→p.size=p₀.size→k+f≤p.size→Srt rk k p→KSat N rk (kas_bin f p k) fun p'=>p'.Perm p₀∧p'.size=p₀.size∧Srt rk (k+f) p'
 | 0,p,k,pm,sz,_,hs=>⟨pm,sz,hs⟩
 | f+1,p,k,pm,sz,hk,hs=>by
  unfold kas_bin
  refine KSat.bind (KSat.mono (place_sat (Bdd.of hN pm h0) hs k 0 k (by omega) (Nat.le_refl _) (by omega) (fun i h=>by omega) fun i a b=>by omega) fun l ⟨l1,lo,hi⟩=>?_)
  refine KSat.mono (bin_sat hN h0 f (bubble p k (k - l)) (k+1) ((bubble_perm p k _).trans pm) (by rw [bubble_size]; exact sz) (by rw [bubble_size]; omega) fun i j hij hj=>?_) fun p' ⟨a,b,c⟩=>⟨a,b,by rw [show k+(f+1)=k+1+f by omega]; exact c⟩
  rw [KP_bub (by omega) (by omega),KP_bub (by omega) (by omega),show k - (k - l)=l by omega]
  by_cases i1:i=l
  ·rw [if_pos i1]
   by_cases j1:j=l
   ·rw [if_pos j1]; exact Int.le_refl _
   ·rw [if_neg j1,if_pos ⟨by omega,by omega⟩]
    exact Int.le_of_lt (hi (j - 1) (by omega) (by omega))
  ·rw [if_neg i1]
   by_cases i2:l<i∧i≤k
   ·rw [if_pos i2,if_neg (by omega),if_pos ⟨by omega,by omega⟩]
    exact hs (i - 1) (j - 1) (by omega) (by omega)
   ·rw [if_neg i2]
    have il:i<l:=by omega
    by_cases j1:j=l
    ·rw [if_pos j1]; exact lo i il
    ·rw [if_neg j1]
     by_cases j2:l<j∧j≤k
     ·rw [if_pos j2]
      exact hs i (j - 1) (by omega) (by omega)
     ·rw [if_neg j2]
      exact hs i j hij (by omega)
theorem sort_sat {n:Nat} (h : 1≤n) : KSat n rk (kas_sort n) fun p=>p.Perm (List.toArray (List.range n))∧p.size=n∧Srt rk n p:=by
 have sz:(List.toArray (List.range n)).size=n:=by simp
 unfold kas_sort
 have h0 : ∀ x∈(List.toArray (List.range n)).toList,x<n:=fun x hx=>List.mem_range.mp hx
 refine KSat.bind (KSat.mono (count_sat (by omega) h0 h (by omega)) ?_)
 rintro ⟨m,p⟩ ⟨pm,ps,m1,m2,hs⟩
 dsimp only at pm ps m1 m2 hs
 show KSat n rk (if m<n then kas_bin (n - max m 1) p (max m 1) else .ret p) _
 by_cases z:m<n
 ·rw [if_pos z,Nat.max_eq_left m1]
  refine KSat.mono (bin_sat (by omega) h0 (n - m) p m pm (by omega) (by omega) hs) fun p' ⟨a,b,c⟩=>⟨a,by omega,?_⟩
  rwa [show m+(n - m)=n by omega] at c
 ·rw [if_neg z]
  have:m=n:=by omega
  subst this
  exact ⟨pm,by omega,hs⟩
end
end L2
namespace L2
open PySem PySem.Spec PyProof.Rows PySem.SeqAt
open PySem.AutoSeq1 (wpAny_loadPart')
open PySem.MeetsSeq PySem.MeetsSeq2 PySem.MeetsSeq3
def lexB:List Int→List Int→Bool
 | [],[]=>false
 | [],_ :: _=>true
 | _ :: _,[]=>false
 | a :: r,c :: q=>if a=c then lexB r q else decide (a<c)
def IntsAt (xs:Array Value) (ns:List Int) : Prop:=xs.size=ns.length∧∀ (i:Nat) (a:Int),ns[i]?=some a→∃ t,xs[i]?=some (.int a t)
theorem IntsAt.out {xs:Array Value} {ns:List Int} (h:IntsAt xs ns) {i:Nat} (hi:ns.length≤i) : xs[i]?=none:=Array.getElem?_eq_none (by rw [h.1]; exact hi)
theorem lt_loopG (l b:Addr) (xs ys:Array Value) (n m:Nat) {ns ms:List Int} (hx:IntsAt xs ns) (hy:IntsAt ys ms) : ∀ (f i:Nat),ns.length≤i+f→i≤ns.length →
  Meets (Builtin.«list.__eq__.loop» ⟨[.ref l,.ref b,rawInt (i:Int),rawInt 0],[]⟩)
   (fun _ R s=>s.heap.get? l=some { cls:=.type "list", data:=.seq xs n }∧s.heap.get? b=some { cls:=.type "list", data:=.seq ys m }∧R (.ok (.ret (.bool (lexB (ns.drop i) (ms.drop i))))) s):=by
 have ends : ∀ (i:Nat),(ns.length≤i∨ms.length≤i)→i≤ns.length→lexB (ns.drop i) (ms.drop i)=decide (xs.size<ys.size)∨False:=fun i h1 h2=>by
  left
  rw [hx.1,hy.1]
  by_cases z:ns.length≤i
  ·rw [List.drop_eq_nil_of_le z]
   cases hm:ms.drop i with
   | nil =>
    have:=List.drop_eq_nil_iff.mp hm
    show false=_
    rw [decide_eq_false (by omega)]
   | cons c q =>
    have:i<ms.length:=by
     have:=congrArg List.length hm
     rw [List.length_drop,List.length_cons] at this
     omega
    show true=_
    rw [decide_eq_true (by omega)]
  ·have z2:ms.length≤i:=by omega
   rw [List.drop_eq_nil_of_le z2,decide_eq_false (by omega)]
   cases hm:ns.drop i with
   | nil=>have:=List.drop_eq_nil_iff.mp hm; omega
   | cons c q=>rfl
 have stop : ∀ (i:Nat),(ns.length≤i∨ms.length≤i)→i≤ns.length→Meets (Builtin.«list.__eq__.loop» ⟨[.ref l,.ref b,rawInt (i:Int),rawInt 0],[]⟩)
   (fun _ R s=>s.heap.get? l=some { cls:=.type "list", data:=.seq xs n }∧s.heap.get? b=some { cls:=.type "list", data:=.seq ys m }∧R (.ok (.ret (.bool (lexB (ns.drop i) (ms.drop i))))) s):=by
  intro i h1 h2 prog w A R s h
  obtain ⟨hp,g,d,tk,os⟩:=s
  obtain ⟨hl,hb,h⟩:=h
  rw [(ends i h1 h2).resolve_right id] at h
  wp_walk using wpAny_loadPart' hl,wpAny_loadPart' hb
  rcases h1 with z | z
  ·have e1:xs[Int.toNat (i:Int)]?=none:=hx.out (by rw [Int.toNat_natCast]; omega)
   rw [e1]
   dsimp only
   wp_walk using wpAny_loadPart' hl,wpAny_loadPart' hb
   exact h
  ·have e2:ys[Int.toNat (i:Int)]?=none:=hy.out (by rw [Int.toNat_natCast]; omega)
   rw [e2]
   cases xs[Int.toNat (i:Int)]? with
   | none =>
    dsimp only
    wp_walk using wpAny_loadPart' hl,wpAny_loadPart' hb
    exact h
   | some v =>
    dsimp only
    wp_walk using wpAny_loadPart' hl,wpAny_loadPart' hb
    exact h
 intro f
 induction f with
 | zero=>intro i h1 h2; exact stop i (.inl (by omega)) h2
 | succ f ih =>
  intro i h1 h2
  by_cases z:ns.length≤i∨ms.length≤i
  ·exact stop i z h2
  ·intro prog w A R s h
   obtain ⟨hp,g,d,tk,os⟩:=s
   obtain ⟨hl,hb,h⟩:=h
   have i1:i<ns.length:=by omega
   have i2:i<ms.length:=by omega
   obtain ⟨t,ht⟩:=hx.2 i ns[i] (List.getElem?_eq_getElem i1)
   obtain ⟨u,hu⟩:=hy.2 i ms[i] (List.getElem?_eq_getElem i2)
   rw [List.drop_eq_getElem_cons i1,List.drop_eq_getElem_cons i2] at h
   generalize ns[i]=a at ht h
   generalize ms[i]=c at hu h
   wp_walk using wpAny_loadPart' hl,wpAny_loadPart' hb
   have e1:xs[Int.toNat (i:Int)]?=some (.int a t):=ht
   have e2:ys[Int.toNat (i:Int)]?=some (.int c u):=hu
   rw [e1,e2]
   dsimp only
   have q:=EqAt.int_int (A:=A.in1) (s:=⟨hp,g,d,tk,os⟩) a t c u
   by_cases ac:a=c
   ·rw [show (a == c)=true from by simpa using ac] at q
    refine wpAny_bind (q prog w _ _ ?_)
    wp_walk
    refine ⟨plainId_quiet plain_eq_loop _,codeAny_builtin entry_eq_loop ?_⟩
    rw [Around.under_plainId plain_eq_loop _]
    refine ih (i+1) (by omega) (by omega) prog w A R _ ⟨hl,hb,?_⟩
    have h:R (.ok (.ret (.bool (if a=c then lexB (ns.drop (i+1)) (ms.drop (i+1)) else decide (a<c))))) _:=h
    rw [if_pos ac] at h
    exact h
   ·rw [show (a == c)=false from by simpa using ac] at q
    refine wpAny_bind (q prog w _ _ ?_)
    have lt:=HT.rcLt_int A.in1 ⟨hp,g,d,tk,os⟩ a t c u prog w
    wp_walk using wpAny_loadPart' hl,wpAny_loadPart' hb
    rw [e1,e2]
    wp_walk using lt
    have h:R (.ok (.ret (.bool (if a=c then lexB (ns.drop (i+1)) (ms.drop (i+1)) else decide (a<c))))) _:=h
    rw [if_neg ac] at h
    exact h
theorem lt_listsG (l b:Addr) (xs ys:Array Value) (n m:Nat) {ns ms:List Int} (hx:IntsAt xs ns) (hy:IntsAt ys ms) :
  Meets (Builtin.«list.__lt__» ⟨[.ref l,.ref b],[]⟩)
   (fun _ R s=>s.heap.get? l=some { cls:=.type "list", data:=.seq xs n }∧s.heap.get? b=some { cls:=.type "list", data:=.seq ys m }∧R (.ok (.ret (.bool (lexB ns ms)))) s):=by
 intro prog w A R s h
 obtain ⟨hp,g,d,tk,os⟩:=s
 obtain ⟨hl,hb,h⟩:=h
 have sub:isSubtype (.type "list") (.type "list")=pure true:=by rw [isSubtype_type]; kernel_rfl
 wp_walk using wpAny_loadPart' hl,wpAny_loadPart' hb
 refine ⟨plainId_quiet plain_eq_loop _,codeAny_builtin entry_eq_loop ?_⟩
 rw [Around.under_plainId plain_eq_loop _]
 exact lt_loopG l b xs ys n m hx hy ns.length 0 (by omega) (by omega) prog w A R _ ⟨hl,hb,h⟩
section
variable {prog:Program} {w:World} {A:Around} {E:Value→Shared→Prop} {s:Shared}
def LisAt (h:Heap) (v:Value) (ns:List Int) : Prop:=∃ (l:Addr) (xs:Array Value) (n:Nat),v=.ref l∧h.get? l=some { cls:=.type "list", data:=.seq xs n }∧IntsAt xs ns
theorem oneLt_lists {x y:Value} {ns ms:List Int} {Q:Bool→Shared→Prop} (hx:LisAt s.heap x ns) (hy:LisAt s.heap y ms) (hu:A.units<cLine) (q:Q (lexB ns ms) s) : wpAny (model prog w) A (oneLt' true x y) Q E s:=by
 obtain ⟨l,xs,n,rfl,e1,f1⟩:=hx
 obtain ⟨b,ys,m,rfl,e2,f2⟩:=hy
 rw [oneLt'_eq,if_pos rfl]
 refine wpAny_bind (wpAny_cRoomFor hu ?_)
 refine wpAny_bind (wpAny_callSpecialIfBound?_slot ⟨_,e1,rfl⟩ F.slot_list_lt (call_meets F.slot_list_lt ⟨_,e1,rfl⟩ F.entry_list_lt (F.args_list_lt_2 _ _) (lt_listsG l b xs ys n m f1 f2) ⟨e1,e2,?_⟩))
 exact wpAny_truthy_bool q
end
end L2
namespace L2
open PySem PySem.Spec PyProof.Rows PySem.SeqAt
structure Hds (H:Hp) (vs:List V) (hs:List Int) : Prop where
 len:hs.length=vs.length
 up : ∀ (i:Nat) (a c:Int),hs[i]?=some a→hs[i+1]?=some c→a<c
 head : ∀ (i:Nat) (v:V) (a:Int),vs[i]?=some v→hs[i]?=some a→∃ (b:Addr) (ns:List Int),v=.ref b∧H b=some (.lst (ns.map V.int))∧ns[0]?=some a
end L2
namespace L2
open PySem PySem.Spec PyProof.Rows PySem.SeqAt PySem.W
theorem lexB_irr : ∀ a:List Int,lexB a a=false
 | []=>rfl
 | x :: a=>by show (if x=x then lexB a a else _)=false; rw [if_pos rfl]; exact lexB_irr a
theorem lexB_trans : ∀ {a b c:List Int},lexB a b=true→lexB b c=true→lexB a c=true
 | [],_ :: _,_ :: _,_,_=>rfl
 | [],[],_,h,_=>by cases h
 | [],_ :: _,[],_,h=>by cases h
 | _ :: _,[],_,h,_=>by cases h
 | _ :: _,_ :: _,[],_,h=>by cases h
 | x :: a,y :: b,z :: c,h1,h2=>by
  have h1:(if x=y then lexB a b else decide (x<y))=true:=h1
  have h2:(if y=z then lexB b c else decide (y<z))=true:=h2
  show (if x=z then lexB a c else decide (x<z))=true
  by_cases e1:x=y
  ·rw [if_pos e1] at h1
   by_cases e2:y=z
   ·rw [if_pos e2] at h2
    rw [if_pos (e1.trans e2)]
    exact lexB_trans h1 h2
   ·rw [if_neg e2] at h2
    rw [if_neg (by rw [e1]; exact e2),e1]
    exact h2
  ·rw [if_neg e1] at h1
   have l1:x<y:=of_decide_eq_true h1
   by_cases e2:y=z
   ·rw [if_neg (by rw [← e2]; exact e1),← e2]
    exact h1
   ·rw [if_neg e2] at h2
    have l2:y<z:=of_decide_eq_true h2
    rw [if_neg (by omega)]
    exact decide_eq_true (by omega)
theorem lexB_tot : ∀ {a b:List Int},lexB a b=false→lexB b a=false→a=b
 | [],[],_,_=>rfl
 | [],_ :: _,h,_=>by cases h
 | _ :: _,[],_,h=>by cases h
 | x :: a,y :: b,h1,h2=>by
  have h1:(if x=y then lexB a b else decide (x<y))=false:=h1
  have h2:(if y=x then lexB b a else decide (y<x))=false:=h2
  by_cases e:x=y
  ·rw [if_pos e] at h1
   rw [if_pos e.symm] at h2
   rw [e,lexB_tot h1 h2]
  ·rw [if_neg e] at h1
   rw [if_neg (fun z=>e z.symm)] at h2
   have:=of_decide_eq_false h1
   have:=of_decide_eq_false h2
   omega
theorem countP_less {α : Type} {p q : α→Bool} : ∀ {l:List α} {x : α},(∀ y∈l,p y=true→q y=true)→x∈l→p x=false→q x=true→l.countP p<l.countP q
 | y :: l,x,h,hx,h1,h2=>by
  rw [List.countP_cons,List.countP_cons]
  have le:l.countP p≤l.countP q:=List.countP_mono_left fun z hz=>h z (List.mem_cons_of_mem _ hz)
  rcases List.mem_cons.mp hx with e | hx
  ·subst e
   rw [h1,h2,if_neg Bool.false_ne_true,if_pos rfl]
   omega
  ·have:=countP_less (fun z hz=>h z (List.mem_cons_of_mem _ hz)) hx h1 h2
   by_cases c:p y=true
   ·rw [if_pos c,if_pos (h y List.mem_cons_self c)]; omega
   ·rw [if_neg c]; omega
def rkL (Ls:List (List Int)) (i:Nat) : Int:=(Ls.countP fun M=>lexB M (Ls.getD i []) : Nat)
theorem rkL_lt {Ls:List (List Int)} {i j:Nat} (hi:i<Ls.length) (hj:j<Ls.length) : decide (rkL Ls i<rkL Ls j)=lexB (Ls.getD i []) (Ls.getD j []):=by
 have mi:Ls.getD i []∈Ls:=by rw [List.getD_eq_getElem?_getD,List.getElem?_eq_getElem hi]; exact List.getElem_mem hi
 have mj:Ls.getD j []∈Ls:=by rw [List.getD_eq_getElem?_getD,List.getElem?_eq_getElem hj]; exact List.getElem_mem hj
 unfold rkL
 generalize Ls.getD i []=a at mi ⊢
 generalize Ls.getD j []=b at mj ⊢
 cases h:lexB a b with
 | true =>
  have:=countP_less (l:=Ls) (p:=fun M=>lexB M a) (q:=fun M=>lexB M b) (fun y _ hy=>lexB_trans hy h) mi (lexB_irr a) h
  exact decide_eq_true (by omega)
 | false =>
  cases h2:lexB b a with
  | true =>
   have:=countP_less (l:=Ls) (p:=fun M=>lexB M b) (q:=fun M=>lexB M a) (fun y _ hy=>lexB_trans hy h2) mj (lexB_irr b) h2
   exact decide_eq_false (by omega)
  | false =>
   rw [lexB_tot h h2]
   exact decide_eq_false (by omega)
section
variable {prog:Program} {w:World} {A:Around} {E:Value→Shared→Prop} {s:Shared}
theorem LisAt.keep {h h':Heap} {v:Value} {ns:List Int} (x:LisAt h v ns) (k : ∀ b o,h.get? b=some o→h'.get? b=some o) : LisAt h' v ns:=by
 obtain ⟨l,xs,n,e1,e2,e3⟩:=x
 exact ⟨l,xs,n,e1,k _ _ e2,e3⟩
def AllLis (h:Heap) (vs:List Value) (Ls:List (List Int)) : Prop:=Ls.length=vs.length∧∀ (i:Nat) (v:Value) (L:List Int),vs[i]?=some v→Ls[i]?=some L→LisAt h v L
def OrdP (Ls:List (List Int)) (p:List Nat) : Prop:=p.Perm (List.range Ls.length)∧∀ i j,i≤j→j<Ls.length→lexB (Ls.getD (p.getD j 0) []) (Ls.getD (p.getD i 0) [])=false
theorem sort_lists {a:Addr} {vs:List Value} {Ls:List (List Int)} {n:Nat} {P:Fin→Shared→Prop} (ho:s.heap.get? a=some (seqObj "list" vs.toArray n)) (h64:vs.length<64) (hu:A.units<cLine)
  (hr : ∀ h',(∀ b o,b≠a→s.heap.get? b=some o→h'.get? b=some o)→AllLis h' vs Ls) (q : ∀ p:List Nat,OrdP Ls p→P (.done (.ret .none)) { s with heap:=sortedHeap s.heap a vs (p.map fun i=>vs.getD i Value.none).toArray }) :
  wpAny (model prog w) A (Builtin.«list.sort» ⟨[.ref a],[]⟩) P E s:=by
 rw [list_sort_plain]
 have la:a<s.heap.objs.size:=Heap.lt_size ho
 obtain ⟨k,hk⟩ : ∃ k,(s.heap.update a (Obj.mapSeq fun _=>#[])).get? a=some (seqObj "list" #[] k):=⟨_,get?_update_seq ho (fun _=>#[])⟩
 refine wpAny_bind (listItems_at ho rfl (wpAny_bind (listUpdate_at ho rfl (wpAny_bind (seqEpoch_at hk rfl (wpAny_bind (wpAny_newTuple (wpAny_bind (wpAny_newList (wpAny_holding ?_))))))))))
 have h6:(((s.heap.update a (Obj.mapSeq fun _=>#[])).push (seqObj "tuple" vs.toArray 0)).push (seqObj "list" #[] 0)).get? a=some (seqObj "list" #[] k):=Heap.get?_push_of_some _ (Heap.get?_push_of_some _ hk)
 have R:=hr (((s.heap.update a (Obj.mapSeq fun _=>#[])).push (seqObj "tuple" vs.toArray 0)).push (seqObj "list" #[] 0)) fun b o hb e=>Heap.get?_push_of_some _ (Heap.get?_push_of_some _ ((Heap.get?_update_other _ _ (Ne.symm hb)).trans e))
 show wpAny (model prog w) A _ P E { s with heap:=((s.heap.update a (Obj.mapSeq fun _=>#[])).push (seqObj "tuple" vs.toArray 0)).push (seqObj "list" #[] 0) }
 generalize eS:({ s with heap:=((s.heap.update a (Obj.mapSeq fun _=>#[])).push (seqObj "tuple" vs.toArray 0)).push (seqObj "list" #[] 0) } : Shared)=S
 have h6':S.heap.get? a=some (seqObj "list" #[] k):=by rw [← eS]; exact h6
 have R':AllLis S.heap vs Ls:=by rw [← eS]; exact R
 have q' : ∀ p:List Nat,OrdP Ls p→P (.done (.ret .none)) { S with heap:=S.heap.update a (Obj.mapSeq fun _=>(p.map fun i=>vs.getD i Value.none).toArray) }:=by rw [← eS]; exact q
 dsimp only
 have vz:vs.toArray.size=vs.length:=List.size_toArray
 have big:(10000000:Nat)≤sizeLine:=by decide
 have fin : ∀ (st:SortSt) (p:List Nat),OrdP Ls p→(arrOf st).map (·.2)=(p.map fun i=>vs.getD i Value.none).toArray→failedOf st=none→wpAny (model prog w) A (do
   let touched:=(← seqEpoch a) != k
   Builtin.List.listUpdate (.ref a) fun _=>(arrOf st).map (·.2)
   if let some e:=failedOf st then rule "list.sort.comparison-raised"; throw e
   if touched then rule "list.sort.modified"; raiseError "ValueError" "list modified during sort"
   ret .none) P E S:=fun st p hp e1 e2=>by
  rw [e1,e2]
  have pl:p.length=vs.length:=by rw [hp.1.length_eq,List.length_range,R'.1]
  refine wpAny_bind (seqEpoch_at h6' rfl ?_)
  refine wpAny_bind (listUpdate_at h6' rfl ?_ (hsz2:=by rw [List.size_toArray,List.length_map]; omega))
  simp only [bne_self_eq_false,Bool.false_eq_true,if_false]
  exact wpAny_pure (q' p hp)
 by_cases h2:vs.toArray.size<2
 ·rw [if_pos h2,if_pos h2]
  refine wpAny_bind (wpAny_pure ?_)
  rw [StateT.run_pure]
  refine wpAny_bind (wpAny_pure ?_)
  refine fin (SortSt.mk' general' (vs.toArray.zip vs.toArray) #[] 7 none) (List.range vs.length) ⟨by rw [R'.1],fun i j hij hj=>?_⟩ ?_ rfl
  ·have:i=j:=by rw [R'.1] at hj; omega
   rw [this]
   exact lexB_irr _
  ·have zs:(arrOf (SortSt.mk' general' (vs.toArray.zip vs.toArray) #[] 7 none)).map (·.2)=vs.toArray:=zip_snd
   rw [zs]
   congr 1
   refine List.ext_getElem? fun i=>?_
   rw [List.getElem?_map]
   by_cases z:i<vs.length
   ·rw [List.getElem?_range z]
    show vs[i]?=some (vs.getD i Value.none)
    rw [List.getD_eq_getElem?_getD,List.getElem?_eq_getElem z]
    rfl
   ·rw [List.getElem?_eq_none (by omega),List.getElem?_eq_none (by rw [List.length_range]; omega)]
    rfl
 ·rw [if_neg h2,if_neg h2]
  have n2 : 2≤vs.length:=by omega
  have ty : ∀ v∈vs,S.TypeIs v "list" := fun v hv=>by
   obtain ⟨i,hi,e⟩:=List.mem_iff_getElem.mp hv
   obtain ⟨l,xs,m,rfl,e1,_⟩:=R'.2 i v (Ls[i]'(by rw [R'.1]; exact hi)) (by rw [List.getElem?_eq_getElem hi,e]) (List.getElem?_eq_getElem (by rw [R'.1]; exact hi))
   exact ⟨_,e1,rfl⟩
  refine wpAny_bind (kind_lists (by intro z; subst z; simp at h2) ty ?_)
  have est:SortSt.mk' oneType' (vs.toArray.zip vs.toArray) #[] 7 none=kas_st oneType' (pairsOf vs) (List.toArray (List.range vs.length)):=by
   have e:=kas_range (pairsOf vs)
   rw [pairsOf_size] at e
   show SortSt.mk' oneType' (pairsOf vs) #[] 7 none=SortSt.mk' oneType' ((List.toArray (List.range vs.length)).map (kas_item (pairsOf vs))) #[] 7 none
   rw [e]
  have at_ : ∀ i,i<vs.length→LisAt S.heap (kas_item (pairsOf vs) i).1 (Ls.getD i []):=fun i hi=>by
   rw [kas_item_eq]
   have i2:i<Ls.length:=by rw [R'.1]; exact hi
   refine R'.2 i _ _ ?_ ?_
   ·show vs[i]?=some (vs.getD i Value.none)
    rw [List.getD_eq_getElem?_getD,List.getElem?_eq_getElem hi]; rfl
   ·rw [List.getD_eq_getElem?_getD,List.getElem?_eq_getElem i2]; rfl
  have ask:(kas_sort vs.length).kasWp (kas_cmp prog w A oneType' (pairsOf vs)) (fun p s'=>s'=S∧p.Perm (List.toArray (List.range vs.length))∧p.size=vs.length∧Srt (rkL Ls) vs.length p) S :=
   KSat.wp (fun i j C hi hj h=>by
    unfold kas_cmp
    rw [keyLt'_oneType]
    refine oneLt_lists (at_ i hi) (at_ j hj) hu ?_
    rw [← rkL_lt (by rw [R'.1]; exact hi) (by rw [R'.1]; exact hj)]
    exact h) (sort_sat (rk:=rkL Ls) (n:=vs.length) (by omega)) fun p hp=>⟨rfl,hp⟩
  have run:=kas_runs (E:=E) (Q:=fun _ st' s'=>s'=S∧∃ p:Array Nat,arrOf st'=p.map (kas_item (pairsOf vs))∧failedOf st'=none∧p.Perm (List.toArray (List.range vs.length))∧p.size=vs.length∧Srt (rkL Ls) vs.length p)
   n2 h64 (fun p' st' s' a1 a2 a3 a4=>⟨a4.1,p',a2,a3,a4.2⟩) ask
  rw [← est] at run
  refine wpAny_bind (wpAny_mono run ?_ fun _ _ e=>e)
  rintro ⟨⟨⟩,st⟩ s' ⟨rfl,p,har,hf,pm,ps,hs⟩
  refine fin st p.toList ⟨?_,fun i j hij hj=>?_⟩ ?_ hf
  ·rw [R'.1]
   exact Array.perm_iff_toList_perm.mp pm
  ·have bd:=Bdd.of (N:=vs.length) (by omega) pm fun x hx=>List.mem_range.mp hx
   have hj':j<vs.length:=by rw [← R'.1]; exact hj
   have le:=hs i j hij hj'
   have e1 : ∀ i,p.toList.getD i 0=p.getD i 0:=fun i=>by rw [List.getD_eq_getElem?_getD,Array.getElem?_toList,Array.getD_eq_getD_getElem?]
   rw [e1,e1,← rkL_lt (by rw [R'.1]; exact bd j) (by rw [R'.1]; exact bd i)]
   unfold KP at le
   exact decide_eq_false (by omega)
  ·apply Array.toList_inj.mp
   rw [har,Array.map_map,Array.toList_map]
   exact List.map_congr_left fun i _=>by show (kas_item (pairsOf vs) i).2=_; rw [kas_item_eq]
end
end L2
namespace Sw
open PySem L2
def Cov (n:Int) (Ls:List (List Int)) : Prop:=(∀ L∈Ls,L≠[])∧Ls.flatten.Perm (ivl 1 (n+1))
theorem ivl_nodup3 (n:Int) : (ivl 1 (n+1)).Nodup:=(ord_plain n).nodup
theorem ivl_mem3 {n x:Int} : x∈ivl 1 (n+1)↔1≤x∧x≤n:=(ord_plain n).mem
theorem Cov.fine {n:Int} {Ls:List (List Int)} (h:Cov n Ls) : Fine n Ls:=by
 refine ⟨fun L hL=>⟨h.1 L hL,fun x hx=>ivl_mem3.mp (h.2.mem_iff.mp (List.mem_flatten.mpr ⟨L,hL,hx⟩))⟩,h.2.symm.nodup (ivl_nodup3 n)⟩
theorem Cov.all {n x:Int} {Ls:List (List Int)} (h:Cov n Ls) (h1 : 1≤x) (h2:x≤n) : x∈Ls.flatten:=h.2.mem_iff.mpr (ivl_mem3.mpr ⟨h1,h2⟩)
theorem Cov.flen {n:Int} {Ls:List (List Int)} (h:Cov n Ls) (n0 : 0≤n) : Ls.flatten.length=n.toNat:=by
 rw [h.2.length_eq,ivl_length]; omega
theorem len_le_flat : ∀ (Ls:List (List Int)),(∀ L∈Ls,L≠[])→Ls.length≤Ls.flatten.length∧∀ L∈Ls,L.length≤Ls.flatten.length
 | [],_=>⟨Nat.le_refl _,fun _ h=>(by cases h)⟩
 | L :: r,h=>by
  obtain ⟨a,b⟩:=len_le_flat r fun M hM=>h M (List.mem_cons_of_mem _ hM)
  have:=List.length_pos_iff.mpr (h L (List.mem_cons_self ..))
  rw [List.flatten_cons,List.length_append,List.length_cons]
  refine ⟨by omega,fun M hM=>?_⟩
  rcases List.mem_cons.mp hM with e | e
  ·rw [e]; omega
  ·have:=b M e; omega
theorem Cov.sizes {n:Int} {Ls:List (List Int)} (h:Cov n Ls) (n0 : 0≤n) : Ls.length≤n.toNat∧∀ L∈Ls,L.length≤n.toNat:=by
 have:=len_le_flat Ls h.1
 rw [h.flen n0] at this
 exact this
theorem pick_perm {α : Type} (d : α) {Ls:List α} {π : List Nat} (h : π.Perm (List.range Ls.length)) : (π.map fun i=>Ls.getD i d).Perm Ls:=by
 have:=h.map fun i=>Ls.getD i d
 refine this.trans (List.Perm.of_eq ?_)
 apply List.ext_getElem?
 intro i
 rw [List.getElem?_map]
 by_cases hi:i<Ls.length
 ·rw [List.getElem?_range hi,Option.map_some,List.getD_eq_getElem?_getD,List.getElem?_eq_getElem hi]; rfl
 ·rw [List.getElem?_eq_none (by rw [List.length_range]; omega),List.getElem?_eq_none (by omega)]; rfl
end Sw
namespace L2
open PySem PySem.Spec PyProof.Rows
def Up (l:List Nat) : Prop:=l.Pairwise (· < ·)
theorem Up.at {l:List Nat} (h:Up l) {i j x y:Nat} (hx:l[i]?=some x) (hy:l[j]?=some y) (hij:i<j) : x<y:=by
 obtain ⟨hi,e1⟩:=List.getElem?_eq_some_iff.mp hx
 obtain ⟨hj,e2⟩:=List.getElem?_eq_some_iff.mp hy
 rw [← e1,← e2]
 exact List.pairwise_iff_getElem.mp h i j hi hj hij
theorem below_go {l:List Nat} (h:Up l) (j:Nat) : ∀ (f lo hi:Nat),hi - lo≤f→lo≤hi→hi≤l.length→(∀ k x,k<lo→l[k]?=some x→x<j)→(∀ k x,hi≤k→l[k]?=some x→j≤x) →
  (∀ k x,k<SetTable.below.go l.toArray j f lo hi→l[k]?=some x→x<j)∧(∀ k x,SetTable.below.go l.toArray j f lo hi≤k→l[k]?=some x→j≤x)∧SetTable.below.go l.toArray j f lo hi≤l.length
 | 0,lo,hi,hf,hle,hl,h1,h2=>by
  have:lo=hi:=by omega
  subst this
  exact ⟨h1,h2,hl⟩
 | f+1,lo,hi,hf,hle,hl,h1,h2=>by
  unfold SetTable.below.go
  by_cases c:lo<hi
  ·rw [if_pos c]
   have hm:(lo+hi) / 2<l.length:=by omega
   have hg:l[(lo+hi) / 2]?=some l[(lo+hi) / 2]:=List.getElem?_eq_getElem hm
   have hd:l.toArray.getD ((lo+hi) / 2) j=l[(lo+hi) / 2]:=by
    simp [Array.getD,hm]
   dsimp only
   rw [hd]
   by_cases d:l[(lo+hi) / 2]<j
   ·rw [if_pos d]
    refine below_go h j f _ hi (by omega) (by omega) hl (fun k x hk hx=>?_) h2
    by_cases e:k=(lo+hi) / 2
    ·subst e; rw [hg] at hx; cases hx; exact d
    ·exact Nat.lt_trans (h.at hx hg (by omega)) d
   ·rw [if_neg d]
    refine below_go h j f lo _ (by omega) (by omega) (by omega) h1 (fun k x hk hx=>?_)
    by_cases e:k=(lo+hi) / 2
    ·subst e; rw [hg] at hx; cases hx; omega
    ·have:=h.at hg hx (by omega); omega
  ·rw [if_neg c]
   have:lo=hi:=by omega
   subst this
   exact ⟨h1,h2,hl⟩
theorem below_spec {l:List Nat} (h:Up l) (j:Nat) : (∀ k x,k<SetTable.below l.toArray j→l[k]?=some x→x<j)∧(∀ k x,SetTable.below l.toArray j≤k→l[k]?=some x→j≤x)∧SetTable.below l.toArray j≤l.length:=by
 unfold SetTable.below
 rw [List.size_toArray]
 exact below_go h j l.length 0 l.length (by omega) (by omega) (by omega) (fun k x hk=>by omega) (fun k x hk hx=>by have:=(List.getElem?_eq_some_iff.mp hx).1; omega)
theorem below_is {l:List Nat} (h:Up l) {j i:Nat} (hi:i≤l.length) (h1 : ∀ k x,k<i→l[k]?=some x→x<j) (h2 : ∀ k x,i≤k→l[k]?=some x→j≤x) : SetTable.below l.toArray j=i:=by
 obtain ⟨b1,b2,b3⟩:=below_spec h j
 rcases Nat.lt_trichotomy (SetTable.below l.toArray j) i with c | c | c
 ·have hb:SetTable.below l.toArray j<l.length:=by omega
  have e:=List.getElem?_eq_getElem hb
  have:=h1 _ _ c e
  have:=b2 _ _ (Nat.le_refl _) e
  omega
 ·exact c
 ·have hb:i<l.length:=by omega
  have e:=List.getElem?_eq_getElem hb
  have:=b1 _ _ c e
  have:=h2 _ _ (Nat.le_refl _) e
  omega
theorem below_not {l:List Nat} (h:Up l) {j:Nat} (n:(l[SetTable.below l.toArray j]? == some j)=false) : j∉l:=fun hm=>by
 obtain ⟨k,hk,e⟩:=List.getElem_of_mem hm
 have ek:l[k]?=some j:=by rw [List.getElem?_eq_getElem hk,e]
 obtain ⟨b1,b2,b3⟩:=below_spec h j
 have:SetTable.below l.toArray j=k:=by
  rcases Nat.lt_trichotomy (SetTable.below l.toArray j) k with c | c | c
  ·have hb:SetTable.below l.toArray j<l.length:=by omega
   have e':=List.getElem?_eq_getElem hb
   have g1:=b2 _ _ (Nat.le_refl _) e'
   have g2:=h.at e' ek c
   omega
  ·exact c
  ·have:=b1 _ _ c ek; omega
 rw [this,ek] at n
 simp at n
theorem insert_list {α : Type} (xs:Array α) (p:Nat) (x : α) : (SetTable.insertAt xs p x).toList=xs.toList.take p++x :: xs.toList.drop p:=by
 unfold SetTable.insertAt
 simp [List.append_assoc]
 exact List.take_of_length_le (by simp)
theorem Up.insert {l:List Nat} (h:Up l) {j:Nat} (hj:j∉l) : Up (SetTable.insertAt l.toArray (SetTable.below l.toArray j) j).toList:=by
 rw [insert_list]
 obtain ⟨b1,b2,b3⟩:=below_spec h j
 have hs:Up (l.take (SetTable.below l.toArray j)++l.drop (SetTable.below l.toArray j)):=by rw [List.take_append_drop]; exact h
 obtain ⟨p1,p2,p3⟩:=List.pairwise_append.mp hs
 have q1 : ∀ a∈l.take (SetTable.below l.toArray j),a<j:=fun a ha=>by
  obtain ⟨k,hk,e⟩:=List.getElem_of_mem ha
  rw [List.length_take] at hk
  rw [List.getElem_take] at e
  exact b1 k a (by omega) (by rw [List.getElem?_eq_getElem (by omega),e])
 have q2 : ∀ a∈l.drop (SetTable.below l.toArray j),j<a:=fun a ha=>by
  obtain ⟨k,hk,e⟩:=List.getElem_of_mem ha
  rw [List.length_drop] at hk
  rw [List.getElem_drop] at e
  have g:=b2 (SetTable.below l.toArray j+k) a (by omega) (by rw [List.getElem?_eq_getElem (by omega),e])
  have:a≠j:=fun e=>hj (by rw [← e]; exact List.mem_of_mem_drop ha)
  omega
 refine List.pairwise_append.mpr ⟨p1,List.pairwise_cons.mpr ⟨q2,p2⟩,fun a ha b hb=>?_⟩
 rcases List.mem_cons.mp hb with rfl | hb
 ·exact q1 a ha
 ·exact Nat.lt_trans (q1 a ha) (q2 b hb)
def TUp (t:SetTable) : Prop:=Up t.place.toList
theorem slot_not {t:SetTable} (h:TUp t) {j:Nat} (n : ∀ i,t.slot j≠.live i) : j∉t.place.toList:=by
 refine below_not h ?_
 unfold SetTable.slot at n
 dsimp only at n
 cases e:(t.place[SetTable.below t.place j]? == some j) with
 | false=>simpa using e
 | true=>rw [e] at n; simp at n
theorem probe_go {t:SetTable} {f:Nat→Int} {h:Int} : ∀ (n:Nat) (p:SetTable.Probe),(∀ d,p.dummy=some d→t.slot d=.dummy)→∀ j dm,SetTable.probe.go t f h n p=some (.empty j dm)→t.slot j=.empty∧∀ d,dm=some d→t.slot d=.dummy
 | 0,p,hp,j,dm,e=>by unfold SetTable.probe.go at e; cases e
 | n+1,p,hp,j,dm,e=>by
  have adv : ∀ q:SetTable.Probe,(t.advance q).dummy=q.dummy:=fun q=>by
   unfold SetTable.advance; split <;> rfl
  unfold SetTable.probe.go at e
  cases hs:t.slot p.j with
  | empty=>rw [hs] at e; dsimp only at e; cases e; exact ⟨hs,hp⟩
  | dummy =>
   rw [hs] at e; dsimp only at e
   refine probe_go n _ (fun d hd=>?_) j dm e
   rw [adv] at hd; cases hd; exact hs
  | live i =>
   rw [hs] at e; dsimp only at e
   split at e
   ·cases e
   ·refine probe_go n _ (fun d hd=>?_) j dm e
    rw [adv] at hd; exact hp d hd
theorem TUp.put {t:SetTable} (h:TUp t) {j:Nat} (n : ∀ i,t.slot j≠.live i) : TUp (t.put j).1:=by
 have:=Up.insert h (slot_not h n)
 exact this
theorem freeSlot_not {t:SetTable} {h:Int} {j:Nat} {b:Bool} (e:t.freeSlot h=some (j,b)) : ∀ i,t.slot j≠.live i:=by
 unfold SetTable.freeSlot at e
 cases hp:t.probe (fun _=>h+1) h (t.probeStart h) with
 | none=>rw [hp] at e; cases e
 | some m =>
  rw [hp] at e
  cases m with
  | candidate a b c=>cases e
  | empty k dm =>
   dsimp only at e
   unfold SetTable.probe at hp
   obtain ⟨h1,h2⟩:=probe_go _ _ (fun d hd=>by cases hd) k dm hp
   cases dm with
   | none =>
    simp only [Option.getD_none,Option.some.injEq,Prod.mk.injEq] at e
    rw [← e.1,h1]; intro i z; cases z
   | some d =>
    simp only [Option.getD_some,Option.some.injEq,Prod.mk.injEq] at e
    rw [← e.1,h2 d rfl]; intro i z; cases z
theorem range_up (n:Nat) : Up (List.range n):=List.pairwise_lt_range
theorem standIn_up (t:SetTable) (n:Nat) : TUp (t.standIn n):=by
 show Up (Array.range n).toList
 rw [Array.toList_range]; exact range_up n
theorem orStandIn_up {t:SetTable} (h:TUp t) (n:Nat) : TUp (t.orStandIn n):=by
 unfold SetTable.orStandIn; split
 ·exact h
 ·exact standIn_up t n
theorem orStandIn_led (t:SetTable) (n:Nat) : (t.orStandIn n).led=t.led:=by
 unfold SetTable.orStandIn; split <;> rfl
theorem layNew_up {t:SetTable} (h:TUp t) (es:Array (Int × Value)) (k:Int) (x:Value) : TUp (layNew t es k x).2.1∧(layNew t es k x).2.1.led=t.led:=by
 unfold layNew
 split
 ·rename_i j b e
  exact ⟨orStandIn_up (h.put (freeSlot_not e)) _,orStandIn_led _ _⟩
 ·exact ⟨standIn_up t _,rfl⟩
theorem live_up (n:Nat) (f:Nat→Option Nat) : Up (((List.range n).filterMap fun j=>(f j).map (j,·)).map (·.1)):=by
 have:(((List.range n).filterMap fun j=>(f j).map (j,·)).map (·.1))=(List.range n).filter fun j=>(f j).isSome:=by
  induction List.range n with
  | nil=>rfl
  | cons a l ih =>
   rw [List.filterMap_cons,List.filter_cons]
   cases e:f a with
   | none=>simpa using ih
   | some b=>simpa using ih
 rw [this]
 exact (range_up n).filter _
theorem laid_up {mask finger moves:Nat} {led plain:Bool} {hs:Array Int} {t:SetTable} {o:Array Nat} (e:SetTable.laid mask finger moves led plain hs=some (t,o)) : TUp t∧t.led=led∧t.plain=plain:=by
 unfold SetTable.laid at e
 cases ho:SetTable.layClean mask hs with
 | none=>rw [ho] at e; cases e
 | some ow =>
  rw [ho] at e
  simp only [Option.pure_def,Option.bind_eq_bind,Option.bind_some,Option.some.injEq,Prod.mk.injEq] at e
  rw [← e.1]
  exact ⟨live_up (mask+1) fun j=>ow.getD j none,rfl,rfl⟩
theorem relayAll_up (t:SetTable) (es:Array (Int × Value)) (n:Nat) : TUp (relayAll t es n).2.1∧(relayAll t es n).2.1.led=t.led:=by
 unfold relayAll
 split
 ·rename_i t' o e
  unfold SetTable.relaid at e
  obtain ⟨h1,h2,_⟩:=laid_up e
  dsimp only
  split
  ·exact ⟨h1,h2⟩
  ·exact ⟨standIn_up t _,rfl⟩
 ·exact ⟨standIn_up t _,rfl⟩
theorem cons_erase {α : Type} : ∀ {l:List α} {i:Nat} (h:i<l.length),(l[i] :: l.eraseIdx i).Perm l
 | a :: l,0,h=>List.Perm.refl _
 | a :: l,i+1,h=>by
  have:=cons_erase (l:=l) (i:=i) (by simpa using h)
  simp only [List.getElem_cons_succ,List.eraseIdx_cons_succ]
  exact (List.Perm.swap _ _ _).trans (this.cons a)
theorem pick_go {α : Type} (next:Nat→Nat) : ∀ (f k:Nat) (left:List α) (out:Array α),left.length=f→(pickOrder.go next f k left out).toList.Perm (out.toList++left)
 | 0,k,left,out,h=>by
  have:left=[]:=List.length_eq_zero_iff.mp h
  subst this
  rw [List.append_nil]
  exact List.Perm.refl _
 | f+1,k,left,out,h=>by
  unfold pickOrder.go
  have hl:next k % left.length<left.length:=Nat.mod_lt _ (by omega)
  rw [List.getElem?_eq_getElem hl]
  dsimp only
  refine (pick_go next f (k+1) _ _ (by rw [List.length_eraseIdx,if_pos hl]; omega)).trans ?_
  rw [Array.toList_push,List.append_assoc]
  exact List.Perm.append_left _ (cons_erase hl)
theorem pick_perm {α : Type} (next:Nat→Nat) (xs:Array α) : (pickOrder next xs).toList.Perm xs.toList:=by
 have:=pick_go next xs.size 0 xs.toList #[] (by simp)
 simpa [pickOrder] using this
section
variable {M:Model} {A:Around} {E:Value→Shared→Prop}
theorem wp_choose {src:Source} {n:Nat} {Q:Nat→Shared→Prop} {s:Shared} (hn:n≠0) (h : ∀ i d,i<n→Q i { s with drawn:=d }) : wpAny M A (choose src n) Q E s:=fun Γ p hΓ =>
 ⟨hn,h _ _ (Nat.mod_lt _ (Nat.pos_of_ne_zero hn))⟩
theorem wp_draw {α : Type} : ∀ (n:Nat) (xs:List α) {Q:List α→Shared→Prop} {s:Shared},xs.length=n→(∀ ys d,ys.Perm xs→Q ys { s with drawn:=d })→wpAny M A (drawOrder n xs) Q E s
 | 0,xs,Q,s,hl,h=>by
  have:xs=[]:=List.length_eq_zero_iff.mp hl
  subst this
  unfold drawOrder
  exact wpAny_pure (h [] s.drawn (List.Perm.refl _))
 | n+1,[],Q,s,hl,h=>by simp at hl
 | n+1,x :: xs,Q,s,hl,h=>by
  unfold drawOrder
  refine wpAny_bind (wp_choose (by simp) fun i d hi=>?_)
  rw [List.getElem?_eq_getElem hi]
  dsimp only
  refine wpAny_bind (wp_draw n _ (by rw [List.length_eraseIdx,if_pos hi]; omega) fun ys d' hp=>?_)
  exact wpAny_pure (h _ d' ((hp.cons _).trans (cons_erase hi)))
end
end L2
namespace L2
open PySem PySem.Spec PyProof.Rows
theorem si_owner:Manifest.owners.lookup (String.ofList ['r','o','t','a','r','e','t','i','_','t','e','s'].reverse)=some Manifest.sig_set_iterator:=by kernel_rfl
theorem si_slot:Slot "set_iterator" "__next__" "set_iterator.__next__" := .of (owner := "set_iterator") (n := "__next__") (by rw [typeLookup_type,builtinLookup_eq_fast]; kernel_rfl) (by decide +kernel) (by decide +kernel) (by decide +kernel) (by first | exact .inl (by decide +kernel) | exact .inr (by decide +kernel)) (by rw [isSubtype_type]; kernel_rfl)
theorem si_entry:entryFor table "set_iterator.__next__" = some Builtin.«set_iterator.__next__»:=entryFor_of_tree (by kernel_rfl)
theorem si_args (a:Value) : argsOk "set_iterator.__next__" ⟨[a],[]⟩:=by
 unfold argsOk; rw [signature?_of (id := "set_iterator.__next__") (n:=['_','_','t','x','e','n','_','_']) (o:=['r','o','t','a','r','e','t','i','_','t','e','s']) (by kernel_rfl) si_owner]; kernel_rfl
theorem si_iter_slot:Slot "set_iterator" "__iter__" "set_iterator.__iter__" := .of (owner := "set_iterator") (n := "__iter__") (by rw [typeLookup_type,builtinLookup_eq_fast]; kernel_rfl) (by decide +kernel) (by decide +kernel) (by decide +kernel) (by first | exact .inl (by decide +kernel) | exact .inr (by decide +kernel)) (by rw [isSubtype_type]; kernel_rfl)
theorem si_iter_entry:entryFor table "set_iterator.__iter__" = some Builtin.«dict_keyiterator.__iter__» :=
 entryFor_alias (id' := "dict_keyiterator.__iter__") (by kernel_rfl) rfl (by decide +kernel) (by kernel_rfl)
theorem si_iter_args (a:Value) : argsOk "set_iterator.__iter__" ⟨[a],[]⟩:=by
 unfold argsOk; rw [signature?_of (id := "set_iterator.__iter__") (n:=['_','_','r','e','t','i','_','_']) (o:=['r','o','t','a','r','e','t','i','_','t','e','s']) (by kernel_rfl) si_owner]; kernel_rfl
theorem set_iter_entry:entryFor table "set.__iter__" = some Builtin.«frozenset.__iter__» :=
 entryFor_alias (id' := "frozenset.__iter__") (by kernel_rfl) rfl (by decide +kernel) (by kernel_rfl)
def setO (es:Array (Int × Value)) (ep:Nat) (t:SetTable) : Obj:={ cls:=.type "set", dict:=none,data:=.set es ep t }
def sitO (f:Value) (i:Nat) (a:Addr) (n ep:Nat) : Obj:={ cls:=.type "set_iterator", data:=.fields #[f,rawInt i,.ref a,rawInt n,rawInt ep] }
structure TabOk (w:World) (t:SetTable) (n:Nat) : Prop where
 fits:t.fits n=true
 up:TUp t
 led:t.led=!(w.params.followText "set-order")
theorem TabOk.len {w:World} {t:SetTable} {n:Nat} (h:TabOk w t n) : t.place.size=n:=by
 have:=h.fits
 unfold SetTable.fits at this
 rw [Bool.and_eq_true] at this
 simpa using this.1
section
variable {prog:Program} {w:World} {A:Around} {E:Value→Shared→Prop} {s:Shared}
theorem wp_setSt {a:Addr} {es:Array (Int × Value)} {ep:Nat} {t:SetTable} {Q:(Array (Int × Value) × Nat × SetTable)→Shared→Prop} (ho:s.heap.get? a=some (setO es ep t)) (T:TabOk w t es.size) (h:Q (es,ep,t) s) : wpAny (model prog w) A (setState a) Q E s :=
 wpAny_setState_of ho rfl T.fits h
theorem wp_byText {Q:Bool→Shared→Prop} (h:Q (w.params.followText "set-order") s) : wpAny (model prog w) A setsByText Q E s:=by
 unfold setsByText
 exact wpAny_bind (wpAny_askSetting (wpAny_pure h))
theorem next_text {a:Addr} {es:Array (Int × Value)} {ep:Nat} {t:SetTable} {i:Nat} {Q:Option (Value × Nat)→Shared→Prop} (ho:s.heap.get? a=some (setO es ep t)) (T:TabOk w t es.size) (b:w.params.followText "set-order" = true)
  (h:Q (((pickOrder (w.params.setOrder a ep) es)[i]?).map fun e=>(e.2,0)) s) : wpAny (model prog w) A (setNext a 0 i ep) Q E s:=by
 unfold setNext
 refine wpAny_bind (wp_setSt ho T (wpAny_bind (wp_byText ?_)))
 rw [if_pos b,if_neg (by simp)]
 unfold setWalk
 refine wpAny_bind (wpAny_bind (wp_setSt ho T (wpAny_bind (wp_byText ?_))))
 rw [if_pos b]
 exact wpAny_bind (wpAny_askSetting (wpAny_pure (wpAny_pure h)))
def fromSlot (es:Array (Int × Value)) (t:SetTable) (sl:Nat) : Option (Value × Nat):=(es[SetTable.below t.place sl]?).bind fun e=>(t.place[SetTable.below t.place sl]?).map fun j=>(e.2,j+1)
theorem next_plain {a:Addr} {es:Array (Int × Value)} {ep:Nat} {t:SetTable} {i sl:Nat} {Q:Option (Value × Nat)→Shared→Prop} (ho:s.heap.get? a=some (setO es ep t)) (T:TabOk w t es.size) (b:w.params.followText "set-order" = false) (d:(!t.plain && decide (es.size > 1))=false)
  (h:Q (fromSlot es t sl) s) : wpAny (model prog w) A (setNext a sl i ep) Q E s:=by
 unfold setNext
 refine wpAny_bind (wp_setSt ho T (wpAny_bind (wp_byText ?_)))
 rw [if_neg (by rw [b]; simp)]
 refine wpAny_ite_split (fun z=>absurd (d.symm.trans z) (by simp)) fun _=>?_
 refine wpAny_bind (wpAny_ite_split (fun z=>?_) fun _=>wpAny_pure ?_)
 ·have z:(!t.led && !es.isEmpty)=true:=z
  rw [T.led,b] at z
  simp at z
 ·refine wpAny_pure ?_
  unfold fromSlot at h
  cases e1:es[SetTable.below t.place sl]? with
  | none=>rw [e1] at h; exact h
  | some e =>
   cases e2:t.place[SetTable.below t.place sl]? with
   | none=>rw [e1,e2] at h; exact h
   | some j=>rw [e1,e2] at h; exact h
theorem next_drawn {a:Addr} {es:Array (Int × Value)} {ep:Nat} {t:SetTable} {i:Nat} {e:Int × Value} {Q:Value→Shared→Prop} (ho:s.heap.get? a=some (setO es ep t)) (T:TabOk w t es.size) (he:es[i]?=some e) (h:Q e.2 s) : wpAny (model prog w) A (setNextDrawn a i ep) Q E s:=by
 unfold setNextDrawn
 refine wpAny_bind (wp_setSt ho T ?_)
 dsimp only
 rw [if_neg (by simp),he]
 exact wpAny_bind (wpAny_pure (wpAny_pure h))
theorem si_item {I a:Addr} {es:Array (Int × Value)} {ep:Nat} {t:SetTable} {sl nx i:Nat} {x:Value} {Q:Option Value→Shared→Prop} (hI:s.heap.get? I=some (sitO (rawInt sl) i a es.size ep)) (ho:s.heap.get? a=some (setO es ep t)) (T:TabOk w t es.size)
  (hn : ∀ (A:Around) (Q:Option (Value × Nat)→Shared→Prop) (E:Value→Shared→Prop),Q (some (x,nx)) s→wpAny (model prog w) A (setNext a sl i ep) Q E s)
  (h : ∀ h',(∀ b o,b≠I→s.heap.get? b=some o→h'.get? b=some o)→h'.get? I=some (sitO (rawInt nx) (i+1) a es.size ep)→Q (some x) { s with heap:=h' }) : wpAny (model prog w) A (pyNext (.ref I)) Q E s:=by
 have hT:s.TypeIs (.ref I) "set_iterator" := ⟨_,hI,rfl⟩
 unfold pyNext
 refine wpAny_bind (wpAny_attempt (wpAny_callSpecial?_slot (name:=Str.ofString "__next__") hT si_slot (wpAny_call_entry si_slot hT si_entry ?_ (si_args _))))
 unfold Builtin.«set_iterator.__next__»
 refine wpAny_bind (wpAny_pure ?_)
 refine wpAny_bind (wpAny_fieldsOf hI rfl ?_)
 show wpAny _ _ (setEntries a >>= _) _ _ s
 refine wpAny_bind (wpAny_setEntries_of ho rfl T.fits ?_)
 rw [if_neg (by simp)]
 show wpAny _ _ (setNext a sl i ep >>= _) _ _ s
 refine wpAny_bind (hn _ _ _ ?_)
 show wpAny _ _ (setField (.ref I) 0 (rawInt nx) >>= _) _ _ s
 refine wpAny_bind (wpAny_setField hI rfl (by simp) ?_)
 have g1:=Heap.get?_update_self (Obj.mapFields (·.setIfInBounds 0 (rawInt nx))) hI rfl
 refine wpAny_bind (wpAny_setField g1 rfl (by simp [sitO,Obj.mapFields]) ?_)
 have g2:=Heap.get?_update_self (Obj.mapFields (·.setIfInBounds 1 (rawInt ((i:Int)+1)))) g1 rfl
 refine wpAny_pure ⟨_,rfl,wpAny_pure (h _ (fun b o hb e=>?_) ?_)⟩
 ·rw [Heap.get?_update_other _ _ (Ne.symm hb),Heap.get?_update_other _ _ (Ne.symm hb)]; exact e
 ·rw [g2]; rfl
theorem si_itemD {I a c:Addr} {es:Array (Int × Value)} {ep:Nat} {t:SetTable} {i p:Nat} {tp:Array Value} {m:Nat} {e:Int × Value} {Q:Option Value→Shared→Prop} (hI:s.heap.get? I=some (sitO (.ref c) i a es.size ep)) (ho:s.heap.get? a=some (setO es ep t)) (T:TabOk w t es.size)
  (hc:s.heap.get? c=some { cls:=.type "tuple", data:=.seq tp m }) (hp:tp[i]?=some (rawInt p)) (he:es[p]?=some e)
  (h : ∀ h',(∀ b o,b≠I→s.heap.get? b=some o→h'.get? b=some o)→h'.get? I=some (sitO (.ref c) (i+1) a es.size ep)→Q (some e.2) { s with heap:=h' }) : wpAny (model prog w) A (pyNext (.ref I)) Q E s:=by
 have hT:s.TypeIs (.ref I) "set_iterator" := ⟨_,hI,rfl⟩
 unfold pyNext
 refine wpAny_bind (wpAny_attempt (wpAny_callSpecial?_slot (name:=Str.ofString "__next__") hT si_slot (wpAny_call_entry si_slot hT si_entry ?_ (si_args _))))
 unfold Builtin.«set_iterator.__next__»
 refine wpAny_bind (wpAny_pure ?_)
 refine wpAny_bind (wpAny_fieldsOf hI rfl ?_)
 show wpAny _ _ (setEntries a >>= _) _ _ s
 refine wpAny_bind (wpAny_setEntries_of ho rfl T.fits ?_)
 rw [if_neg (by simp)]
 show wpAny _ _ (seqItems? (.ref c) >>= _) _ _ s
 refine wpAny_bind (wpAny_seqItems hc rfl ?_)
 dsimp only
 rw [show ((i:Int)).toNat=i from rfl,hp]
 show wpAny _ _ (setNextDrawn a p ep >>= _) _ _ s
 refine wpAny_bind (next_drawn ho T he ?_)
 refine wpAny_bind (wpAny_setField hI rfl (by simp) ?_)
 have g2:=Heap.get?_update_self (Obj.mapFields (·.setIfInBounds 1 (rawInt ((i:Int)+1)))) hI rfl
 refine wpAny_pure ⟨_,rfl,wpAny_pure (h _ (fun b o hb e=>?_) ?_)⟩
 ·rw [Heap.get?_update_other _ _ (Ne.symm hb)]; exact e
 ·rw [g2]; rfl
end
end L2
namespace L2
open PySem PySem.Spec PyProof.Rows
section
variable {prog:Program} {w:World} {A:Around} {E:Value→Shared→Prop} {s:Shared}
theorem stop_here {Q:Fin→Shared→Prop} (hh:A.handled=none) (h : ∀ e h',(∀ b o,s.heap.get? b=some o→h'.get? b=some o)→Shared.TypeIs { s with heap:=h' } e "StopIteration" → E e { s with heap:=h' }) : wpAny (model prog w) A (newExc (.type "StopIteration") [] >>= fun e=>raiseNew e) Q E s:=by
 refine wpAny_bind ?_
 simp only [newExc,newTuple]
 refine wpAny_bind (wpAny_newObj_type ?_ (by size_fits))
 refine wpAny_bind (m:=firstArgMember _ _) (wpAny_of_eq (a:=Value.none) (by simp only [firstArgMember]; rfl) ?_)
 refine wpAny_newObj_type ?_ (by size_fits)
 simp only [raiseNew]
 refine wpAny_bind (wpAny_handled ?_)
 rw [hh]
 refine wpAny_bind (wpAny_pure (wpAny_throw ?_))
 refine h _ _ (fun b o e=>Heap.get?_push_of_some _ (Heap.get?_push_of_some _ e)) ?_
 exact ⟨_,Heap.get?_push_size _ rfl,rfl⟩
theorem si_end {I a:Addr} {es:Array (Int × Value)} {ep:Nat} {t:SetTable} {sl i:Nat} {Q:Option Value→Shared→Prop} (hh:A.handled=none) (hI:s.heap.get? I=some (sitO (rawInt sl) i a es.size ep)) (ho:s.heap.get? a=some (setO es ep t)) (T:TabOk w t es.size)
  (hn : ∀ (A:Around) (Q:Option (Value × Nat)→Shared→Prop) (E:Value→Shared→Prop),Q none s→wpAny (model prog w) A (setNext a sl i ep) Q E s)
  (h : ∀ h',(∀ b o,b≠I→s.heap.get? b=some o→h'.get? b=some o)→Q none { s with heap:=h' }) : wpAny (model prog w) A (pyNext (.ref I)) Q E s:=by
 have hT:s.TypeIs (.ref I) "set_iterator" := ⟨_,hI,rfl⟩
 unfold pyNext
 refine wpAny_bind (wpAny_attempt (wpAny_callSpecial?_slot (name:=Str.ofString "__next__") hT si_slot (wpAny_call_entry si_slot hT si_entry ?_ (si_args _))))
 unfold Builtin.«set_iterator.__next__»
 refine wpAny_bind (wpAny_pure ?_)
 refine wpAny_bind (wpAny_fieldsOf hI rfl ?_)
 show wpAny _ _ (setEntries a >>= _) _ _ s
 refine wpAny_bind (wpAny_setEntries_of ho rfl T.fits ?_)
 rw [if_neg (by simp)]
 show wpAny _ _ (setNext a sl i ep >>= _) _ _ s
 refine wpAny_bind (hn _ _ _ ?_)
 show wpAny _ _ (setField (.ref I) 2 .none >>= _) _ _ s
 refine wpAny_bind (wpAny_setField hI rfl (by simp) ?_)
 refine stop_here (A:=A.in1) hh fun e h' k ty=>?_
 refine wpAny_bind (wpAny_isInstance (T := "StopIteration") (b:=true) ty isSubtype_stop ?_)
 refine wpAny_pure (h h' fun b o hb e=>k b o ?_)
 show (s.heap.update I _).get? b=some o
 rw [Heap.get?_update_other _ _ (Ne.symm hb)]; exact e
theorem si_endD {I a c:Addr} {es:Array (Int × Value)} {ep:Nat} {t:SetTable} {i:Nat} {tp:Array Value} {m:Nat} {Q:Option Value→Shared→Prop} (hh:A.handled=none) (hI:s.heap.get? I=some (sitO (.ref c) i a es.size ep)) (ho:s.heap.get? a=some (setO es ep t)) (T:TabOk w t es.size)
  (hc:s.heap.get? c=some { cls:=.type "tuple", data:=.seq tp m }) (hp:tp[i]?=none)
  (h : ∀ h',(∀ b o,b≠I→s.heap.get? b=some o→h'.get? b=some o)→Q none { s with heap:=h' }) : wpAny (model prog w) A (pyNext (.ref I)) Q E s:=by
 have hT:s.TypeIs (.ref I) "set_iterator" := ⟨_,hI,rfl⟩
 unfold pyNext
 refine wpAny_bind (wpAny_attempt (wpAny_callSpecial?_slot (name:=Str.ofString "__next__") hT si_slot (wpAny_call_entry si_slot hT si_entry ?_ (si_args _))))
 unfold Builtin.«set_iterator.__next__»
 refine wpAny_bind (wpAny_pure ?_)
 refine wpAny_bind (wpAny_fieldsOf hI rfl ?_)
 show wpAny _ _ (setEntries a >>= _) _ _ s
 refine wpAny_bind (wpAny_setEntries_of ho rfl T.fits ?_)
 rw [if_neg (by simp)]
 show wpAny _ _ (seqItems? (.ref c) >>= _) _ _ s
 refine wpAny_bind (wpAny_seqItems hc rfl ?_)
 dsimp only
 rw [show ((i:Int)).toNat=i from rfl,hp]
 show wpAny _ _ (setField (.ref I) 0 (rawInt 0) >>= _) _ _ s
 refine wpAny_bind (wpAny_setField hI rfl (by simp) ?_)
 have g1:=Heap.get?_update_self (Obj.mapFields (·.setIfInBounds 0 (rawInt 0))) hI rfl
 refine wpAny_bind (wpAny_setField g1 rfl (by simp [sitO,Obj.mapFields]) ?_)
 refine stop_here (A:=A.in1) hh fun e h' k ty=>?_
 refine wpAny_bind (wpAny_isInstance (T := "StopIteration") (b:=true) ty isSubtype_stop ?_)
 refine wpAny_pure (h h' fun b o hb e=>k b o ?_)
 show ((s.heap.update I _).update I _).get? b=some o
 rw [Heap.get?_update_other _ _ (Ne.symm hb),Heap.get?_update_other _ _ (Ne.symm hb)]; exact e
theorem si_self {I a:Addr} {f:Value} {i n ep:Nat} {Q:Value→Shared→Prop} (hI:s.heap.get? I=some (sitO f i a n ep)) (h:Q (.ref I) s) : wpAny (model prog w) A (pyIter (.ref I)) Q E s:=by
 have hT:s.TypeIs (.ref I) "set_iterator" := ⟨_,hI,rfl⟩
 refine wpAny_pyIter_slot hT si_iter_slot (wpAny_call_entry si_iter_slot hT si_iter_entry ?_ (si_iter_args _))
 show wpAny _ _ (ret (.ref I)) _ _ s
 exact wpAny_pure ⟨_,rfl, "set_iterator", _,hT,si_slot.lookup,h⟩
def plc (l:List Nat) : Nat→Nat
 | 0=>0
 | i+1=>l.getD i 0+1
theorem plc_below {l:List Nat} (u:Up l) {i:Nat} (hi:i≤l.length) : SetTable.below l.toArray (plc l i)=i:=by
 refine below_is u hi (fun k x hk hx=>?_) fun k x hk hx=>?_
 ·cases i with
  | zero=>omega
  | succ j =>
   have hj:l[j]?=some l[j]:=List.getElem?_eq_getElem (by omega)
   show x<l.getD j 0+1
   rw [List.getD_eq_getElem?_getD,hj,Option.getD_some]
   by_cases e:k=j
   ·subst e; rw [hj] at hx; cases hx; omega
   ·have:=u.at hx hj (by omega); omega
 ·cases i with
  | zero=>exact Nat.zero_le _
  | succ j =>
   have hj:l[j]?=some l[j]:=List.getElem?_eq_getElem (by have:=(List.getElem?_eq_some_iff.mp hx).1; omega)
   show l.getD j 0+1≤x
   rw [List.getD_eq_getElem?_getD,hj,Option.getD_some]
   exact u.at hj hx (by omega)
theorem wp_setDrawn {a:Addr} {es:Array (Int × Value)} {ep:Nat} {t:SetTable} {Q:Bool→Shared→Prop} (ho:s.heap.get? a=some (setO es ep t)) (T:TabOk w t es.size) (h:Q (!(w.params.followText "set-order") && (!t.plain && decide (es.size > 1))) s) : wpAny (model prog w) A (setDrawn a) Q E s:=by
 unfold setDrawn
 refine wpAny_bind (wp_setSt ho T ?_)
 exact wpAny_bind (wp_byText (wpAny_pure h))
theorem set_walks {a:Addr} {es:Array (Int × Value)} {ep:Nat} {t:SetTable} {Q:Value→Shared→Prop} (hh:A.handled=none) (ho:s.heap.get? a=some (setO es ep t)) (T:TabOk w t es.size) (hz:es.size≤1000)
  (h : ∀ (I c:Addr) (h':Heap) d (vs:List Value) (St:Nat→Heap→Prop),vs.Perm (es.toList.map (·.2))→(∀ b o,s.heap.get? b=some o→h'.get? b=some o)→s.heap.objs.size≤I→(c=a∨s.heap.objs.size≤c)→Walks prog w A I [I,a,c] [I] es.size (fun i v=>vs[i]?=some v) St→St 0 h'→Q (.ref I) { s with heap:=h',drawn:=d }) : wpAny (model prog w) A (pyIter (.ref a)) Q E s:=by
 have hT:s.TypeIs (.ref a) "set" := ⟨_,ho,rfl⟩
 have la:=Heap.lt_size ho
 refine wpAny_pyIter_slot hT PySem.F.slot_set_iter (wpAny_call_entry PySem.F.slot_set_iter hT set_iter_entry ?_ (PySem.F.args_set_iter_1 _))
 unfold Builtin.«frozenset.__iter__»
 refine wpAny_bind (m:=Builtin.Frozenset.slot0 _ _) (wpAny_pure ?_)
 unfold Builtin.Frozenset.sizeOf
 refine wpAny_bind (wpAny_bind (wpAny_setEntries_of ho rfl T.fits (wpAny_pure ?_)))
 refine wpAny_bind (wp_setDrawn ho T ?_)
 cases bt:w.params.followText "set-order" with
 | true =>
  rw [if_neg (by simp)]
  refine wpAny_bind (wpAny_pure ?_)
  refine wpAny_bind (wpAny_setEpoch_of ho rfl T.fits ?_)
  refine wpAny_bind (wpAny_newObj_type ?_ (by size_fits))
  have pm:=pick_perm (w.params.setOrder a ep) es
  have hI:(s.heap.push (sitO (rawInt 0) 0 a es.size ep)).get? s.heap.objs.size=some (sitO (rawInt 0) 0 a es.size ep):=Heap.get?_push_size _ rfl
  refine wpAny_pure ⟨_,rfl, "set_iterator", _,⟨_,hI,rfl⟩,si_slot.lookup,?_⟩
  refine h s.heap.objs.size a _ s.drawn ((pickOrder (w.params.setOrder a ep) es).toList.map (·.2)) (fun i hp=>hp.get? s.heap.objs.size=some (sitO (rawInt 0) i a es.size ep)∧hp.get? a=some (setO es ep t)) (pm.map _) (fun b o e=>Heap.get?_push_of_some _ e) (Nat.le_refl _) (.inl rfl) ?_ ⟨hI,Heap.get?_push_of_some _ ho⟩
  refine ⟨fun b hb=>by simp at hb; simp [hb],fun i h1 h2 st k=>⟨k _ (by simp) _ st.1,k _ (by simp) _ st.2⟩,fun i s1 Q1 E1 hi st q=>?_,fun s1 Q1 E1 st q=>?_,fun i s1 Q1 E1 st q=>si_self st.1 q⟩
  ·have hs:(pickOrder (w.params.setOrder a ep) es).size=es.size:=by simpa using pm.length_eq
   have hx:(pickOrder (w.params.setOrder a ep) es)[i]?=some ((pickOrder (w.params.setOrder a ep) es)[i]'(by omega)):=Array.getElem?_eq_getElem (by omega)
   refine si_item st.1 st.2 T (fun A' Q' E' q'=>next_text st.2 T bt (by rw [hx]; exact q')) fun h' k hI'=>q _ h' s1.toks ?_ ⟨hI',k _ _ (Nat.ne_of_lt la) st.2⟩ fun b o hb e=>k b o (by simpa using hb) e
   rw [List.getElem?_map,Array.getElem?_toList,hx]; rfl
  ·have hs:(pickOrder (w.params.setOrder a ep) es).size=es.size:=by simpa using pm.length_eq
   exact si_end hh st.1 st.2 T (fun A' Q' E' q'=>next_text st.2 T bt (by rw [Array.getElem?_eq_none (by omega)]; exact q')) fun h' k=>q h' s1.toks fun b o hb e=>k b o (by simpa using hb) e
 | false =>
  cases dr:(!t.plain && decide (es.size > 1)) with
  | false =>
   rw [if_neg (by simp)]
   refine wpAny_bind (wpAny_pure ?_)
   refine wpAny_bind (wpAny_setEpoch_of ho rfl T.fits ?_)
   refine wpAny_bind (wpAny_newObj_type ?_ (by size_fits))
   have hI:(s.heap.push (sitO (rawInt 0) 0 a es.size ep)).get? s.heap.objs.size=some (sitO (rawInt 0) 0 a es.size ep):=Heap.get?_push_size _ rfl
   refine wpAny_pure ⟨_,rfl, "set_iterator", _,⟨_,hI,rfl⟩,si_slot.lookup,?_⟩
   have pl:t.place.toList.length=es.size:=by rw [Array.length_toList]; exact T.len
   refine h s.heap.objs.size a _ s.drawn (es.toList.map (·.2)) (fun i hp=>hp.get? s.heap.objs.size=some (sitO (rawInt (plc t.place.toList i)) i a es.size ep)∧hp.get? a=some (setO es ep t)) (.refl _) (fun b o e=>Heap.get?_push_of_some _ e) (Nat.le_refl _) (.inl rfl) ?_ ⟨hI,Heap.get?_push_of_some _ ho⟩
   refine ⟨fun b hb=>by simp at hb; simp [hb],fun i h1 h2 st k=>⟨k _ (by simp) _ st.1,k _ (by simp) _ st.2⟩,fun i s1 Q1 E1 hi st q=>?_,fun s1 Q1 E1 st q=>?_,fun i s1 Q1 E1 st q=>si_self st.1 q⟩
   ·have bl:SetTable.below t.place (plc t.place.toList i)=i:=plc_below T.up (by omega)
    have hx:es[i]?=some es[i]:=Array.getElem?_eq_getElem hi
    have hp:t.place[i]?=some (t.place[i]'(by rw [T.len]; exact hi)):=Array.getElem?_eq_getElem (by rw [T.len]; exact hi)
    have hn:plc t.place.toList (i+1)=(t.place[i]'(by rw [T.len]; exact hi))+1:=by
     show t.place.toList.getD i 0+1=_
     rw [List.getD_eq_getElem?_getD,Array.getElem?_toList,hp]; rfl
    refine si_item (nx:=plc t.place.toList (i+1)) (x:=es[i].2) st.1 st.2 T (fun A' Q' E' q'=>next_plain st.2 T bt dr (by unfold fromSlot; rw [bl,hx,hp]; rw [hn] at q'; exact q')) fun h' k hI'=>q _ h' s1.toks ?_ ⟨hI',k _ _ (Nat.ne_of_lt la) st.2⟩ fun b o hb e=>k b o (by simpa using hb) e
    rw [List.getElem?_map,Array.getElem?_toList,hx]; rfl
   ·have bl:SetTable.below t.place (plc t.place.toList es.size)=es.size:=plc_below T.up (by omega)
    exact si_end hh st.1 st.2 T (fun A' Q' E' q'=>next_plain st.2 T bt dr (by unfold fromSlot; rw [bl,Array.getElem?_eq_none (Nat.le_refl _)]; exact q')) fun h' k=>q h' s1.toks fun b o hb e=>k b o (by simpa using hb) e
  | true =>
   rw [if_pos (by simp)]
   refine wpAny_bind (wp_draw es.size (List.range es.size) (by simp) fun ys d hp=>?_)
   have yl:ys.length=es.size:=by simpa using hp.length_eq
   have ylt : ∀ y∈ys,y<es.size:=fun y hy=>List.mem_range.mp (hp.mem_iff.mp hy)
   refine wpAny_bind (wpAny_newObj_type ?_ (by show (ys.map fun (i:Nat)=>rawInt i).toArray.size≤sizeLine; simp only [List.size_toArray,List.length_map]; rw [yl]; exact Nat.le_trans hz (by decide)))
   have ht:(s.heap.push { cls:=.type "tuple", data:=.seq (ys.map fun (i:Nat)=>rawInt i).toArray }).get? s.heap.objs.size=some { cls:=.type "tuple", data:=.seq (ys.map fun (i:Nat)=>rawInt i).toArray }:=Heap.get?_push_size _ rfl
   have ho1:=Heap.get?_push_of_some ({ cls:=.type "tuple", data:=.seq (ys.map fun (i:Nat)=>rawInt i).toArray } : Obj) ho
   refine wpAny_bind (wpAny_setEpoch_of ho1 rfl T.fits ?_)
   refine wpAny_bind (wpAny_newObj_type ?_ (by size_fits))
   have I1:(s.heap.push { cls:=.type "tuple", data:=.seq (ys.map fun (i:Nat)=>rawInt i).toArray }).objs.size=s.heap.objs.size+1:=by rw [size_push']
   have hI:=Heap.get?_push_size (s.heap.push { cls:=.type "tuple", data:=.seq (ys.map fun (i:Nat)=>rawInt i).toArray }) (o:=sitO (.ref s.heap.objs.size) 0 a es.size ep) rfl
   refine wpAny_pure ⟨_,rfl, "set_iterator", _,⟨_,hI,rfl⟩,si_slot.lookup,?_⟩
   have yv : ∀ i,(ys.map fun y=>(es.toList.getD y default).2)[i]?=(ys[i]?).map fun y=>(es.toList.getD y default).2:=fun i=>List.getElem?_map
   have pv:(ys.map fun y=>(es.toList.getD y default).2).Perm (es.toList.map (·.2)):=by
    have h1:=hp.map fun y=>(es.toList.getD y default).2
    refine h1.trans (List.Perm.of_eq ?_)
    apply List.ext_getElem?
    intro i
    rw [List.getElem?_map,List.getElem?_map]
    by_cases c:i<es.size
    ·rw [List.getElem?_range c,Array.getElem?_toList,Array.getElem?_eq_getElem c]
     simp [List.getD_eq_getElem?_getD,c]
    ·rw [List.getElem?_eq_none (by simp; omega),Array.getElem?_toList,Array.getElem?_eq_none (by omega)]; rfl
   refine h (s.heap.push { cls:=.type "tuple", data:=.seq (ys.map fun (i:Nat)=>rawInt i).toArray }).objs.size s.heap.objs.size _ d (ys.map fun y=>(es.toList.getD y default).2) (fun i hp=>hp.get? (s.heap.push { cls:=.type "tuple", data:=.seq (ys.map fun (i:Nat)=>rawInt i).toArray }).objs.size=some (sitO (.ref s.heap.objs.size) i a es.size ep)∧hp.get? a=some (setO es ep t)∧hp.get? s.heap.objs.size=some { cls:=.type "tuple", data:=.seq (ys.map fun (i:Nat)=>rawInt i).toArray }) pv (fun b o e=>Heap.get?_push_of_some _ (Heap.get?_push_of_some _ e)) (by omega) (.inr (Nat.le_refl _)) ?_ ⟨hI,Heap.get?_push_of_some _ ho1,Heap.get?_push_of_some _ ht⟩
   refine ⟨fun b hb=>by simp at hb; simp [hb],fun i h1 h2 st k=>⟨k _ (by simp) _ st.1,k _ (by simp) _ st.2.1,k _ (by simp) _ st.2.2⟩,fun i s1 Q1 E1 hi st q=>?_,fun s1 Q1 E1 st q=>?_,fun i s1 Q1 E1 st q=>si_self st.1 q⟩
   ·have iy:i<ys.length:=by omega
    have hy:ys[i]?=some ys[i]:=List.getElem?_eq_getElem iy
    have ey:=ylt _ (List.getElem_mem iy)
    refine si_itemD (p:=ys[i]) (e:=es[ys[i]]) st.1 st.2.1 T st.2.2 (by rw [List.getElem?_toArray,List.getElem?_map,hy]; rfl) (Array.getElem?_eq_getElem ey) fun h' k hI'=>q _ h' s1.toks ?_ ⟨hI',k _ _ (Nat.ne_of_lt (by rw [I1]; exact Nat.lt_succ_of_lt la)) st.2.1,k _ _ (Nat.ne_of_lt (by rw [I1]; exact Nat.lt_succ_self _)) st.2.2⟩ fun b o hb e=>k b o (by simpa using hb) e
    rw [yv,hy]
    simp [List.getD_eq_getElem?_getD,ey]
   ·exact si_endD hh st.1 st.2.1 T st.2.2 (by rw [List.getElem?_toArray]; exact List.getElem?_eq_none (by simp; omega)) fun h' k=>q h' s1.toks fun b o hb e=>k b o (by simpa using hb) e
end
end L2
namespace L2
open PySem PySem.Spec PyProof.Rows
section
variable {prog:Program} {w:World} {A:Around} {E:Value→Shared→Prop} {s:Shared}
theorem hint_set {r:Addr} {Q:Bool→Shared→Prop} (hT:s.TypeIs (.ref r) "set") (h:Q false s) : wpAny (model prog w) A (Builtin.List.listLengthHint (.ref r)) Q E s:=by
 unfold Builtin.List.listLengthHint
 refine wpAny_bind (wpAny_specialOf hT PySem.F.slot_set_len.lookup ?_)
 generalize hid:("set.__len__" : String)=idn
 wp_delta
 rw [show splitId idn=some ("set", "__len__") from by subst hid; decide +kernel]
 subst hid
 refine wpAny_bind (wpAny_isInstance (T := "set") (b:=true) hT (by rw [isSubtype_type]; kernel_rfl) ?_)
 refine wpAny_ite_split (fun z=>absurd z (by decide)) (fun _=>?_)
 refine wpAny_ite_split (fun _=>?_) (fun z=>absurd (by decide +kernel) z)
 exact wpAny_bind (wpAny_typeOf hT (wpAny_pure h))
theorem wants_set {R:Result→Shared→Prop} {a S:Addr} {es:Array (Int × Value)} {ep:Nat} {t:SetTable} {c₀ : Nat} {res:Value} (hh:A.handled=none) (ho:s.heap.get? a=some (setO es ep t)) (T:TabOk w t es.size) (hz:es.size≤1000) (hS:s.heap.get? S=some { cls:=.type "list", data:=.seq #[] c₀ })
  (q : ∀ (vs:List Value) h' tk d c,vs.Perm (es.toList.map (·.2))→(∀ b o,b≠S→s.heap.get? b=some o→h'.get? b=some o)→h'.get? S=some { cls:=.type "list", dict:=none,data:=.seq vs.toArray c,slots:=#[] }→R (.ok (.ret res)) { s with heap:=h',toks:=tk,drawn:=d }) :
  wpAny (model prog w) A.in1 (Builtin.List.listExtendWith (.ref S) (.ref a) res) (fun fin s'=>match fin with | .done f=>R (.ok f) s' | .again c'=>c'.quiet=true∧codeAny (model prog w) A c' R s') (fun e s'=>R (.error e) s') s:=by
 have ne:S≠a:=fun e=>by rw [e,ho] at hS; have z:=congrArg (fun o:Option Obj=>o.map (·.cls)) hS; exact absurd z (by simp [setO])
 have hT:s.TypeIs (.ref a) "set" := ⟨_,ho,rfl⟩
 have lS:=Heap.lt_size hS
 unfold Builtin.List.listExtendWith
 refine wpAny_bind (wpAny_typeOf (T := "set") hT ?_)
 have h1:Builtin.List.listSameRef (.ref S) (.ref a)=false:=by simp [Builtin.List.listSameRef,ne]
 simp only [h1,show (Value.type "set" == Value.type "list")=false by decide,show (Value.type "set" == Value.type "tuple")=false by decide,Bool.or_false,Bool.false_eq_true,if_false]
 refine wpAny_bind (set_walks (A:=A.in1) hh ho T hz fun I c h0 d vs St pv kp lI hc W st=>?_)
 have nI:S≠I:=Nat.ne_of_lt (Nat.lt_of_lt_of_le lS lI)
 have nc:S≠c:=by
  rcases hc with rfl | hc
  ·exact ne
  ·exact Nat.ne_of_lt (Nat.lt_of_lt_of_le lS hc)
 have nf:S∉[I,a,c]:=by simp only [List.mem_cons,List.not_mem_nil,or_false,not_or]; exact ⟨nI,ne,nc⟩
 have vl:vs.length=es.size:=by rw [pv.length_eq,List.length_map,Array.length_toList]
 have key : ∀ (h:Heap) (c₁ tk:Nat),St 0 h→(∀ b o,b≠S→s.heap.get? b=some o→h.get? b=some o)→h.get? S=some { cls:=.type "list", data:=.seq #[] c₁ }→codeAny (model prog w) A (.builtin "list.extend.loop" ⟨[.ref S,.ref I,res],[]⟩) R { s with heap:=h,toks:=tk,drawn:=d }:=by
  intro h c₁ tk hst hk hS₁
  refine codeAny_extend_loopS W.toS (Nat.le_trans hz (by decide)) S nf res es.size 0 _ #[] c₁ rfl (Nat.zero_le _) hst hS₁ (ItemsOf.nil _) fun s' acc' c' hm hS' hacc=>?_
  rw [Moved.eq_with hm]
  have ev:acc'=vs.toArray:=by
   have el:acc'.toList=vs:=by
    apply List.ext_getElem?
    intro i
    rw [Array.getElem?_toList]
    by_cases z:i<acc'.size
    ·rw [Array.getElem?_eq_getElem z]
     exact (hacc.2 i _ (Array.getElem?_eq_getElem z)).symm
    ·have:=hacc.1
     rw [Array.getElem?_eq_none (by omega),List.getElem?_eq_none (by omega)]
   rw [← el]
  subst ev
  refine q vs s'.heap s'.toks d c' pv (fun b o hb e=>hm.heap b o (fun hmem=>?_) (hk b o hb e)) hS'
  rcases List.mem_cons.mp hmem with e' | hmem
  ·exact hb e'
  ·have lb:=Heap.lt_size e
   rw [List.mem_singleton.mp hmem] at lb
   exact Nat.lt_irrefl _ (Nat.lt_of_lt_of_le lb lI)
 have hS₁:=kp _ _ hS
 refine wpAny_bind (wpAny_holding (hint_set ⟨_,kp _ _ ho,rfl⟩ ?_))
 refine wpAny_ite_split (fun _=>?_) (fun _=>wpAny_pure ⟨plainId_quiet PySem.F.plain_extend_loop _,key _ c₀ _ st (fun b o _ e=>kp b o e) hS₁⟩)
 refine wpAny_bind (wpAny_rule (wpAny_bind ?_))
 show wpAny _ _ (updateSeq S (·.push .none) >>= fun _=>updateSeq S (·.pop)) _ _ _
 refine wpAny_bind (wpAny_updateSeq hS₁ rfl ?_)
 have u1:=Heap.get?_update_self (Obj.mapSeq (·.push Value.none)) hS₁ rfl
 refine wpAny_updateSeq (hz:=by seq_fits) u1 rfl ?_
 have u2:=Heap.get?_update_self (Obj.mapSeq (·.pop)) u1 rfl
 refine wpAny_pure ⟨plainId_quiet PySem.F.plain_extend_loop _,key _ _ _ (W.frame 0 _ _ st fun b hb o e=>?_) (fun b o hb e=>?_) u2⟩
 ·have z:S≠b:=fun z=>nf (z ▸ hb)
  exact (Heap.get?_update_other _ _ z).trans ((Heap.get?_update_other _ _ z).trans e)
 ·exact (Heap.get?_update_other _ _ (Ne.symm hb)).trans ((Heap.get?_update_other _ _ (Ne.symm hb)).trans (kp b o e))
theorem collect_set {a:Addr} {es:Array (Int × Value)} {ep:Nat} {t:SetTable} {Q:List Value→Shared→Prop} (hh:A.handled=none) (ho:s.heap.get? a=some (setO es ep t)) (T:TabOk w t es.size) (hz:es.size≤1000)
  (q : ∀ (vs:List Value) h' tk d,vs.Perm (es.toList.map (·.2))→(∀ b o,s.heap.get? b=some o→h'.get? b=some o)→s.heap.objs.size≤h'.objs.size→Q vs { s with heap:=h',toks:=tk,drawn:=d }) : wpAny (model prog w) A (collect (.ref a)) Q E s:=by
 have hS:(s.heap.push (seqObj "list" #[] 0)).get? s.heap.objs.size=some (seqObj "list" #[] 0):=Heap.get?_push_size _ rfl
 unfold collect
 refine wpAny_bind (wpAny_runValue (codeAny_builtin entry_proto_collect' ?_))
 refine wpAny_bind (wpAny_newList (wpAny_pure ⟨Code.quiet_builtin _ (by decide +kernel),codeAny_builtin entry_list_iadd' ?_⟩))
 rw [Around.under_plainId (show plainId "list.__iadd__" = true by decide +kernel) _]
 refine wants_set (R:=fun r s'=>match r with
  | .ok (.ret v)=>wpAny (model prog w) A (match v with
   | .ref a=>(do
    let o ← load a
    match o.data with
    | .seq xs _=>pure xs.toList
    | _=>unsupported "internal:collect")
   | _=>unsupported "internal:collect") Q E s'
  | .ok _=>False
  | .error e=>E e s') (s:={ s with heap:=s.heap.push (seqObj "list" #[] 0) }) (S:=s.heap.objs.size) hh (Heap.get?_push_of_some _ ho) T hz hS fun vs h' tk d c pv k hl=>?_
 refine wpAny_bind (wpAny_load hl ?_)
 show wpAny _ _ (pure vs.toArray.toList) _ _ _
 rw [List.toList_toArray]
 exact wpAny_pure (q vs h' tk d pv (fun b o e=>k b o (Nat.ne_of_lt (Heap.lt_size e)) (Heap.get?_push_of_some _ e)) (Nat.le_of_lt (Heap.lt_size hl)))
end
end L2
namespace L2
open PySem PySem.Spec PyProof.Rows
def Adds (prog:Program) (w:World) (u:Nat) (h₀ : Heap) (S:Addr) (n:Nat) (P:Nat→Value→Prop) (Rel:Nat→Array (Int × Value)→SetTable→Prop) : Prop :=
 ∀ (A:Around) (E:Value→Shared→Prop) (s:Shared) (Q:Bool→Shared→Prop) (i:Nat) (v:Value) (es:Array (Int × Value)) (ep:Nat) (t:SetTable),A.handled=none→A.units≤u→i<n→P i v→Rel i es t→s.heap.get? S=some (setO es ep t)→(∀ b o,h₀.get? b=some o→s.heap.get? b=some o) →
  (∀ es' ep' t' h' tk b,Rel (i+1) es' t'→h'.get? S=some (setO es' ep' t')→(∀ b o,b≠S→s.heap.get? b=some o→h'.get? b=some o)→s.toks≤tk→Q b { s with heap:=h',toks:=tk })→wpAny (model prog w) A (setAdd S v) Q E s
section
variable {prog:Program} {w:World} {A:Around} {E:Value→Shared→Prop} {s:Shared}
theorem set_loop {R:Result→Shared→Prop} {I S:Addr} {fp wr:List Addr} {G:Array GenState→Array GenState→Prop} {n u:Nat} {P:Nat→Value→Prop} {St:Nat→Shared→Prop} {Rel:Nat→Array (Int × Value)→SetTable→Prop} {h₀ : Heap} (hh:A.handled=none) (hu:A.units+1≤u) (W:WalksS prog w A.in1 I fp wr G n P St) (hf:S∉fp) (hb : ∀ b o,h₀.get? b=some o→b∉S :: wr) (ad:Adds prog w u h₀ S n P Rel) :
  ∀ (k i:Nat) (s:Shared) (es:Array (Int × Value)) (ep:Nat) (t:SetTable),n - i=k→i≤n→St i s→Rel i es t→s.heap.get? S=some (setO es ep t)→(∀ b o,h₀.get? b=some o→s.heap.get? b=some o) →
   (∀ s' es' ep' t',Moved (S :: wr) G s s'→Rel n es' t'→s'.heap.get? S=some (setO es' ep' t')→R (.ok (.ret .none)) s') →
   codeAny (model prog w) A (.builtin "set.update.loop" ⟨[.ref S,.ref I],[]⟩) R s:=by
 have hw:S∉wr:=fun h=>hf (W.sub _ h)
 have sub : ∀ b∈wr,b∈S :: wr:=fun b hb=>List.mem_cons_of_mem _ hb
 intro k
 induction k with
 | zero =>
  intro i s es ep t hk hi st rel hS old hR
  have e:i=n:=by omega
  subst e
  refine codeAny_builtin F.entry_set_update_loop ?_
  rw [Around.under_plainId F.plain_set_update_loop _]
  show wpAny _ A.in1 (pyNext (.ref I) >>= _) _ _ s
  refine wpAny_bind (W.done s _ _ st fun s' hm=>?_)
  exact wpAny_pure (hR s' es ep t (hm.mono sub) rel (hm.heap S _ hw hS))
 | succ k ih =>
  intro i s es ep t hk hi st rel hS old hR
  have hlt:i<n:=by omega
  refine codeAny_builtin F.entry_set_update_loop ?_
  rw [Around.under_plainId F.plain_set_update_loop _]
  show wpAny _ A.in1 (pyNext (.ref I) >>= _) _ _ s
  refine wpAny_bind (W.item i s _ _ hlt st fun v s' hP st' hm=>?_)
  show wpAny _ A.in1 (holding [v] (setAdd S v) >>= _) _ _ s'
  refine wpAny_bind (wpAny_holding (ad A.in1 _ s' _ i v es ep t hh ?_ hlt hP rel (hm.heap S _ hw hS) (fun b o e=>hm.heap b o (fun z=>hb b o e (sub b z)) (old b o e)) fun es' ep' t' h' tk b rel' hS' kp htk=>?_))
  ·exact Nat.le_trans (Nat.le_refl _) hu
  ·refine wpAny_pure ⟨plainId_quiet F.plain_set_update_loop _,ih (i+1) _ es' ep' t' (by omega) hlt (W.frame _ s' _ _ st' htk fun b hb o e=>kp b o (fun z=>hf (z ▸ hb)) e) rel' hS' (fun b o e=>kp b o (fun z=>hb b o e (by rw [z]; exact List.mem_cons_self)) (hm.heap b o (fun z=>hb b o e (sub b z)) (old b o e))) fun s'' es'' ep'' t'' hm'' r'' g''=>?_⟩
   exact hR s'' es'' ep'' t'' (Moved.trans W.gtrans ((hm.mono sub).then_heap htk fun b o hb e=>kp b o (fun z=>hb (by rw [z]; exact List.mem_cons_self)) e) hm'') r'' g''
theorem set_made {a:Value} {Q:Value→Shared→Prop} (h:Q (.ref s.heap.objs.size) { s with heap:=s.heap.push (setO #[] 0 (.fresh 0 0 (!(w.params.followText "set-order")))) }) :
  codeAny (model prog w) A (.call (.builtin "set.__new__") ⟨[.type "set", a],[]⟩) (wants Q E) s:=by
 refine codeAny_of_tree ?_
 show wpAny _ A.in1 (do checkBuiltinCall "set.__new__" ⟨[.type "set", a],[]⟩; again (.builtin "set.__new__" ⟨[.type "set", a],[]⟩)) _ _ s
 refine wpAny_bind (wpAny_of_eq (F.newCall_set_1 a) (wpAny_pure ⟨plainId_quiet F.plain_set_new _,codeAny_builtin F.entry_set_new ?_⟩))
 rw [Around.under_plainId F.plain_set_new _]
 unfold Builtin.«set.__new__» Builtin.Frozenset.newClass
 have hsub:=sub_set_self
 obtain ⟨hp,g,d,tk,os⟩:=s
 dsimp only
 wp_walk
 refine wpAny_askSetting (wpAny_pure ?_)
 dsimp only
 simp only [newObj]
 exact wpAny_bind (wpAny_alloc (wpAny_pure (wpAny_pure h)))
set_option maxHeartbeats 8000000 in
theorem set_call {l:Addr} {items:Array Value} {u:Nat} {Rel:Nat→Array (Int × Value)→SetTable→Prop} {Q:Value→Shared→Prop} (hh:A.handled=none) (hl:s.heap.IsList l items) (hu:A.units+8≤u)
  (h0:Rel 0 #[] (.fresh 0 0 (!(w.params.followText "set-order")))) (ad:Adds prog w u s.heap s.heap.objs.size items.size (fun i v=>items[i]?=some v) Rel)
  (h : ∀ es ep t h' tk,Rel items.size es t→h'.get? s.heap.objs.size=some (setO es ep t)→(∀ b o,s.heap.get? b=some o→h'.get? b=some o)→Q (.ref s.heap.objs.size) { s with heap:=h',toks:=tk }) :
  wpAny (model prog w) A (call (.type "set") [.ref l]) Q E s:=by
 have cs:=F.called_set
 obtain ⟨c,tl,m1⟩:=cs.mro; have m2:=cs.made; have m3:=cs.sub; have m4:=cs.notType; have m5:=cs.canCreate; have m6:=F.typeCall_set_1 (.ref l)
 refine wpAny_call (codeAny_of_tree (show wpAny _ _ (callAny (.type "set") _) _ _ _ from ?_))
 refine wpAny_pure ⟨Code.quiet_builtin _ (by decide +kernel),codeAny_builtin F.entry_type_call ?_⟩
 have wt:=Around.under_plain (A:=A) (weight_type_call_type "set" [.ref l] []) rfl; rw [wt]; clear wt
 repeat any_goals (first | assumption | wp_step)
 refine codeAny_mono (set_made (a:=.ref l) (E:=E) (Q:=fun obj s₁=>obj=.ref s.heap.objs.size∧s₁={ s with heap:=s.heap.push (setO #[] 0 (.fresh 0 0 (!(w.params.followText "set-order")))) }) ⟨rfl,rfl⟩) fun r s₁ hr=>?_
 generalize hled:(!(w.params.followText "set-order"))=led at hr h0
 cases r with
 | error e=>exact hr
 | ok fl =>
  cases fl with
  | ret obj =>
   obtain ⟨rfl,rfl⟩:=hr
   have hS:(s.heap.push (setO #[] 0 (.fresh 0 0 led))).get? s.heap.objs.size=some (setO #[] 0 (.fresh 0 0 led)):=Heap.get?_push_size _ rfl
   have hT:Shared.TypeIs { s with heap:=s.heap.push (setO #[] 0 (.fresh 0 0 led)) } (.ref s.heap.objs.size) "set" := ⟨_,hS,rfl⟩
   have i1:=cs.init.lookup; have i2:=cs.init.bind (.ref s.heap.objs.size)
   repeat any_goals (first | assumption | wp_step)
   refine codeAny_mono (codeAny_call_builtin (R:=wants (fun r s₂=>r=.none∧∃ es ep t h' tk,s₂={ s with heap:=h',toks:=tk }∧Rel items.size es t∧h'.get? s.heap.objs.size=some (setO es ep t)∧∀ b o,s.heap.get? b=some o→h'.get? b=some o) E) cs.init.plain F.entry_set_init (check_set_init_1 hT ?_)) fun r₂ s₂ hr₂=>?_
   ·obtain ⟨⟨oc,odict,od,oslots⟩,hol,hcl,nl,hdl⟩:=hl
    simp only at hcl hdl; subst hcl hdl
    have hol':(s.heap.push (setO #[] 0 (.fresh 0 0 led))).get? l=some { cls:=.type "list", dict:=odict,data:=.seq items nl,slots:=oslots }:=Heap.get?_push_of_some _ hol
    have q1:=F.sub_list_set; have q2:=F.sub_list_frozenset; have q3:(Value.type "list" == Value.type "dict")=false:=by decide
    have hl1:(s.heap.push (setO #[] 0 (.fresh 0 0 led))).IsList l items:=⟨_,hol',rfl,nl,rfl⟩
    unfold setO at hS hT hol' hl1 ⊢
    unfold Builtin.«set.__init__» noKeywords Builtin.Frozenset.updateFrom
    generalize gi:pyIter=it
    wp_walk
    subst gi
    refine wpAny_pyIter_list hl1 (wpAny_bind (wpAny_runValue ?_))
    have lS:l<s.heap.objs.size:=Heap.lt_size hol
    have hh3:A.in1.in1.in1.handled=none:=by simp [hh]
    have nI:l≠(s.heap.push { cls:=.type "set", dict:=none,data:=.set #[] 0 (.fresh 0 0 led) }).objs.size:=by
     rw [Heap.size_push]; exact Nat.ne_of_lt (Nat.lt_succ_of_lt lS)
    have hSf:s.heap.objs.size∉[(s.heap.push { cls:=.type "set", dict:=none,data:=.set #[] 0 (.fresh 0 0 led) }).objs.size,l]:=by
     rw [Heap.size_push]; simp only [List.mem_cons,List.mem_singleton,List.not_mem_nil,or_false,not_or]
     exact ⟨Nat.ne_of_lt (Nat.lt_succ_self _),Nat.ne_of_gt lS⟩
    have far : ∀ (b:Addr) (o:Obj),s.heap.get? b=some o→b∉[s.heap.objs.size,(s.heap.push { cls:=.type "set", dict:=none,data:=.set #[] 0 (.fresh 0 0 led) }).objs.size]:=fun b o e=>by
     have lb:=Heap.lt_size e
     rw [Heap.size_push]; simp only [List.mem_cons,List.mem_singleton,List.not_mem_nil,or_false,not_or]
     exact ⟨Nat.ne_of_lt lb,Nat.ne_of_lt (Nat.lt_succ_of_lt lb)⟩
    refine set_loop (h₀:=s.heap) (u:=u) ?hha ?huu (Walks.list hh3 _ l nI items).toS hSf far ad (items.size - 0) 0 _ #[] 0 (.fresh 0 0 led) (by omega) (Nat.zero_le _) ⟨⟨_,Heap.get?_push_size _ rfl,rfl,rfl⟩,(hl1.push _)⟩ h0 (Heap.get?_push_of_some _ hS) (fun b o e=>Heap.get?_push_of_some _ (Heap.get?_push_of_some _ e)) ?hR
    case hha=>exact hh
    case huu=>exact Nat.le_trans (by first | exact Nat.le_refl _ | (show _≤A.units+8; simp [Around.in1]; done) | (show _≤A.units+8; simp [Around.in1]; omega)) hu
    case hR =>
     intro s' es ep t hm rel hg
     obtain ⟨h',g',d',tk',os'⟩:=s'
     obtain rfl:g'=s.gens:=hm.gens; obtain rfl:d'=s.drawn:=hm.drawn; obtain rfl:os'=s.os:=hm.os
     refine (wpAny_pure ?_:wpAny _ _ _ _ _ _)
     show wpAny _ _ (ret Value.none) _ _ _
     exact wpAny_pure ⟨rfl,es,ep,t,h',tk',rfl,rel,hg,fun b o e=>hm.heap b o (far b o e) (Heap.get?_push_of_some _ (Heap.get?_push_of_some _ e))⟩
   ·cases r₂ with
    | error e=>exact hr₂
    | ok fl₂ =>
     cases fl₂ with
     | ret r =>
      obtain ⟨rfl,es,ep,t,h',tk,rfl,rel,hg,kp⟩:=hr₂
      repeat any_goals (first | assumption | wp_step)
      exact h _ _ _ _ _ rel hg kp
     | _=>exact hr₂.elim
  | _=>exact hr.elim
end
end L2
namespace L2
open PySem PySem.Spec PyProof.Rows
def keyI (e:Int × Value) : Int:=match e.2 with | .int n _=>n | _=>0
structure RelI (prog:Program) (w:World) (ns:List Int) (i:Nat) (es:Array (Int × Value)) (t:SetTable) : Prop where
 tab:TabOk w t es.size
 few:es.size≤i
 els:ElemsOf (intKind prog w) es.toList
 one:(es.toList.map keyI).Nodup
 mem : ∀ k,k∈es.toList.map keyI↔k∈ns.take i
section
variable {prog:Program} {w:World} {A:Around} {E:Value→Shared→Prop} {s:Shared}
theorem keyI_is {l:List (Int × Value)} (h:ElemsOf (intKind prog w) l) {e:Int × Value} (he:e∈l) : ∃ tk,e.2=.int (keyI e) tk:=by
 obtain ⟨⟨k,hk,_⟩,_⟩:=h e he
 obtain ⟨tk,z⟩:=Value.isInt_shape hk
 exact ⟨tk,by unfold keyI; rw [z]⟩
theorem isI_iff {v:Value} {k n:Int} {tk:Tok} (e:v=.int n tk) : (intKind prog w).is k v=decide (k=n):=by
 subst e
 exact KeyKind.is_eq_decide (intKind_is prog w n tk) k
theorem put_set {h:Heap} {a:Addr} {es es':Array (Int × Value)} {ep:Nat} {t t':SetTable} (ho:h.get? a=some (setO es ep t)) : (h.update a (Obj.putSet es' t')).get? a=some (setO es' (ep+1) t'):=by
 have:=Heap.get?_update_self (Obj.putSet es' t') ho (by rw [putSet_of es' t' (o:=setO es ep t) rfl]; rfl)
 rw [putSet_of es' t' (o:=setO es ep t) rfl] at this
 exact this
theorem add_tail {g:Bool→Sem Unit} (hg : ∀ (b:Bool) (s₁ : Shared) (Q':Unit→Shared→Prop),Q' () s₁→wpAny (model prog w) A (g b) Q' E s₁) {a:Addr} {es er:Array (Int × Value)} {ep:Nat} {t tb:SetTable} {wd:Bool} {R:Option Bool→Shared→Prop} (ho:s.heap.get? a=some (setO es ep t)) (T2:TabOk w tb er.size) (hb:er.size<scanBound)
  (h : ∀ es2 ep2 t3 h',es2.toList.Perm er.toList→TabOk w t3 es2.size→h'.get? a=some (setO es2 ep2 t3)→(∀ b o,b≠a→s.heap.get? b=some o→h'.get? b=some o)→R (some true) { s with heap:=h' }) :
  wpAny (model prog w) A (do
    storeSet a er tb
    if (!wd && tb.tooFull)=true then do
      g (relayAll tb er (SetTable.grown er.size)).2.2
      storeSet a (relayAll tb er (SetTable.grown er.size)).1 (relayAll tb er (SetTable.grown er.size)).2.1
      pure (some true)
     else pure (some true)) R E s:=by
 refine wpAny_bind (wpAny_storeSet_of ho rfl ?_ (fits_of_scanBound hb))
 have g1:=put_set (es':=er) (t':=tb) ho
 have k1 : ∀ b o,b≠a→s.heap.get? b=some o→(s.heap.update a (Obj.putSet er tb)).get? b=some o:=fun b o hb e=>(Heap.get?_update_other _ _ (Ne.symm hb)).trans e
 split
 ·have hp:=relayAll_perm tb er (SetTable.grown er.size)
  have hf:=relayAll_fits tb er (SetTable.grown er.size)
  have hu:=relayAll_up tb er (SetTable.grown er.size)
  generalize relayAll tb er (SetTable.grown er.size)=Rl at hp hf hu ⊢
  obtain ⟨es2,t3,gv⟩:=Rl
  dsimp only at hp hf hu ⊢
  have sz:es2.size=er.size:=by rw [← Array.length_toList,hp.length_eq,Array.length_toList]
  refine wpAny_bind (hg _ _ _ ?_)
  refine wpAny_bind (wpAny_storeSet_of g1 rfl ?_ (fits_of_scanBound (by omega)))
  refine wpAny_pure (h es2 _ t3 _ hp ⟨hf,hu.1,hu.2.trans T2.led⟩ (put_set g1) fun b o hb e=>?_)
  exact (Heap.get?_update_other _ _ (Ne.symm hb)).trans (k1 b o hb e)
 ·exact wpAny_pure (h er _ tb _ (.refl _) T2 g1 k1)
theorem adds_int {ns:List Int} {u n:Nat} {h₀ : Heap} {S:Addr} {items:Array Value} (hi:IntsAre items.toList ns) (hn:n=items.size) (hb:items.size<1000) : Adds prog w u h₀ S n (fun i v=>items[i]?=some v) (RelI prog w ns):=by
 intro A E s Q i v es ep t hh hu hlt hP rel ho old q
 obtain ⟨tk,rfl⟩:=IntsAre.int_at hi i v (by rw [Array.getElem?_toList]; exact hP)
 have nl:ns.length=items.size:=by have:=hi.length; rw [Array.length_toList] at this; omega
 have hni:ns[i]?=some (ns.getD i 0):=by rw [List.getD_eq_getElem?_getD,List.getElem?_eq_getElem (by omega)]; rfl
 generalize ns.getD i 0=k at hni ⊢
 have tk1:ns.take (i+1)=ns.take i++[k]:=by rw [List.take_add_one,hni]; rfl
 have esb:es.size+1<scanBound:=by have:=rel.few; unfold scanBound; omega
 have T:=rel.tab
 have isk : ∀ e∈es.toList,(intKind prog w).is k e.2=decide (k=keyI e):=fun e he=>by
  obtain ⟨tk',z⟩:=keyI_is rel.els he
  exact isI_iff z
 unfold setAdd
 refine wpAny_holding (wpAny_bind ((intKind prog w).pyHash (k:=k) (intKind_is _ _ _ _) ?_))
 unfold setAddHashed setAddHashedIn
 refine wpAny_holding (wpAny_bind (wp_setSt (s:={ s with toks:=s.toks+1 }) ho T ?_))
 dsimp only
 rw [byScan_of (knd:=intKind prog w) (x:=.int k tk) rfl (by omega) rel.els]
 simp only [↓reduceIte]
 unfold setAddByScan
 refine wpAny_bind (wpAny_bind (wpAny_rule ?_))
 refine wpAny_bind (wpAny_setScan_of (knd:=intKind prog w) (k:=k) (intKind_is _ _ _ _) (o:=setO es ep t) ho rfl T.fits rel.els ?_)
 cases hr:List.findIdx? (fun e=>(intKind prog w).is k e.2) es.toList with
 | some j =>
  dsimp only
  obtain ⟨hj,hpj,_⟩:=List.findIdx?_eq_some_iff_getElem.mp hr
  have hk:k∈es.toList.map keyI:=by
   rw [isk _ (List.getElem_mem hj)] at hpj
   rw [of_decide_eq_true hpj]
   exact List.mem_map_of_mem (List.getElem_mem hj)
  refine wpAny_pure (wpAny_pure (q es ep t s.heap _ false ⟨T,by have:=rel.few; omega,rel.els,rel.one,fun k'=>?_⟩ ho (fun b o _ e=>e) (Nat.le_succ _)))
  rw [tk1,List.mem_append,List.mem_singleton,rel.mem k']
  exact ⟨.inl,fun z=>z.elim id fun z=>by rw [z]; exact (rel.mem k).mp hk⟩
 | none =>
  dsimp only
  have hk:k∉es.toList.map keyI:=fun z=>by
   obtain ⟨e,he,z⟩:=List.mem_map.mp z
   have:=List.findIdx?_eq_none_iff.mp hr e he
   rw [isk e he,z] at this
   simp at this
  have hp:=layNew_perm t es ((intKind prog w).hash k) (.int k tk)
  have hf:=layNew_fits t es ((intKind prog w).hash k) (.int k tk)
  have hup:=layNew_up T.up es ((intKind prog w).hash k) (.int k tk)
  generalize layNew t es ((intKind prog w).hash k) (.int k tk)=L at hp hf hup ⊢
  obtain ⟨er,t1,wd,gv⟩:=L
  dsimp only at hp hf hup ⊢
  rw [Array.toList_push] at hp
  have sz:er.size=es.size+1:=by rw [← Array.length_toList,hp.length_eq,List.length_append,Array.length_toList]; rfl
  have el1:ElemsOf (intKind prog w) er.toList:=(rel.els.push (intKind_is prog w k tk) rfl).perm hp
  have fin : ∀ (tb:SetTable),tb.fits er.size=true→TUp tb→tb.led=t.led→∀ (g:Bool→Sem Unit),(∀ (b:Bool) (s₁ : Shared) (Q':Unit→Shared→Prop),Q' () s₁→wpAny (model prog w) A (g b) Q' E s₁) →
    wpAny (model prog w) A (do
     storeSet S er tb
     if (!wd && tb.tooFull)=true then do
       g (relayAll tb er (SetTable.grown er.size)).2.2
       storeSet S (relayAll tb er (SetTable.grown er.size)).1 (relayAll tb er (SetTable.grown er.size)).2.1
       pure (some true)
      else pure (some true)) (fun r s'=>wpAny (model prog w) A (match r with
       | some added=>pure added
       | none=>setAddHashedIn S (.int k tk) ((intKind prog w).hash k) 99999) Q E s') E { s with toks:=s.toks+1 }:=fun tb f2 u2 l2 g hg=>by
   refine add_tail (s:={ s with toks:=s.toks+1 }) hg ho ⟨f2,u2,l2.trans T.led⟩ (by omega) fun es2 ep2 t3 h' hp2 T3 hg2 kp=>?_
   have pm:(es2.toList.map keyI).Perm (es.toList.map keyI++[k]):=by
    have:=(hp2.trans hp).map keyI
    rw [List.map_append] at this
    exact this
   refine wpAny_pure (q es2 ep2 t3 h' _ true ⟨T3,?_,el1.perm hp2,?_,fun k'=>?_⟩ hg2 kp (Nat.le_succ _))
   ·have:=pm.length_eq; have:=rel.few; simp at *; omega
   ·refine pm.nodup_iff.mpr (List.nodup_append.mpr ⟨rel.one,List.nodup_cons.mpr ⟨by simp,List.nodup_nil⟩,fun a ha b hb e=>hk ?_⟩)
    rw [List.mem_singleton.mp hb] at e; rw [← e]; exact ha
   ·rw [pm.mem_iff,tk1,List.mem_append,List.mem_append,rel.mem k']
  refine wpAny_bind ?_
  have gvw : ∀ (b:Bool) (s₁ : Shared) (Q':Unit→Shared→Prop),Q' () s₁→wpAny (model prog w) A (match b with | true=>rule "set.scan.the-table-gave-way" | false=>pure ()) Q' E s₁:=fun b s₁ Q' hq=>by cases b <;> first | exact wpAny_pure hq | exact wpAny_rule hq
  refine gvw gv _ _ ?_
  split
  ·refine wpAny_bind ?_
   rw [hashByValue_scannable 8 (x:=.int k tk) rfl]
   refine wpAny_pure ?_
   exact fin t1 hf hup.1 hup.2 _ gvw
  ·refine wpAny_bind (wpAny_pure ?_)
   exact fin t1 hf hup.1 hup.2 _ gvw
end
end L2
namespace L2
open PySem PySem.Spec PyProof.Rows
def SetV (w:World) (a:Addr) (vs:List V) : HO:=.ext fun h=>∃ es ep t,h.get? a=some (setO es ep t)∧TabOk w t es.size∧Vals vs (es.toList.map (·.2))
theorem Inv.drawn {X:Cx} {pins:List (Addr × Obj)} {σ : St} {H:Hp} {s:Shared} (d:Drawn) (I:Inv X pins σ H s) : Inv X pins σ H { s with drawn:=d }:=⟨I.ok,I.os,I.bare,I.base,I.loc,I.cell,I.free,I.freeC,I.pin,I.hok,I.len⟩
theorem setV_ok {P:Program} {w:World} {H:Hp} {h:Heap} {a:Addr} {vs:List V} {es:Array (Int × Value)} {ep:Nat} {t:SetTable} (e:h.get? a=some (setO es ep t)) (T:TabOk w t es.size) (r:Vals vs (es.toList.map (·.2))) : ObjOk P w H h a (SetV w a vs) :=
 ⟨⟨es,ep,t,e,T,r⟩,⟨_,e⟩,fun h1 h2 ⟨es,ep,t,e,T,r⟩ k=>⟨es,ep,t,k _ e,T,r⟩⟩
theorem Vals.perm : ∀ {us us':List Value} {vs:List V},us'.Perm us→Vals vs us→∃ vs':List V,vs'.Perm vs∧Vals vs' us':=fun {us us' vs} p=>by
 induction p generalizing vs with
 | nil=>intro r; exact ⟨vs,.refl _,r⟩
 | cons x _ ih =>
  intro r
  cases r with
  | cons r1 r2 =>
   obtain ⟨vs',p',r'⟩:=ih r2
   exact ⟨_,p'.cons _,.cons r1 r'⟩
 | swap x y l =>
  intro r
  cases r with
  | cons r1 r2 =>
   cases r2 with
   | cons r3 r4=>exact ⟨_,List.Perm.swap _ _ _,.cons r3 (.cons r1 r4)⟩
 | trans _ _ ih1 ih2 =>
  intro r
  obtain ⟨v1,p1,r1⟩:=ih2 r
  obtain ⟨v2,p2,r2⟩:=ih1 r1
  exact ⟨v2,p2.trans p1,r2⟩
theorem Vals.ints {us us':List Value} {ns:List Int} (p:us'.Perm us) (r:Vals (ns.map V.int) us) : ∃ ns':List Int,ns'.Perm ns∧Vals (ns'.map V.int) us':=by
 obtain ⟨vs',p',r'⟩:=Vals.perm p r
 obtain ⟨ns',e,p2⟩ : ∃ ns':List Int,vs'=ns'.map V.int∧ns'.Perm ns:=by
  refine ⟨vs'.map fun v=>match v with | .int n=>n | _=>0,?_,?_⟩
  ·rw [List.map_map]
   refine (List.map_id _).symm.trans (List.map_congr_left fun v hv=>?_)
   obtain ⟨n,_,e⟩:=List.mem_map.mp (p'.mem_iff.mp hv)
   rw [← e]; rfl
  ·have:=p'.map fun v=>match v with | .int n=>n | _=>0
   rw [List.map_map] at this
   refine this.trans (List.Perm.of_eq ?_)
   exact (List.map_congr_left fun n _=>rfl).trans (List.map_id _)
 exact ⟨ns',p2,e ▸ r'⟩
section
variable {X:Cx} {K:PySem.W.Frag}
def rSetN (K:PySem.W.Frag) (w:World) : List V→Hp→VK→Prop:=fun xs H Q=>∃ (p:Addr) (ns:List Int),xs=[.ref p]∧SqL K H p (ns.map V.int)∧ns.length<1000∧∀ (q:Addr) (ms:List Int),H q=none→ms.Nodup→(∀ k,k∈ms↔k∈ns)→Q (.ref q) (upd H q (SetV w q (ms.map V.int)))
theorem call_setN (hK:X.K=K) (hc:X.calm=true) : CallR X (.type "set") (rSetN K X.w):=by
 subst hK
 intro pins s σ H xs us Q I r h
 obtain ⟨p,ns,rfl,hl,hz,q⟩:=h
 obtain ⟨u,rfl,rx⟩:=vals1 r
 cases rx
 obtain ⟨its,rv,pl,_⟩:=I.list hl
 have len:=rv.length
 rw [List.length_map] at len
 have ia:=ints_are rv
 refine set_call (items:=its.toArray) (u:=X.A.units+8) (Rel:=RelI X.prog X.w ns) (I.ok.hd hc) pl.isList (Nat.le_refl _) ⟨⟨rfl,List.Pairwise.nil,rfl⟩,Nat.zero_le _,fun e he=>by simp at he,List.nodup_nil,fun k=>by simp⟩ (adds_int (by simpa using ia) rfl (by simp; omega)) fun es ep t h' tk rel hg kp=>?_
 have big:ns.take its.toArray.size=ns:=List.take_of_length_le (by simp; omega)
 have rs:Vals ((es.toList.map keyI).map V.int) (es.toList.map (·.2)):=by
  have el:=rel.els
  generalize es.toList=l at el
  induction l with
  | nil=>exact .nil
  | cons e l ih =>
   obtain ⟨tk',z⟩:=keyI_is el (e:=e) List.mem_cons_self
   exact .cons ⟨tk',z⟩ (ih el.tail)
 exact ⟨.ref s.heap.objs.size,_,I.laid (o:=SetV X.w s.heap.objs.size ((es.toList.map keyI).map V.int)) (t':=tk) kp (Nat.le_refl _) (setV_ok hg rel.tab rs),rfl,q _ _ (I.hok.fresh (Nat.le_refl _)) rel.one (fun k=>by rw [rel.mem k,big])⟩
def rSortS (w:World) : List V→Hp→VK→Prop:=fun xs H Q=>∃ (p:Addr) (ns:List Int),xs=[.ref p]∧H p=some (SetV w p (ns.map V.int))∧ns.length<64∧∀ (l:Addr) (ns':List Int),H l=none→ns'.Perm ns→ns'.Pairwise (·≤·)→Q (.ref l) (upd H l (.lst (ns'.map V.int)))
theorem call_sortedS (hc:X.calm=true) : CallR X (.builtin "sorted") (rSortS X.w):=by
 intro pins s σ H xs us Q I r h
 obtain ⟨p,ns,rfl,hp,hz,q⟩:=h
 obtain ⟨u,rfl,rx⟩:=vals1 r
 cases rx
 obtain ⟨⟨es,ep,t,hg,T,rv⟩,_,_⟩:=(show ObjOk X.prog X.w H s.heap p (SetV X.w p (ns.map V.int)) from I.hok p _ hp)
 have len:=rv.length
 rw [List.length_map,List.length_map] at len
 have len2:es.toList.length=es.size:=Array.length_toList
 have big:(64:Nat)≤sizeLine:=by decide
 refine Calls.call_function_entry kind_sorted plain_sorted entry_sorted (args_sorted1 _) ?_
 unfold Builtin.«sorted»
 refine wpAny_bind (m:=checkCount "sorted" 1 1 _) (wpAny_pure ?_)
 refine wpAny_bind (collect_set (A:=X.A.in1) (I.ok.hd hc) hg T (by omega) fun vs h1 tk d pv k1 le=>?_)
 obtain ⟨ms,pm,rm⟩:=Vals.ints pv rv
 have vl:=rm.length
 rw [List.length_map] at vl
 have ml:=pm.length_eq
 have I1:Inv X pins σ H { s with heap:=h1,toks:=tk,drawn:=d }:=Inv.drawn d (I.kept (t':=tk) k1)
 refine wpAny_bind (wpAny_newList ?_)
 have hoL:(h1.push (seqObj "list" vs.toArray 0)).get? h1.objs.size=some (seqObj "list" vs.toArray 0):=Heap.get?_push_size _ rfl
 refine wpAny_bind (wpAny_holding (wpAny_call_entry slot_list_sort ⟨_,hoL,rfl⟩ entry_list_sort (list_sort_tree (s:={ s with heap:=h1.push (seqObj "list" vs.toArray 0),toks:=tk,drawn:=d }) hoL (ints_are rm) (by omega) fun out ns' ia pm' pw=>⟨_,rfl,?_⟩) (args_list_sort _)))
 obtain ⟨e,he⟩:=sortedHeap_at (out:=out) hoL
 have lp:=pm'.length_eq
 refine wpAny_pure ⟨_,rfl,?_⟩
 refine ⟨.ref h1.objs.size,_,I1.laid (t':=tk) (a:=h1.objs.size) (o:=.lst (ns'.map V.int)) (fun b u e=>?_) (Nat.le_refl _) ⟨by rw [List.length_map]; omega,out.toList,e,vals_are ia,by simpa using he⟩,rfl,q _ ns' (I1.hok.fresh (Nat.le_refl _)) (pm'.trans pm) pw⟩
 have lt : @LT.lt Nat _ b h1.objs.size:=Heap.lt_size e
 rw [sortedHeap_old (Nat.ne_of_lt lt) (by rw [Heap.size_push]; exact Nat.lt_succ_of_lt lt)]
 exact Heap.get?_push_of_some _ e
end
end L2
namespace L2
open PySem PySem.Spec PyProof.Rows
section
variable {prog:Program} {w:World} {A:Around} {E:Value→Shared→Prop} {s:Shared} {W:Addr→List Int→Prop}
abbrev TupK (prog:Program) (w:World) (h:Heap) (ks:List Int) (a:Addr) : Prop:=IsTupleKey (intKind prog w) h ks a
def hshT (ns:List Int) : Int:=reduceHash (Builtin.Tuple.tupleHashOf (ns.map hashInt))
def hAt (ks:List (List Int)) (i:Nat) : Int:=((ks[i]?).map hshT).getD 0
def addP (ks:List (List Int)) (t:SetTable) (x:List Int) : Option (List (List Int) × SetTable) :=
 if t.gaveWay then none else
 match t.probe (hAt ks) (hshT x) (t.probeStart (hshT x)) with
 | some (.candidate _ i _)=>if ks[i]?=some x then some (ks,t) else none
 | some (.empty j none) =>
  let kn:=ks.take (t.put j).2++x :: ks.drop (t.put j).2
  if (t.put j).1.fits (ks.length+1) then
   if (t.put j).1.tooFull then
    if SetTable.sizeAbove (SetTable.grown (ks.length+1))≤100000 then
     match (t.put j).1.relaid (kn.map hshT).toArray (SetTable.grown (ks.length+1)) with
     | some (t2,o)=>if (o.toList.filterMap (kn[·]?)).length=ks.length+1∧t2.fits (ks.length+1)=true then some (o.toList.filterMap (kn[·]?),t2) else none
     | none=>none
    else none
   else some (kn,(t.put j).1)
  else none
 | _=>none
def EsT (prog:Program) (w:World) (W:Addr→List Int→Prop) (h:Heap) (es:Array (Int × Value)) (ks:List (List Int)) : Prop:=Paired (fun (e:Int × Value) (k:List Int)=>e.1=hshT k∧∃ a,e.2=.ref a∧TupK prog w h k a∧W a k) es.toList ks
end
end L2
namespace L2
open PySem PySem.Spec PyProof.Rows
section
variable {prog:Program} {w:World} {A:Around} {E:Value→Shared→Prop} {s:Shared} {W:Addr→List Int→Prop}
def simT (led:Bool) (xs:List (List Int)) : Option (List (List Int) × SetTable):=xs.foldlM (fun st x=>addP st.1 st.2 x) ([],SetTable.fresh 0 0 led)
structure RelT (prog:Program) (w:World) (W:Addr→List Int→Prop) (h₀ : Heap) (led:Bool) (xs:List (List Int)) (i:Nat) (es:Array (Int × Value)) (t:SetTable) : Prop where
 ex : ∃ ks,EsT prog w W h₀ es ks∧t.fits ks.length=true∧ks.length≤i∧simT led (xs.take i)=some (ks,t)
end
end L2
namespace L2
open PySem
def runB (l:List Int) (b:Bool) : List Int:=if b then l++[1] else l.dropLast++[l.getLastD 0+1]
def runsB (c:Nat) : Nat→List Int
 | 0=>[1]
 | k+1=>runB (runsB c k) (c / 2 ^ k % 2 == 1)
def insD (x:Int) : List Int→List Int
 | []=>[x]
 | y :: l=>if x ≥ y then x :: y :: l else y :: insD x l
def fallD:List Int→List Int
 | []=>[]
 | x :: l=>insD x (fallD l)
def cutsB (n:Nat) : List (List Int):=(List.range (2 ^ (n - 1))).map fun c=>fallD (runsB c (n - 1))
end L2
namespace L2
open PySem PySem.Spec PyProof.Rows PySem.SeqAt PySem.W
theorem Vals.pick {vs:List V} {us:List Value} (r:Vals vs us) : ∀ {p:List Nat},(∀ i∈p,i<vs.length)→Vals (p.map fun i=>vs.getD i .non) (p.map fun i=>us.getD i Value.none)
 | [],_=>.nil
 | i :: p,h=>by
  have hi:=h i List.mem_cons_self
  obtain ⟨u,hu,ru⟩:=r.get (i:=i) (x:=vs[i]) (List.getElem?_eq_getElem hi)
  refine .cons ?_ (Vals.pick r fun j hj=>h j (List.mem_cons_of_mem _ hj))
  dsimp only
  rw [List.getD_eq_getElem?_getD,List.getD_eq_getElem?_getD,hu,List.getElem?_eq_getElem hi]
  exact ru
def LssAt (H:Hp) (vs:List V) (Ls:List (List Int)) : Prop:=Ls.length=vs.length∧∀ (i:Nat) (v:V) (L:List Int),vs[i]?=some v→Ls[i]?=some L→∃ b:Addr,v=.ref b∧H b=some (.lst (L.map V.int))
section
variable {X:Cx} {K:PySem.W.Frag} {pins:List (Addr × Obj)} {σ : St} {H:Hp} {s:Shared}
theorem LssAt.at {vs:List V} {us:List Value} {Ls:List (List Int)} (I:Inv X pins σ H s) (r:Vals vs us) (h:LssAt H vs Ls) : AllLis s.heap us Ls:=by
 have len:=r.length
 refine ⟨by rw [h.1,len],fun i u L hu hL=>?_⟩
 have iv:i<vs.length:=by
  have:=(List.getElem?_eq_some_iff.mp hu).1
  omega
 obtain ⟨b,e1,e2⟩:=h.2 i vs[i] L (List.getElem?_eq_getElem iv) hL
 obtain ⟨u',hu',ru⟩:=r.get (i:=i) (x:=vs[i]) (List.getElem?_eq_getElem iv)
 rw [hu] at hu'
 cases hu'
 rw [e1] at ru
 cases ru
 obtain ⟨z,its,n,rv,hl,e⟩:=I.lstM e2
 have il:=rv.length
 rw [List.length_map] at il
 refine ⟨b,its.toArray,n,rfl,e,by rw [List.size_toArray]; omega,fun j a ha=>?_⟩
 obtain ⟨w',hw,rw'⟩:=rv.get (i:=j) (x:=.int a) (by rw [List.getElem?_map,ha]; rfl)
 obtain ⟨t,rfl⟩:=rw'
 exact ⟨t,by rw [List.getElem?_toArray]; exact hw⟩
theorem AllLis.keep {h h':Heap} {vs:List Value} {Ls:List (List Int)} (x:AllLis h vs Ls) (k : ∀ b o,h.get? b=some o→h'.get? b=some o) : AllLis h' vs Ls:=⟨x.1,fun i v L e1 e2=>(x.2 i v L e1 e2).keep k⟩
theorem sorted_fromL {β : Type} {A:Around} {E:Value→Shared→Prop} {prog:Program} {w:World} {S:Shared} {us:List Value} {Ls:List (List Int)} {Q : β→Shared→Prop} {k:Value→Sem β} (hu:A.in1.units<cLine) (h64:us.length<64) (hr:AllLis S.heap us Ls)
  (q : ∀ (p:List Nat),OrdP Ls p→∀ h' n,(∀ b o,S.heap.get? b=some o→h'.get? b=some o)→h'.get? S.heap.objs.size=some { cls:=.type "list", data:=.seq (p.map fun i=>us.getD i Value.none).toArray n }→wpAny (model prog w) A (k (.ref S.heap.objs.size)) Q E { S with heap:=h' }) :
  wpAny (model prog w) A (newList us >>= fun l=>holding [l] (call (.builtin "list.sort") [l]) >>= fun _=>k l) Q E S:=by
 have hL:(S.heap.push (seqObj "list" us.toArray 0)).get? S.heap.objs.size=some (seqObj "list" us.toArray 0):=Heap.get?_push_size _ rfl
 refine wpAny_bind (wpAny_newList ?_)
 refine wpAny_bind (wpAny_holding (wpAny_call_entry slot_list_sort ⟨_,hL,rfl⟩ entry_list_sort (sort_lists (s:={ S with heap:=S.heap.push (seqObj "list" us.toArray 0) }) (Ls:=Ls) hL h64 hu (fun h' k=>?_) fun p hp=>⟨_,rfl,?_⟩) (args_list_sort _)))
 ·exact hr.keep fun b o e=>k b o (Nat.ne_of_lt (Heap.lt_size e)) (Heap.get?_push_of_some _ e)
 ·obtain ⟨e,he⟩:=sortedHeap_at (vs:=us) (out:=(p.map fun i=>us.getD i Value.none).toArray) (n:=0) hL
  refine q p hp _ e (fun b o hb=>?_) he
  have hlt:=Heap.lt_size hb
  rw [sortedHeap_old (Nat.ne_of_lt hlt) (by rw [size_push']; exact Nat.lt_succ_of_lt hlt)]
  exact Heap.get?_push_of_some _ hb
def rSortLL (K:PySem.W.Frag) : List V→Hp→VK→Prop:=fun xs H Q=>∃ (p:Addr) (vs:List V) (Ls:List (List Int)),xs=[.ref p]∧SqL K H p vs∧vs.length<64∧LssAt H vs Ls∧∀ (l:Addr) (π : List Nat),H l=none→OrdP Ls π→Q (.ref l) (upd H l (.lst (π.map fun i=>vs.getD i .non)))
theorem call_sortedLL (hK:X.K=K) (hu:X.A.units+64<cLine) : CallR X (.builtin "sorted") (rSortLL K):=by
 subst hK
 intro pins s σ H xs us Q I r h
 obtain ⟨p,vs,Ls,rfl,hp,hz,hd,q⟩:=h
 obtain ⟨u,rfl,ru⟩:=vals1 r
 cases ru
 obtain ⟨its,rv,pl,_⟩:=I.list hp
 have len:=rv.length
 have all:=hd.at I rv
 have big:(10000000:Nat)≤sizeLine:=by decide
 refine Calls.call_function_entry kind_sorted plain_sorted entry_sorted (args_sorted1 _) ?_
 unfold Builtin.«sorted»
 refine wpAny_bind (m:=checkCount "sorted" 1 1 _) (wpAny_pure ?_)
 have kp : ∀ b o,s.heap.get? b=some o→((s.heap.push (seqObj "list" #[] 0)).update s.heap.objs.size (Obj.mapSeq (· ++ its.toArray))).get? b=some o:=fun b o e=>(Heap.get?_update_other _ _ (Ne.symm (Nat.ne_of_lt (Heap.lt_size e)))).trans (Heap.get?_push_of_some _ e)
 refine wpAny_bind (collect_list pl.isList ?_ (by omega))
 refine sorted_fromL (S:={ s with heap:=(s.heap.push (seqObj "list" #[] 0)).update s.heap.objs.size (Obj.mapSeq (· ++ its.toArray)) }) (Ls:=Ls) ?_ (by omega) (all.keep kp) fun π hπ h' n k1 k2=>?_
 ·have:X.A.in1.in1.units≤X.A.units+2:=by show _≤_; first | exact Nat.le_refl _ | exact Nat.le_succ _ | omega
  omega
 ·refine wpAny_pure ⟨_,rfl,?_⟩
  have πl : π.length=vs.length:=by rw [hπ.1.length_eq,List.length_range,hd.1]
  have le:s.heap.objs.size≤((s.heap.push (seqObj "list" #[] 0)).update s.heap.objs.size (Obj.mapSeq (· ++ its.toArray))).objs.size:=by rw [Heap.size_update,size_push']; exact Nat.le_succ _
  have pv:Vals (π.map fun i=>vs.getD i .non) (π.map fun i=>its.getD i Value.none):=rv.pick fun i hi=>by have:=List.mem_range.mp (hπ.1.mem_iff.mp hi); rw [hd.1] at this; exact this
  exact ⟨.ref _,_,I.laid (o:=.lst (π.map fun i=>vs.getD i .non)) (fun b o e=>k1 _ _ (kp b o e)) le ⟨by rw [List.length_map]; omega,_,n,pv,k2⟩,rfl,q _ π (I.hok.fresh le) hπ⟩
end
end L2
namespace L2
open PySem PySem.Spec PyProof.Rows PySem.SeqAt PySem.W
section
variable {X:Cx} {K:PySem.W.Frag} {pins:List (Addr × Obj)} {σ : St} {H:Hp} {s:Shared}
theorem call_setNK {w:World} (hK:X.K=K) (hw:X.w=w) (hc:X.calm=true) : CallR X (.type "set") (rSetN K w):=by subst hw; exact call_setN hK hc
theorem call_sortedSK {w:World} (hw:X.w=w) (hc:X.calm=true) : CallR X (.builtin "sorted") (rSortS w):=by subst hw; exact call_sortedS hc
end
end L2
namespace L2
open PySem
def kL:Nat→List (List Int)
 | 1=>[[1]]
 | 2=>[[1,1],[2]]
 | 3=>[[1,1,1],[2,1],[3]]
 | 4=>[[1,1,1,1],[2,1,1],[2,2],[3,1],[4]]
 | 5=>[[1,1,1,1,1],[2,1,1,1],[2,2,1],[3,1,1],[3,2],[4,1],[5]]
 | 6=>[[1,1,1,1,1,1],[2,1,1,1,1],[2,2,1,1],[2,2,2],[3,1,1,1],[3,2,1],[3,3],[4,1,1],[4,2],[5,1],[6]]
 | 7=>[[1,1,1,1,1,1,1],[2,1,1,1,1,1],[2,2,1,1,1],[2,2,2,1],[3,1,1,1,1],[3,2,1,1],[3,2,2],[3,3,1],[4,1,1,1],[4,2,1],[4,3],[5,1,1],[5,2],[6,1],[7]]
 | 8=>[[1,1,1,1,1,1,1,1],[2,1,1,1,1,1,1],[2,2,1,1,1,1],[2,2,2,1,1],[2,2,2,2],[3,1,1,1,1,1],[3,2,1,1,1],[3,2,2,1],[3,3,1,1],[3,3,2],[4,1,1,1,1],[4,2,1,1],[4,2,2],[4,3,1],[4,4],[5,1,1,1],[5,2,1],[5,3],[6,1,1],[6,2],[7,1],[8]]
 | 9=>[[1,1,1,1,1,1,1,1,1],[2,1,1,1,1,1,1,1],[2,2,1,1,1,1,1],[2,2,2,1,1,1],[2,2,2,2,1],[3,1,1,1,1,1,1],[3,2,1,1,1,1],[3,2,2,1,1],[3,2,2,2],[3,3,1,1,1],[3,3,2,1],[3,3,3],[4,1,1,1,1,1],[4,2,1,1,1],[4,2,2,1],[4,3,1,1],[4,3,2],[4,4,1],[5,1,1,1,1],[5,2,1,1],[5,2,2],[5,3,1],[5,4],[6,1,1,1],[6,2,1],[6,3],[7,1,1],[7,2],[8,1],[9]]
 | 10=>[[1,1,1,1,1,1,1,1,1,1],[2,1,1,1,1,1,1,1,1],[2,2,1,1,1,1,1,1],[2,2,2,1,1,1,1],[2,2,2,2,1,1],[2,2,2,2,2],[3,1,1,1,1,1,1,1],[3,2,1,1,1,1,1],[3,2,2,1,1,1],[3,2,2,2,1],[3,3,1,1,1,1],[3,3,2,1,1],[3,3,2,2],[3,3,3,1],[4,1,1,1,1,1,1],[4,2,1,1,1,1],[4,2,2,1,1],[4,2,2,2],[4,3,1,1,1],[4,3,2,1],[4,3,3],[4,4,1,1],[4,4,2],[5,1,1,1,1,1],[5,2,1,1,1],[5,2,2,1],[5,3,1,1],[5,3,2],[5,4,1],[5,5],[6,1,1,1,1],[6,2,1,1],[6,2,2],[6,3,1],[6,4],[7,1,1,1],[7,2,1],[7,3],[8,1,1],[8,2],[9,1],[10]]
 | _=>[]
structure KinOk (n:Nat) (ks:List (List Int)) (t:SetTable) : Prop where
 sim:simT true (cutsB n)=some (ks,t)
 up:TUp t
 perm:ks.Perm (kL n)
 sort:(kL n).Pairwise fun a b=>lexB b a=false
 full : ∀ k∈kL n,k≠[]
 some:kL n≠[]
 few:(kL n).length<64
theorem insD_perm (x:Int) : ∀ l:List Int,(insD x l).Perm (x :: l)
 | []=>.refl _
 | y :: l=>by
  unfold insD
  split
  ·exact .refl _
  ·exact ((insD_perm x l).cons y).trans (List.Perm.swap _ _ _)
theorem fallD_perm : ∀ l:List Int,(fallD l).Perm l
 | []=>.refl _
 | x :: l=>(insD_perm x _).trans ((fallD_perm l).cons x)
theorem insD_sort (x:Int) : ∀ {l:List Int},l.Pairwise (· ≥ ·)→(insD x l).Pairwise (· ≥ ·)
 | [],_=>List.pairwise_singleton _ _
 | y :: l,h=>by
  unfold insD
  obtain ⟨h1,h2⟩:=List.pairwise_cons.mp h
  split
  ·rename_i c
   exact List.pairwise_cons.mpr ⟨fun z hz=>by rcases List.mem_cons.mp hz with rfl | hz; exact c; have:=h1 z hz; omega,h⟩
  ·rename_i c
   refine List.pairwise_cons.mpr ⟨fun z hz=>?_,insD_sort x h2⟩
   rcases List.mem_cons.mp ((insD_perm x l).mem_iff.mp hz) with rfl | hz
   ·omega
   ·exact h1 z hz
theorem fallD_sort : ∀ l:List Int,(fallD l).Pairwise (· ≥ ·)
 | []=>.nil
 | x :: l=>insD_sort x (fallD_sort l)
theorem fallD_is {l m:List Int} (p:m.Perm l) (h:m.Pairwise (· ≥ ·)) : m=fallD l :=
 List.Perm.eq_of_pairwise (le:=(· ≥ ·)) (fun a b _ _ x y=>by omega) h (fallD_sort l) (p.trans (fallD_perm l).symm)
end L2
namespace Sw
open PySem L2
inductive Mvs (H:Hp) : List V→List (Int × Str)→Prop
 | nil:Mvs H [] []
 | cons {t:Addr} {k:Int} {x:Str} {vs:List V} {r:List (Int × Str)} : H t=some (.tup [.int k,.str x])→Mvs H vs r→Mvs H (.ref t :: vs) ((k,x) :: r)
theorem Mvs.length {H:Hp} : ∀ {vs:List V} {r:List (Int × Str)},Mvs H vs r→vs.length=r.length
 | _,_,.nil=>rfl
 | _,_,.cons _ x=>by rw [List.length_cons,List.length_cons,x.length]
theorem Mvs.append {H:Hp} : ∀ {vs ws:List V} {r q:List (Int × Str)},Mvs H vs r→Mvs H ws q→Mvs H (vs++ws) (r++q)
 | _,_,_,_,.nil,y=>y
 | _,_,_,_,.cons h x,y=>.cons h (x.append y)
end Sw
namespace Sw
open PySem L2
def signs (x:Str) : List Nat:=x.cps.toList
end Sw
namespace Sw
open PySem L2
theorem len_in_flat {rs:List (List Int)} {r:List Int} (h:r∈rs) : r.length≤rs.flatten.length:=by
 induction rs with
 | nil=>cases h
 | cons a rs ih =>
  rw [List.flatten_cons,List.length_append]
  rcases List.mem_cons.mp h with rfl | h
  ·omega
  ·have:=ih h; omega
theorem few_in_flat {rs:List (List Int)} (h : ∀ r∈rs,r≠[]) : rs.length≤rs.flatten.length:=by
 induction rs with
 | nil=>exact Nat.le_refl _
 | cons a rs ih =>
  rw [List.flatten_cons,List.length_append,List.length_cons]
  have:=ih fun r hr=>h r (List.mem_cons_of_mem _ hr)
  have:=List.length_pos_iff.mpr (h a List.mem_cons_self)
  omega
theorem rnd_facts {n:Int} {xs:List Int} (o:Ord n xs) : (rndM n xs).flatten.length=n.toNat∧(∀ r∈rndM n xs,r≠[]∧r.length≤n.toNat∧∀ x∈r,1≤x∧x≤n)∧(rndM n xs).length≤n.toNat:=by
 have c : ∀ r∈rndM n xs,r≠[]∧∀ x∈r,1≤x∧x≤n:=fun r hr=>by
  obtain ⟨c1,c2⟩:=rnd_cyc o hr
  refine ⟨c1,fun x hx=>?_⟩
  obtain ⟨i,hi⟩:=List.getElem?_of_mem hx
  obtain ⟨a,b,_⟩:=c2 i x hi
  exact ⟨a,b⟩
 have fl:(rndM n xs).flatten.length=n.toNat:=by
  have pm:(rndM n xs).flatten.Perm (ivl 1 (n+1)):=by
   refine (List.perm_ext_iff_of_nodup (rnd_nodup o) (ivl_nodup _ _)).mpr fun x=>?_
   rw [mem_ivl]
   constructor
   ·intro h
    obtain ⟨r,hr,hx⟩:=List.mem_flatten.mp h
    have:=(c r hr).2 x hx
    omega
   ·intro h
    exact rnd_all o (by omega) (by omega)
  rw [pm.length_eq,ivl_length]
  congr 1
  omega
 refine ⟨fl,fun r hr=>⟨(c r hr).1,?_,(c r hr).2⟩,?_⟩
 ·rw [← fl]; exact len_in_flat hr
 ·rw [← fl]; exact few_in_flat fun r hr=>(c r hr).1
end Sw
namespace Sw
open PySem L2
def srtA (r:List Int) : List Int:=(fallD r).reverse
theorem srtA_perm (r:List Int) : (srtA r).Perm r:=(List.reverse_perm _).trans (fallD_perm r)
theorem srtA_le (r:List Int) : (srtA r).Pairwise (·≤·):=List.pairwise_reverse.mpr (fallD_sort r)
theorem srtA_is {l m:List Int} (p:m.Perm l) (h:m.Pairwise (·≤·)) : m=srtA l:=by
 have e:m.reverse=fallD l:=fallD_is ((List.reverse_perm m).trans p) (List.pairwise_reverse.mpr h)
 unfold srtA
 rw [← e,List.reverse_reverse]
theorem srtA_lt {r:List Int} (nd:r.Nodup) : (srtA r).Pairwise (· < ·):=by
 have h1:=srtA_le r
 have h2:(srtA r).Nodup:=(srtA_perm r).nodup_iff.mpr nd
 exact (h1.and h2).imp fun ⟨a,b⟩=>by omega
theorem rise_uniq {a b:List Int} (ha:a.Pairwise (· < ·)) (hb:b.Pairwise (· < ·)) (h : ∀ x,x∈a↔x∈b) : a=b:=by
 have pa:a.Nodup:=ha.imp fun h=>Int.ne_of_lt h
 have pb:b.Nodup:=hb.imp fun h=>Int.ne_of_lt h
 have p:a.Perm b:=(List.perm_ext_iff_of_nodup pa pb).mpr h
 exact List.Perm.eq_of_pairwise (le:=(· < ·)) (fun x y _ _ h1 h2=>by omega) ha hb p
def shM (n:Int) (xs:List Int) : List (List Int):=(rndM n xs).map srtA
theorem ivl_riseS (a b:Int) : (ivl a b).Pairwise (· < ·):=by
 unfold ivl
 refine List.pairwise_map.mpr (List.Pairwise.imp (fun h=>?_) List.pairwise_lt_range)
 omega
structure Shg (n:Int) (Ls:List (List Int)) (hs:List Int) : Prop where
 ne : ∀ L∈Ls,L≠[]
 rise : ∀ L∈Ls,L.Pairwise (· < ·)
 hl:hs.length=Ls.length
 hup:hs.Pairwise (· < ·)
 head : ∀ (i:Nat) (L:List Int) (a:Int),Ls[i]?=some L→hs[i]?=some a→L[0]?=some a
 cov:Ls.flatten.Perm (ivl 1 (n+1))
theorem sh_facts {n:Int} {xs:List Int} (o:Ord n xs) : Shg n (shM n xs) ((ivl 1 (n+1)).filter (least xs)):=by
 have rb : ∀ m∈(ivl 1 (n+1)).filter (least xs),1≤m∧m≤n:=fun m hm=>ivl_mem3.mp (List.mem_filter.mp hm).1
 have key : ∀ L∈shM n xs,∃ m,(1≤m∧m≤n)∧least xs m=true∧L=srtA (orb xs m):=fun L hL=>by
  unfold shM rndM at hL
  obtain ⟨r,hr,rfl⟩:=List.mem_map.mp hL
  obtain ⟨m,hm,rfl⟩:=List.mem_map.mp hr
  exact ⟨m,rb m hm,(List.mem_filter.mp hm).2,rfl⟩
 refine ⟨fun L hL=>?_,fun L hL=>?_,?_,?_,fun i L a h1 h2=>?_,?_⟩
 ·obtain ⟨m,hb,_,rfl⟩:=key L hL
  intro z
  have:=(srtA_perm (orb xs m)).mem_iff.mpr (orb_self m)
  rw [z] at this; cases this
 ·obtain ⟨m,hb,_,rfl⟩:=key L hL
  exact srtA_lt (orb_nodup o hb.1 hb.2)
 ·unfold shM rndM; rw [List.length_map,List.length_map]
 ·refine List.Pairwise.filter _ ?_
  exact ivl_riseS 1 (n+1)
 ·unfold shM rndM at h1
  rw [List.getElem?_map,List.getElem?_map,h2] at h1
  have e:srtA (orb xs a)=L:=Option.some.inj h1
  have am:=List.mem_of_getElem? h2
  have la:=(List.mem_filter.mp am).2
  have mem:=(srtA_perm (orb xs a)).mem_iff.mpr (orb_self (xs:=xs) a)
  have le:=srtA_le (orb xs a)
  rw [e] at mem le
  cases L with
  | nil=>cases mem
  | cons y r =>
   show some y=some a
   have hy:y∈orb xs a:=(srtA_perm (orb xs a)).mem_iff.mp (by rw [e]; exact List.mem_cons_self)
   have h3:a≤y:=of_decide_eq_true (List.all_eq_true.mp la y hy)
   have h4:y≤a:=by
    rcases List.mem_cons.mp mem with z | z
    ·omega
    ·exact (List.pairwise_cons.mp le).1 a z
   have:y=a:=by omega
   rw [this]
 ·have nd:=rnd_nodup o
  have p1 : ∀ rs:List (List Int),(rs.map srtA).flatten.Perm rs.flatten:=by
   intro rs
   induction rs with
   | nil=>exact .refl _
   | cons r rs ih =>
    rw [List.map_cons,List.flatten_cons,List.flatten_cons]
    exact (srtA_perm r).append ih
  refine (p1 _).trans ((List.perm_ext_iff_of_nodup nd (ivl_nodup3 n)).mpr fun x=>?_)
  rw [ivl_mem3]
  constructor
  ·intro h
   obtain ⟨r,hr,hx⟩:=List.mem_flatten.mp h
   exact ((rnd_facts o).2.1 r hr).2.2 x hx
  ·rintro ⟨h1,h2⟩
   exact rnd_all o h1 h2
end Sw
namespace Sw
open PySem L2
def ShQ (H H':Hp) (q:Addr) (S:List (List Int)) : Prop:=∃ ws,H q=none∧H' q=some (.lst ws)∧Lsts H' ws S∧Fresh H ws∧V.ref q∉ws
def spShb:Sp:=fun vs H Q _=>∃ (t:Addr) (n:Int) (xs:List Int),vs=[.ref t]∧H t=some (.tup (xs.map V.int))∧Ord n xs∧n≤12∧∀ q H',ShQ H H' q (shM n xs)→Same H H'→Q (.ref q) H'
end Sw
namespace Sw
open PySem L2
theorem flat_uniq {Ls:List (List Int)} (nd:Ls.flatten.Nodup) {L M:List Int} {z:Int} (hL:L∈Ls) (hM:M∈Ls) (h1:z∈L) (h2:z∈M) : L=M:=by
 obtain ⟨i,hi,rfl⟩:=List.getElem_of_mem hL
 obtain ⟨j,hj,rfl⟩:=List.getElem_of_mem hM
 have pw:=(List.pairwise_flatten.mp nd).2
 rcases Nat.lt_trichotomy i j with g | g | g
 ·exact absurd rfl (List.pairwise_iff_getElem.mp pw i j hi hj g z h1 z h2)
 ·subst g; rfl
 ·exact absurd rfl (List.pairwise_iff_getElem.mp pw j i hj hi g z h2 z h1)
def Half (n:Int) (Ls:List (List Int)) (xs:List Int) : Prop:=∀ L∈Ls,∀ x∈L,(∃ p∈L,p<x∧(∀ y∈L,¬ (p<y∧y<x))∧ld xs x=p+1)∨((∀ y∈L,x≤y)∧∃ M∈L,(∀ y∈L,y≤M)∧ld xs x=M % n+1)
end Sw
namespace Sw
open PySem L2
theorem perm_all : ∀ {as bs:List Int},as.Nodup→(∀ x∈as,x∈bs)→bs.length=as.length→bs.Perm as
 | [],bs,_,_,l=>by rw [List.length_eq_zero_iff.mp l]
 | a :: as,bs,nd,h,l=>by
  rw [List.nodup_cons] at nd
  have ha:=h a List.mem_cons_self
  refine (List.perm_cons_erase ha).trans (List.Perm.cons a (perm_all nd.2 (fun x hx=>?_) ?_))
  ·exact (List.mem_erase_of_ne (by rintro rfl; exact nd.1 hx)).mpr (h x (List.mem_cons_of_mem _ hx))
  ·rw [List.length_erase_of_mem ha,l,List.length_cons]; omega
theorem ord_sur {n:Int} {xs:List Int} (l:xs.length=n.toNat) (h : ∀ y,1≤y→y≤n→y∈xs) : Ord n xs:=by
 refine perm_all (ivl_nodup3 n) (fun x hx=>?_) (by rw [ivl_length,l]; omega)
 have:=ivl_mem3.mp hx
 exact h x this.1 this.2
theorem at_prev {L:List Int} {i:Nat} (h:i<L.length) : ∃ j p,L[j]?=some p∧(j+1) % L.length=i∧(i≠0→j+1=i)∧(i=0→j+1=L.length):=by
 by_cases c:i=0
 ·exact ⟨L.length - 1,_,List.getElem?_eq_getElem (by omega),by rw [show L.length - 1+1=L.length by omega,Nat.mod_self,c],fun z=>absurd c z,fun _=>by omega⟩
 ·exact ⟨i - 1,_,List.getElem?_eq_getElem (by omega),by rw [show i - 1+1=i by omega,Nat.mod_eq_of_lt h],fun _=>by omega,fun z=>absurd z c⟩
section
variable {n:Int} {Ls:List (List Int)}
theorem made_ord (c:Cov n Ls) : Ord n (madeM n Ls):=by
 refine ord_sur (madeM_length n Ls) fun y h1 h2=>?_
 obtain ⟨L,hL,hy⟩:=List.mem_flatten.mp (c.all h1 h2)
 obtain ⟨i,hi,rfl⟩:=List.getElem_of_mem hy
 obtain ⟨j,p,hp,e,_⟩:=at_prev hi
 have cy:=(fine_rnds c.fine).cyc L hL
 obtain ⟨p1,p2,p3⟩:=cy.2 j p hp
 rw [e,List.getElem?_eq_getElem hi] at p3
 rw [Option.some.inj p3]
 have:(p - 1).toNat<(madeM n Ls).length:=by rw [madeM_length]; omega
 unfold ld
 rw [List.getD_eq_getElem?_getD,List.getElem?_eq_getElem this]
 exact List.getElem_mem _
end
end Sw
namespace Sw
open PySem L2
structure HalfD (n:Int) (Ls:List (List Int)) (xs:List Int) : Prop where
 o:Ord n xs
 nd:Ls.flatten.Perm (ivl 1 (n+1))
 nx:NonX Ls
 hf:Half n Ls xs
section
variable {n:Int} {Ls:List (List Int)} {xs:List Int}
theorem sh_orb (o:Ord n xs) {K:List Int} (hK:K∈shM n xs) {x:Int} (hx:x∈K) {y:Int} : y∈K↔y∈orb xs x:=by
 unfold shM rndM at hK
 obtain ⟨r,hr,rfl⟩:=List.mem_map.mp hK
 obtain ⟨m,hm,rfl⟩:=List.mem_map.mp hr
 have mb:=ivl_mem3.mp (List.mem_filter.mp hm).1
 have hx:=(srtA_perm _).mem_iff.mp hx
 have xb:=orb_in o mb.1 mb.2 hx
 rw [(srtA_perm _).mem_iff]
 exact ⟨fun h=>orb_trans o xb.1 xb.2 (orb_sym o mb.1 mb.2 hx) h,fun h=>orb_trans o mb.1 mb.2 hx h⟩
theorem sh_cov (o:Ord n xs) : Cov n (shM n xs):=⟨(sh_facts o).ne,(sh_facts o).cov⟩
end
end Sw
namespace Sw
open PySem L2
theorem Lsts.lssB {H:Hp} {vs:List V} {Ls:List (List Int)} (x:Lsts H vs Ls) : LssAt H vs Ls:=by
 refine ⟨x.length.symm,fun i v L hv hL=>?_⟩
 obtain ⟨a,ns,rfl,ha,hn⟩:=x.get hv
 rw [hL] at hn
 cases hn
 exact ⟨a,rfl,ha⟩
theorem Lsts.pickB {H:Hp} {vs:List V} {Ls:List (List Int)} (x:Lsts H vs Ls) : ∀ (π : List Nat),(∀ i∈π,i<Ls.length)→Lsts H (π.map fun i=>vs.getD i .non) (π.map fun i=>Ls.getD i [])
 | [],_=>.nil
 | i :: π,h=>by
  have hi:=h i (List.mem_cons_self ..)
  have wl:=x.length
  obtain ⟨v,hv⟩ : ∃ v,vs[i]?=some v:=⟨_,List.getElem?_eq_getElem (by omega)⟩
  obtain ⟨a,ns,rfl,ha,hn⟩:=x.get hv
  rw [List.map_cons,List.map_cons,List.getD_eq_getElem?_getD,List.getD_eq_getElem?_getD,hv,hn]
  exact .cons ha (x.pickB π fun j hj=>h j (List.mem_cons_of_mem _ hj))
theorem pick_ordB {Gs Ss:List (List Int)} {π : List Nat} (op:OrdP Gs π) (pm:Gs.Perm Ss) (hs:Ss.Pairwise fun a b=>lexB b a=false) : (π.map fun i=>Gs.getD i [])=Ss:=by
 have p1:=pick_perm ([] : List Int) op.1
 have pl:=op.1.length_eq
 rw [List.length_range] at pl
 refine List.Perm.eq_of_pairwise (le:=fun a b=>lexB b a=false) (fun x y _ _ h1 h2=>lexB_tot h2 h1) ?_ hs (p1.trans pm)
 rw [List.pairwise_map,List.pairwise_iff_getElem]
 intro i j hi hj ij
 have:=op.2 i j (by omega) (by omega)
 rw [List.getD_eq_getElem?_getD (l:=π),List.getD_eq_getElem?_getD (l:=π),List.getElem?_eq_getElem hi,List.getElem?_eq_getElem hj] at this
 exact this
theorem sortLB {K:PySem.W.Frag} {H:Hp} {p:Addr} {vs:List V} {Ls:List (List Int)} {Q:VK} (h:H p=some (.lst vs)) (x:Lsts H vs Ls) (ll:Ls.length<64)
  (k : ∀ l us Ms H',H l=none→H' l=some (.lst us)→Lsts H' us Ms→Ms.Perm Ls→Same H H'→(∀ Ss:List (List Int),Ls.Perm Ss→(Ss.Pairwise fun a b=>lexB b a=false)→Ms=Ss)→Ms.Pairwise (fun a b=>lexB b a=false)→(∀ v∈us,v∈vs)→(vs.Nodup→us.Nodup)→Q (.ref l) H') : rSortLL K [.ref p] H Q:=by
 refine ⟨p,vs,Ls,rfl,SqL.of h,by rw [x.length]; exact ll,x.lssB,fun l π fl op=>?_⟩
 have wl:=x.length
 have pv:(π.map fun i=>vs.getD i V.non).Perm vs:=pick_perm V.non (by rw [wl]; exact op.1)
 refine k l _ (π.map fun i=>Ls.getD i []) _ fl upd_same ((x.pickB π fun i hi=>?_).keep (Same.new fl)) (pick_perm [] op.1) (Same.new fl) (fun Ss pm hs=>pick_ordB op pm hs) ?_ (fun v hv=>pv.mem_iff.mp hv) (fun nd=>pv.nodup_iff.mpr nd)
 ·exact List.mem_range.mp (op.1.mem_iff.mp hi)
 ·have pl:=op.1.length_eq
  rw [List.length_range] at pl
  rw [List.pairwise_map,List.pairwise_iff_getElem]
  intro i j hi hj ij
  have:=op.2 i j (by omega) (by omega)
  rw [List.getD_eq_getElem?_getD (l:=π),List.getD_eq_getElem?_getD (l:=π),List.getElem?_eq_getElem hi,List.getElem?_eq_getElem hj] at this
  exact this
theorem lex_head {a b:List Int} {x y:Int} (ha:a[0]?=some x) (hb:b[0]?=some y) (xy:x<y) : lexB b a=false:=by
 cases a with
 | nil=>cases ha
 | cons p a =>
  cases b with
  | nil=>cases hb
  | cons q b =>
   cases ha; cases hb
   show (if y=x then lexB b a else decide (y<x))=false
   rw [if_neg (by omega),decide_eq_false (by omega)]
theorem shg_lex {n:Int} {Ls:List (List Int)} {hs:List Int} (s:Shg n Ls hs) : Ls.Pairwise fun a b=>lexB b a=false:=by
 rw [List.pairwise_iff_getElem]
 intro i j hi hj ij
 have hl:=s.hl
 have up:=List.pairwise_iff_getElem.mp s.hup i j (by omega) (by omega) ij
 exact lex_head (s.head i _ _ (List.getElem?_eq_getElem hi) (List.getElem?_eq_getElem (by omega))) (s.head j _ _ (List.getElem?_eq_getElem hj) (List.getElem?_eq_getElem (by omega))) up
end Sw
namespace Sw
open PySem L2
def NextIn (L:List Int) (x y:Int) : Prop:=y∈L∧((x<y∧∀ z∈L,¬ (x<z∧z<y))∨(∀ z∈L,y≤z∧z≤x))
theorem next_uniq {L:List Int} {x y y':Int} (hx:x∈L) (h:NextIn L x y) (g:NextIn L x y') : y=y':=by
 obtain ⟨h1,h2 | h2⟩:=h <;> obtain ⟨g1,g2 | g2⟩:=g
 ·have:=h2.2 y' g1; have:=g2.2 y h1; omega
 ·have:=g2 y h1; omega
 ·have:=h2 y' g1; omega
 ·have:=h2 y' g1; have:=g2 y h1; omega
section
variable {n:Int} {Ls Ms:List (List Int)}
theorem next_of (c:Cov n Ls) (rise : ∀ L∈Ls,L.Pairwise (· < ·)) {L:List Int} (hL:L∈Ls) {x:Int} (hx:x∈L) : NextIn L x (ld (madeM n Ls) x):=by
 obtain ⟨j,hj,rfl⟩:=List.getElem_of_mem hx
 have cy:=(fine_rnds c.fine).cyc L hL
 obtain ⟨_,_,p3⟩:=cy.2 j L[j] (List.getElem?_eq_getElem hj)
 have ml:(j+1) % L.length<L.length:=Nat.mod_lt _ (by omega)
 rw [List.getElem?_eq_getElem ml] at p3
 rw [← Option.some.inj p3]
 have lt : ∀ (a b:Nat) (ha:a<L.length) (hb:b<L.length),a<b→L[a]<L[b]:=fun a b ha hb h=>List.pairwise_iff_getElem.mp (rise L hL) a b ha hb h
 have le : ∀ (a b:Nat) (ha:a<L.length) (hb:b<L.length),a≤b→L[a]≤L[b]:=fun a b ha hb h=>by
  by_cases q:a=b
  ·subst q; omega
  ·have:=lt a b ha hb (by omega); omega
 refine ⟨List.getElem_mem _,?_⟩
 by_cases c1:j+1<L.length
 ·have e:(j+1) % L.length=j+1:=Nat.mod_eq_of_lt c1
  simp only [e]
  refine .inl ⟨lt j (j+1) hj c1 (by omega),fun z hz g=>?_⟩
  obtain ⟨k,hk,rfl⟩:=List.getElem_of_mem hz
  by_cases q:k≤j
  ·have:=le k j hk hj q; omega
  ·have:=le (j+1) k c1 hk (by omega); omega
 ·have e:(j+1) % L.length=0:=by rw [show j+1=L.length by omega,Nat.mod_self]
  simp only [e]
  refine .inr fun z hz=>?_
  obtain ⟨k,hk,rfl⟩:=List.getElem_of_mem hz
  exact ⟨le 0 k (by omega) hk (by omega),le k j hk hj (by omega)⟩
structure JoinD (n:Int) (Ls Ms:List (List Int)) (A B C:List Int) : Prop where
 cL:Cov n Ls
 rL : ∀ L∈Ls,L.Pairwise (· < ·)
 xL:NonX Ls
 cM:Cov n Ms
 rM : ∀ L∈Ms,L.Pairwise (· < ·)
 hA:A∈Ls
 hB:B∈Ls
 AB:A≠B
 hC:C∈Ms
 mC : ∀ x,x∈C↔x∈A∨x∈B
 rest : ∀ L∈Ls,L≠A→L≠B→L∈Ms
end
end Sw
namespace Sw
open PySem L2
structure Gsd (n:Int) (S:List (List Int)) : Prop where
 cv:Cov n S
 rise : ∀ L∈S,L.Pairwise (· < ·)
 nx:NonX S
 srt:S.Pairwise fun a b=>lexB b a=false
def alone (n:Int) : List (List Int):=(ivl 1 (n+1)).map fun x=>[x]
structure Chd (n:Int) (SS:List (List (List Int))) : Prop where
 first:SS[0]?=some (alone n)
 good : ∀ S∈SS,Gsd n S
 len : ∀ (t:Nat) (S:List (List Int)),SS[t]?=some S→S.length+t=n.toNat
 step : ∀ (t:Nat) (S S':List (List Int)),SS[t]?=some S→SS[t+1]?=some S'→∃ A B C,JoinD n S S' A B C
section
variable {n:Int}
theorem whole_great (n1 : 1≤n) {S:List (List Int)} (g:Gsd n S) (l:S.length=1) : madeM n S=grM n:=by
 obtain ⟨C,rfl⟩:=List.length_eq_one_iff.mp l
 have mem : ∀ z,z∈C↔1≤z∧z≤n:=fun z=>by
  have:=g.cv.2.mem_iff (a:=z)
  rw [List.flatten_cons,List.flatten_nil,List.append_nil,ivl_mem3] at this
  exact this
 refine ord_ext (n:=n) (madeM_length n _) (by unfold grM; rw [List.length_map,ivl_length]; omega) fun x x1 x2=>?_
 have hx:=(mem x).mpr ⟨x1,x2⟩
 refine next_uniq hx (next_of g.cv g.rise (List.mem_singleton.mpr rfl) hx) ?_
 have e:ld (grM n) x=x % n+1:=by
  unfold grM
  rw [ld_map (ord_plain n) _ x1 x2,show ld (ivl 1 (n+1)) x=x from (nil_rnds n).rest x x1 x2 (by simp)]
 rw [e]
 by_cases c:x=n
 ·rw [c,Int.emod_self]
  exact ⟨(mem _).mpr (by omega),.inr fun z hz=>by have:=(mem z).mp hz; omega⟩
 ·rw [Int.emod_eq_of_lt (by omega) (by omega)]
  exact ⟨(mem _).mpr (by omega),.inl ⟨by omega,fun z hz=>by omega⟩⟩
end
end Sw
namespace Sw
open PySem L2
theorem flat_nodup {n:Int} {F:List (List Int)} (c:Cov n F) : F.Nodup:=by
 have ndf:F.flatten.Nodup:=c.2.nodup_iff.mpr (ivl_nodup3 n)
 rw [List.Nodup,List.pairwise_iff_getElem]
 intro i j hi hj ij e
 obtain ⟨x,hx⟩:=List.exists_mem_of_ne_nil _ (c.1 _ (List.getElem_mem hi))
 exact List.pairwise_iff_getElem.mp (List.pairwise_flatten.mp ndf).2 i j hi hj ij x hx x (e ▸ hx) rfl
end Sw
namespace Sw
open PySem L2
section
variable {n:Int} {xs:List Int}
theorem sh_own (o:Ord n xs) {m:Int} (m1 : 1≤m) (m2:m≤n) : ∃ K∈shM n xs,m∈K:=List.mem_flatten.mp ((sh_cov o).all m1 m2)
theorem sh_is (o:Ord n xs) {K:List Int} (hK:K∈shM n xs) {m:Int} (hm:m∈K) (m1 : 1≤m) (m2:m≤n) : srtA (orb xs m)=K:=by
 refine rise_uniq (srtA_lt (orb_nodup o m1 m2)) ((sh_facts o).rise K hK) fun y=>?_
 rw [(srtA_perm _).mem_iff]
 exact (sh_orb o hK hm).symm
theorem rnd_any (o:Ord n xs) {ms:List Int} (bd : ∀ m∈ms,1≤m∧m≤n) (dis:ms.Pairwise fun a b=>b∉orb xs a) (all : ∀ y,1≤y→y≤n→∃ m∈ms,y∈orb xs m) : (ms.map fun m=>srtA (orb xs m)).Perm (shM n xs):=by
 have self : ∀ m,1≤m→m≤n→m∈orb xs m:=fun m m1 m2=>by
  obtain ⟨K,hK,hm⟩:=sh_own o m1 m2
  exact (sh_orb o hK hm).mp hm
 refine (List.perm_ext_iff_of_nodup ?_ (flat_nodup (sh_cov o))).mpr fun K=>⟨fun h=>?_,fun hK=>?_⟩
 ·rw [List.Nodup,List.pairwise_map]
  refine List.Pairwise.imp_of_mem (fun {a b} ha hb h e=>h ?_) dis
  have hb':=self b (bd b hb).1 (bd b hb).2
  rw [← (srtA_perm _).mem_iff,← e,(srtA_perm _).mem_iff] at hb'
  exact hb'
 ·obtain ⟨m,hm,rfl⟩:=List.mem_map.mp h
  obtain ⟨K,hK,hmK⟩:=sh_own o (bd m hm).1 (bd m hm).2
  rw [sh_is o hK hmK (bd m hm).1 (bd m hm).2]
  exact hK
 ·obtain ⟨x,hx⟩:=List.exists_mem_of_ne_nil _ ((sh_cov o).1 K hK)
  have xb:=ivl_mem3.mp ((sh_cov o).2.mem_iff.mp (List.mem_flatten.mpr ⟨K,hK,hx⟩))
  obtain ⟨m,hm,hxm⟩:=all x xb.1 xb.2
  obtain ⟨K',hK',hmK'⟩:=sh_own o (bd m hm).1 (bd m hm).2
  have hx':x∈K':=(sh_orb o hK' hmK').mpr hxm
  have e:=flat_uniq ((sh_cov o).2.nodup_iff.mpr (ivl_nodup3 n)) hK hK' hx hx'
  subst e
  exact List.mem_map.mpr ⟨m,hm,sh_is o hK hmK' (bd m hm).1 (bd m hm).2⟩
end
end Sw
namespace L2
open PySem PySem.Spec PyProof.Rows
theorem gNJ {i:Nat} {v:V} {σ : St} {H:Hp} {k:St→Hp→Prop} (h:k (σ.set i (some v)) H) : gName i v σ H k:=h
theorem seq_byJ {t u:TS} {D:Ends} {σ : St} {H:Hp} (R:St→Hp→Prop) (h1 : ∀ D':Ends,(∀ σ' H',R σ' H'→D'.nx σ' H')→t D' σ H) (h2 : ∀ σ' H',R σ' H'→u D σ' H') : tSeq t u D σ H:=h1 _ h2
theorem sub_leA {α : Type} [DecidableEq α] : ∀ {as bs:List α},as.Nodup→(∀ x∈as,x∈bs)→as.length≤bs.length
 | [],_,_,_=>Nat.zero_le _
 | a :: as,bs,nd,h=>by
  rw [List.nodup_cons] at nd
  have hb:=h a List.mem_cons_self
  have le:=sub_leA (bs:=bs.erase a) nd.2 fun x hx=>by
   have ne:x≠a:=fun z=>nd.1 (by rw [← z]; exact hx)
   exact (List.mem_erase_of_ne ne).mpr (h x (List.mem_cons_of_mem _ hx))
  rw [List.length_erase_of_mem hb] at le
  have:=List.length_pos_of_mem hb
  rw [List.length_cons]
  omega
end L2
namespace Sw
open PySem L2
structure TLrd (mg:Str→Option Value) (K:PySem.W.Frag) : Prop extends T1 mg K where
 b_sorted:mg "sorted" = none
theorem itn_newD {n:Int} {xs:List Int} (o:Ord n xs) {x:Int} (h1 : 1≤x) (h2:x≤n) {j:Nat} (hj:j<per xs x) : itn (ld xs) j x∉(List.range j).map fun k=>itn (ld xs) k x:=by
 intro z
 obtain ⟨k,hk,e⟩:=List.mem_map.mp z
 have hk:=List.mem_range.mp hk
 have nd:=orb_nodup o h1 h2
 unfold orb at nd
 have:=List.pairwise_iff_getElem.mp nd k j (by simp; omega) (by simp; omega) hk
 simp at this
 exact this e
theorem neLD {K:PySem.W.Frag} {H:Hp} {t u:Addr} {ns:List Int} {Q:VK} (h1:H t=some (.lst (ns.map V.int))) (h2:H u=some (.lst [])) (q:Q (.bl (!decide (ns=[]))) H) : rNeD K (.ref t) (.ref u) H Q:=by
 refine ⟨fun _=>True,.list (ns.map PyData.int),.list [],.lst (SqL.of h1) True.intro (ints_dat ns),.lst (SqL.of h2) True.intro .nil,?_,rfl,?_,?_⟩
 ·unfold PyData.canLay0; exact lay_ints ns
 ·unfold PyData.depth; rw [depth_ints]; decide
 ·have:=eqv_ints ns []
  unfold PyData.eqv
  rw [show PyData.eqvAll (ns.map PyData.int) []=decide (ns=[]) from this]; exact q
structure RdI (n:Int) (xs:List Int) (i:Nat) (ms:List Int) (kvs:List (Key × V)) : Prop where
 bd : ∀ m∈ms,1≤m∧m≤n
 dis:ms.Pairwise fun a b=>b∉orb xs a
 key : ∀ y:Int,(valV kvs (Sum.inl y:Key)).isSome=true↔∃ m∈ms,y∈orb xs m
 got : ∀ y∈xs.take i,∃ m∈ms,y∈orb xs m
section
variable {P:Program} {w:World} {K:PySem.W.Frag} {mg:Str→Option Value} {base:Heap}
theorem sc__law_rounds:FnScope ["_law_order", "_law_met", "_law_found", "_law_thing", "_law_some"] ["_law_order"] (defScope (top 68)):=⟨rfl,rfl,rfl,by decide +kernel,rfl,by decide +kernel,by decide +kernel⟩
theorem ok_lrd {f:Addr} {fd:FuncData} (F:Fun K "_law_rounds" "_law_rounds" (top 68) f fd) (T:TLrd mg K) : FnOk P w K mg base CX0 1 f fd ["_law_order"] spShb:=by
 refine F.ok sc__law_rounds (fun vs H Q E h=>?_) (fun cdv A outer s H vs Q E hr h=>?_)
 ·obtain ⟨t,n,xs,rfl,_⟩:=h
  rfl
 ·obtain ⟨t,n,xs,rfl,ht,o,hn,k⟩:=h
  have hu:=hu_of hr
  refine ⟨_,(pss_cons (ps_set (i:=1) sc__law_rounds.nd rfl (Or.inl rfl) pe_dnewK)
   (pss_cons (ps_set (i:=2) sc__law_rounds.nd rfl (Or.inl rfl) (pe_lst pa_nil))
   (pss_cons (ps_for PassesOwn.never rfl (pi_tupK (K:=K) rfl (pv 0)) (pg_name (i:=3) sc__law_rounds.nd rfl (Or.inl rfl)) (pss_cons (ps_set (i:=4) sc__law_rounds.nd rfl (Or.inl rfl) (pe_lst pa_nil))
   (pss_cons (ps_while PassesOwn.never (pt_cmp (pc_dnotin hu (pv 3) (pv 1))) (pss_cons (ps_dput hu (pv 1) (pv 3) pe_bl rfl)
   (pss_cons (ps_expr (pe_bmK (K:=K) rfl PySem.F.plainAttrs_list PySem.F.slot_list_append PySem.F.type_list_append mt_append (pv 4) (pa_cons (pv 3) pa_nil)))
   (pss_one (ps_set (i:=3) sc__law_rounds.nd rfl (Or.inl rfl) (pe_ix (ix_tupK (K:=K) rfl) (pv 0) (pe_op op_sub (pv 3) pe_int) (fun _ _=>rfl)))))))
   (pss_one (ps_if (pt_cmpR (op_neD hr.units) (pv 4) (pe_lst pa_nil) (nomark _)) (pss_one (ps_expr (pe_bmK (K:=K) rfl PySem.F.plainAttrs_list PySem.F.slot_list_append PySem.F.type_list_append mt_append (pv 2) (pa_cons (pe_callB (call_sorted (K:=K) rfl) rfl T.b_sorted (by decide +kernel) (pa_cons (pv 4) pa_nil)) pa_nil)))) pss_nil)))))
   (pss_one (ps_ret (pe_callB (call_sortedLL (K:=K) rfl hr.units) rfl T.b_sorted (by decide +kernel) (pa_cons (pv 2) pa_nil))))))),?_⟩
  have ol:=o.length
  have big:(10000000:Nat)≤sizeLine:=by decide
  refine fun gd fgd=>?_
  have s1:Same H (upd H gd (.dK [])):=Same.new fgd
  have hgd1:upd H gd (.dK []) gd=some (.dK []):=upd_same
  generalize upd H gd (.dK [])=H1 at s1 hgd1 ⊢
  refine ⟨Nat.zero_le _,fun lf flf=>?_⟩
  have s2:Same H1 (upd H1 lf (.lst [])):=Same.new flf
  have hlf2:upd H1 lf (.lst []) lf=some (.lst []):=upd_same
  have ngf:gd≠lf:=ne_of_none hgd1 flf
  have flfH:H lf=none:=s1.free flf
  have hgd2:=s2 _ _ hgd1
  have S2:=s1.trans s2
  generalize upd H1 lf (.lst [])=H2 at s2 hlf2 hgd2 S2 ⊢
  refine ⟨_,rfl,t,rfl,⟨_,SqT.of (S2 _ _ ht)⟩,for_tup (K:=K) (a:=t) (xs:=xs.map V.int) (fun i σ H'=>∃ ws ms kvs v3 v4,σ=[some (.ref t),some (.ref gd),some (.ref lf),v3,v4]∧Same H H'∧H' gd=some (.dK kvs)∧H' lf=some (.lst ws)∧Lsts H' ws (ms.map fun m=>srtA (orb xs m))∧Fresh H ws∧V.ref lf∉ws∧kvs.length≤1000 * i∧ws.length≤i∧RdI n xs i ms kvs) ⟨[],[],[],_,_,rfl,S2,hgd2,hlf2,.nil,Fresh.nil,by simp,Nat.zero_le _,Nat.zero_le _,⟨fun m hm=>(by cases hm),.nil,fun y=>⟨fun z=>(by cases z),fun ⟨m,hm,_⟩=>(by cases hm)⟩,fun y hy=>(by cases hy)⟩⟩ (fun i σ H' _ z=>by obtain ⟨_,_,_,_,_,_,s,_⟩:=z; exact SqT.of (s _ _ ht)) ?_ ?_⟩
  ·rintro i x σ H3 hx ⟨ws,ms,kvs,v3,v4,rfl,s3,hg3,hf3,x3,fr3,nf3,kl,wl,R⟩
   obtain ⟨x0,rfl,hx0⟩:=mem_int hx
   have hi:=(List.getElem?_eq_some_iff.mp hx0).1
   obtain ⟨b1,b2⟩:=o.mem.mp (List.mem_of_getElem? hx0)
   have et:xs.take (i+1)=xs.take i++[x0]:=take_snoc hx0
   refine ⟨Nat.zero_le _,fun la hla=>?_⟩
   have fla:H la=none:=s3.free hla
   have nfa:lf≠la:=ne_of_none hf3 hla
   have nga:gd≠la:=ne_of_none hg3 hla
   have naw:V.ref la∉ws:=fun z=>by obtain ⟨o',e⟩:=x3.mem z; rw [hla] at e; cases e
   have ngw:V.ref gd∉ws:=fun z=>by obtain ⟨o',e⟩:=x3.mem z; rw [hg3] at e; cases e
   have pl:=per_le o b1 b2
   have pp : 1≤per xs x0:=by unfold per; omega
   have s4:Same H3 (upd H3 la (.lst [])):=Same.new hla
   refine ⟨fun m σ H'=>∃ (j:Nat) (kvs':List (Key × V)),m=per xs x0 - j∧j≤per xs x0∧σ=[some (.ref t),some (.ref gd),some (.ref lf),some (.int (itn (ld xs) j x0)),some (.ref la)]∧Same H H'∧H' gd=some (.dK kvs')∧H' lf=some (.lst ws)∧H' la=some (.lst (((List.range j).map fun k=>itn (ld xs) k x0).map V.int))∧Lsts H' ws (ms.map fun m=>srtA (orb xs m))∧kvs'.length≤1000 * i+j∧(∀ y:Int,(valV kvs' (Sum.inl y:Key)).isSome=true↔(∃ m∈ms,y∈orb xs m)∨y∈(List.range j).map fun k=>itn (ld xs) k x0)∧(0<j→¬ ∃ m∈ms,x0∈orb xs m),⟨_,0,kvs,rfl,Nat.zero_le _,rfl,s3.trans s4,s4 _ _ hg3,s4 _ _ hf3,upd_same,x3.keep s4,kl,fun y=>by rw [R.key y]; simp,fun z=>absurd z (Nat.lt_irrefl _)⟩,?_⟩
   rintro m σ H5 ⟨j,kvs',rfl,jp,rfl,s5,hg5,hf5,ha5,x5,kl5,ky5,no5⟩
   have ir:=itn_in o b1 b2 j
   have inO:itn (ld xs) j x0∈orb xs x0:=(orb_mem o b1 b2).mpr ⟨j,rfl⟩
   refine ⟨_,rfl,_,rfl,gd,_,rfl,DGet.k (k:=Sum.inl (itn (ld xs) j x0)) hg5,_,rfl,ite2 (fun c=>?_) (fun c=>?_)⟩
   ·-- not met yet
    have c : ¬ (valV kvs' (Sum.inl (itn (ld xs) j x0) : Key)).isSome=true:=by simpa using c
    have lt:j<per xs x0:=by
     by_cases e:j=per xs x0
     ·refine absurd ((ky5 _).mpr (.inr ?_)) c
      rw [e,per_eq o b1 b2]
      exact List.mem_map.mpr ⟨0,List.mem_range.mpr (by omega),rfl⟩
     ·omega
    have nox : ¬ ∃ m∈ms,x0∈orb xs m:=fun ⟨m,hm,h⟩=>c ((ky5 _).mpr (.inl ⟨m,hm,orb_trans o (R.bd m hm).1 (R.bd m hm).2 h inO⟩))
    have gt:atI (xs.map V.int) (itn (ld xs) j x0 - 1)=some (.int (itn (ld xs) (j+1) x0)):=at_int (ns:=xs) (i:=itn (ld xs) j x0 - 1) (by omega) (ld_get o ir.1 ir.2)
    refine ⟨fun σ' H'=>∃ (kvs2:List (Key × V)),σ'=[some (.ref t),some (.ref gd),some (.ref lf),some (.int (itn (ld xs) (j+1) x0)),some (.ref la)]∧Same H H'∧H' gd=some (.dK kvs2)∧H' lf=some (.lst ws)∧H' la=some (.lst (((List.range (j+1)).map fun k=>itn (ld xs) k x0).map V.int))∧Lsts H' ws (ms.map fun m=>srtA (orb xs m))∧kvs2.length≤1000 * i+(j+1)∧(∀ y:Int,(valV kvs2 (Sum.inl y:Key)).isSome=true↔(∃ m∈ms,y∈orb xs m)∨y∈(List.range (j+1)).map fun k=>itn (ld xs) k x0),fun σ' H' ⟨kvs2,e,h1,h2,h3,h4,h5,h6,h7⟩=>⟨_,(by show per xs x0 - (j+1)<_; omega),j+1,kvs2,rfl,by omega,e,h1,h2,h3,h4,h5,h6,h7,fun _=>nox⟩,?_⟩
    have mi : 1000 * i≤1000 * 1000:=Nat.mul_le_mul_left _ (by omega)
    refine ⟨_,rfl,_,rfl,gd,_,rfl,DPut.k (k:=Sum.inl (itn (ld xs) j x0)) hg5 (by omega),?_⟩
    have s6:Same H (upd H5 gd (.dK (putK kvs' (Sum.inl (itn (ld xs) j x0) : Key) (.bl true)))):=Same.put s5 fgd
    have hg6:upd H5 gd (.dK (putK kvs' (Sum.inl (itn (ld xs) j x0) : Key) (.bl true))) gd=some (.dK (putK kvs' (Sum.inl (itn (ld xs) j x0) : Key) (.bl true))):=upd_same
    have hf6:upd H5 gd (.dK (putK kvs' (Sum.inl (itn (ld xs) j x0) : Key) (.bl true))) lf=some (.lst ws):=by rw [upd_ne ngf.symm]; exact hf5
    have ha6:upd H5 gd (.dK (putK kvs' (Sum.inl (itn (ld xs) j x0) : Key) (.bl true))) la=some (.lst (((List.range j).map fun k=>itn (ld xs) k x0).map V.int)):=by rw [upd_ne nga.symm]; exact ha5
    have x6:=x5.off (o:=.dK (putK kvs' (Sum.inl (itn (ld xs) j x0) : Key) (.bl true))) ngw
    generalize upd H5 gd (.dK (putK kvs' (Sum.inl (itn (ld xs) j x0) : Key) (.bl true)))=H6 at s6 hg6 hf6 ha6 x6 ⊢
    refine ⟨_,rfl,.inl ⟨rfl,_,SqL.of ha6⟩,_,rfl,la,_,_,rfl,rfl,ha6,by simp; omega,?_⟩
    have ej:((List.range j).map fun k=>itn (ld xs) k x0).map V.int++[V.int (itn (ld xs) j x0)]=((List.range (j+1)).map fun k=>itn (ld xs) k x0).map V.int:=by
     rw [List.range_succ,List.map_append,List.map_append]; rfl
    rw [ej]
    have s7:Same H (upd H6 la (.lst (((List.range (j+1)).map fun k=>itn (ld xs) k x0).map V.int))):=Same.put s6 fla
    refine ⟨_,rfl,_,rfl,_,_,rfl,rfl,t,_,_,_,rfl,rfl,SqT.of (s7 _ _ ht),gt,?_⟩
    refine ⟨_,rfl,s7,by rw [upd_ne nga]; exact hg6,by rw [upd_ne nfa]; exact hf6,upd_same,x6.off naw,Nat.le_trans (length_putK _ _ _) (by omega),fun y=>?_⟩
    rw [valV_put,List.range_succ,List.map_append,List.mem_append,← or_assoc,← ky5 y]
    by_cases ey:y=itn (ld xs) j x0
    ·rw [if_pos (by rw [ey])]
     exact ⟨fun _=>.inr (List.mem_singleton.mpr ey),fun _=>rfl⟩
    ·rw [if_neg (by intro q; injection q with q; exact ey q)]
     exact ⟨fun h=>.inl h,fun h=>h.resolve_right fun z=>ey (List.mem_singleton.mp z)⟩
   ·-- met
    have c:(valV kvs' (Sum.inl (itn (ld xs) j x0) : Key)).isSome=true:=by
     cases hh:(valV kvs' (Sum.inl (itn (ld xs) j x0) : Key)).isSome with
     | true=>rfl
     | false=>rw [hh] at c; exact absurd rfl c
    refine ⟨_,rfl,Nat.zero_le _,fun le fle=>?_⟩
    have se:Same H5 (upd H5 le (.lst [])):=Same.new fle
    have ge:upd H5 le (.lst []) le=some (.lst []):=upd_same
    have nfe:lf≠le:=ne_of_none hf5 fle
    generalize upd H5 le (.lst [])=H6 at se ge ⊢
    have s6:=s5.trans se
    have hg6:=se _ _ hg5
    have hf6:=se _ _ hf5
    have ha6:=se _ _ ha5
    have x6:=x5.keep se
    refine neLD ha6 ge ⟨_,rfl,?_⟩
    by_cases j0:j=0
    ·subst j0
     refine iteE (by simp) ?_
     have inn : ∃ m∈ms,x0∈orb xs m:=by
      rcases (ky5 _).mp c with h | h
      ·exact h
      ·simp at h
     refine ⟨ws,ms,kvs',_,_,rfl,s6,hg6,hf6,x6,fr3,nf3,by omega,by omega,R.bd,R.dis,fun y=>by rw [ky5 y]; simp,fun y hy=>?_⟩
     rw [et] at hy
     rcases List.mem_append.mp hy with hy | hy
     ·exact R.got y hy
     ·rw [List.mem_singleton.mp hy]; exact inn
    ·have nox:=no5 (by omega)
     have e:j=per xs x0:=by
      apply Classical.byContradiction
      intro z
      rcases (ky5 _).mp c with ⟨m,hm,h⟩ | h
      ·exact nox ⟨m,hm,orb_trans o (R.bd m hm).1 (R.bd m hm).2 h (orb_sym o b1 b2 inO)⟩
      ·exact itn_newD o b1 b2 (j:=j) (by omega) h
     subst e
     have eo:(List.range (per xs x0)).map (fun k=>itn (ld xs) k x0)=orb xs x0:=rfl
     rw [eo] at ha6 ky5 ⊢
     have one:orb xs x0≠[]:=fun z=>by have:=orb_self (xs:=xs) x0; rw [z] at this; cases this
     refine iteP (by rw [decide_eq_false one]; rfl) ?_
     have ol2:=orb_length xs x0
     refine ⟨_,rfl,.inl ⟨rfl,_,SqL.of hf6⟩,?_⟩
     refine ⟨_,rfl,la,orb xs x0,rfl,SqL.of ha6,by omega,fun l6 r6 f6 pm pw=>?_⟩
     have e6:=srtA_is pm pw
     have s7:Same H6 (upd H6 l6 (.lst (r6.map V.int))):=Same.new f6
     have g7:upd H6 l6 (.lst (r6.map V.int)) l6=some (.lst (r6.map V.int)):=upd_same
     have nf6:lf≠l6:=ne_of_none hf6 f6
     generalize upd H6 l6 (.lst (r6.map V.int))=H7 at s7 g7 ⊢
     have hf7:=s7 _ _ hf6
     have hg7:=s7 _ _ hg6
     have S7:=s6.trans s7
     have x7:=x6.keep s7
     refine ⟨lf,_,_,rfl,rfl,hf7,by omega,?_⟩
     refine ⟨ws++[.ref l6],ms++[x0],kvs',_,_,rfl,Same.put S7 flfH,by rw [upd_ne ngf]; exact hg7,upd_same,?_,fr3.snoc x6 f6 (s6.free f6),?_,by omega,by rw [List.length_append]; show _+1≤_; omega,⟨fun m hm=>?_,?_,fun y=>?_,fun y hy=>?_⟩⟩
     ·rw [List.map_append]
      refine Lsts.off (x7.snoc (by rw [g7,e6])) ?_
      intro z
      rcases List.mem_append.mp z with z | z
      ·exact nf3 z
      ·exact nf6 (by simpa using z)
     ·intro z
      rcases List.mem_append.mp z with z | z
      ·exact nf3 z
      ·exact nf6 (by simpa using z)
     ·rcases List.mem_append.mp hm with hm | hm
      ·exact R.bd m hm
      ·rw [List.mem_singleton.mp hm]; exact ⟨b1,b2⟩
     ·refine List.pairwise_append.mpr ⟨R.dis,List.pairwise_singleton _ _,fun a ha b hb=>?_⟩
      rw [List.mem_singleton.mp hb]
      exact fun z=>nox ⟨a,ha,z⟩
     ·rw [ky5 y]
      constructor
      ·rintro (⟨m,hm,h⟩ | h)
       ·exact ⟨m,List.mem_append_left _ hm,h⟩
       ·exact ⟨x0,List.mem_append_right _ (List.mem_singleton.mpr rfl),h⟩
      ·rintro ⟨m,hm,h⟩
       rcases List.mem_append.mp hm with hm | hm
       ·exact .inl ⟨m,hm,h⟩
       ·rw [List.mem_singleton.mp hm] at h; exact .inr h
     ·rw [et] at hy
      rcases List.mem_append.mp hy with hy | hy
      ·obtain ⟨m,hm,h⟩:=R.got y hy
       exact ⟨m,List.mem_append_left _ hm,h⟩
      ·rw [List.mem_singleton.mp hy]
       exact ⟨x0,List.mem_append_right _ (List.mem_singleton.mpr rfl),orb_self x0⟩
  ·rintro σ H3 ⟨ws,ms,kvs,v3,v4,rfl,s3,hg3,hf3,x3,fr3,nf3,kl,wl,R⟩
   rw [List.length_map] at wl
   have R':=R.got
   rw [List.length_map,List.take_of_length_le (Nat.le_refl _)] at R'
   have pm:=rnd_any o R.bd R.dis fun y y1 y2=>R' y (o.mem.mpr ⟨y1,y2⟩)
   have xl:=x3.length
   refine ⟨_,rfl,?_⟩
   dsimp only [tNil]
   refine sortLB hf3 x3 (by omega) fun l9 us Ms H9 f9 h9 x9 p9 s9 uq so sub nd=>?_
   have e:=uq _ pm (shg_lex (sh_facts o))
   subst e
   refine k l9 H9 ⟨us,s3.free f9,h9,x9,⟨nd fr3.1,fun v hv=>fr3.2 v (sub v hv)⟩,fun z=>?_⟩ (s3.trans s9)
   obtain ⟨o',e⟩:=x3.mem (sub _ z)
   rw [f9] at e; cases e
end
end Sw
namespace Sw
open PySem L2
theorem two_val {a b x:Int} (ab:a≠b) : (valV (mergeK [] [((Sum.inl a:Key),V.int b),(Sum.inl b,V.int a)]) (Sum.inl x:Key)).getD (V.int x)=V.int (swp x (a,b)):=by
 have e:mergeK [] [((Sum.inl a:Key),V.int b),(Sum.inl b,V.int a)]=[((Sum.inl a:Key),V.int b),(Sum.inl b,V.int a)]:=by
  unfold mergeK putK
  simp [putK,ab]
 rw [e]
 unfold valV swp
 by_cases h1:x=a
 ·subst h1; simp
 ·by_cases h2:x=b
  ·subst h2
   simp [h1,ab]
  ·have n1 : ¬ a=x:=fun z=>h1 z.symm
   have n2 : ¬ b=x:=fun z=>h2 z.symm
   simp [h1,h2,n1,n2]
def spLth:Sp:=fun vs H Q _=>∃ (t:Addr) (o:List Int) (a b:Int),vs=[.ref t,.int a,.int b]∧H t=some (.tup (o.map V.int))∧o.length≤1000∧a≠b∧∀ r H',H r=none→H' r=some (.tup ((o.map fun x=>swp x (a,b)).map V.int))→Same H H'→Q (.ref r) H'
section
variable {P:Program} {w:World} {K:PySem.W.Frag} {mg:Str→Option Value} {base:Heap}
theorem sc__law_then:FnScope ["_law_order", "_law_a", "_law_b"] ["_law_order", "_law_a", "_law_b"] (defScope (top 67)):=⟨rfl,rfl,rfl,by decide +kernel,rfl,by decide +kernel,by decide +kernel⟩
theorem ok_lth {f:Addr} {fd:FuncData} (F:Fun K "_law_then" "_law_then" (top 67) f fd) (T:T1 mg K) : FnOk P w K mg base CX0 1 f fd ["_law_order", "_law_a", "_law_b"] spLth:=by
 refine F.ok sc__law_then (fun vs H Q E h=>?_) (fun cdv A outer s H vs Q E hr h=>?_)
 ·obtain ⟨t,o,a,b,rfl,_⟩:=h
  rfl
 ·obtain ⟨t,o,a,b,rfl,ht,ol,ab,k⟩:=h
  have hu:=hu_of hr
  refine ⟨_,(pss_one (ps_ret (pe_callTy (call_tuple_ofK (K:=K) rfl) rfl T.b_tuple (by decide +kernel) (pa_cons (pe_comp (N:=(["_law_goal", "_law_a", "_law_b"] : List Str)) (ix:=([none,some 1,some 2] : List (Option Nat))) (comp_ok rfl rfl) rfl (pi_tupK (K:=K) rfl (pv 0)) (fun _ _ _ _=>(pg_name (i:=0) (show List.Nodup (["_law_goal", "_law_a", "_law_b"] : List Str) from by decide +kernel) rfl (Or.inl rfl))) (fun _ _ _ _=>pif_nil) (fun _ _ _ _=>(pe_dget2 hu (pe_disp (pps_cons (pv 1) (pv 2) (pps_cons (pv 2) (pv 1) pps_nil)) rfl rfl (by simp) (by decide)) (pv 0) (pv 0) ⟨rfl,rfl,rfl,rfl⟩))) pa_nil)))),?_⟩
  refine ⟨_,rfl,t,rfl,⟨_,SqT.of ht⟩,compT (K:=K) (a:=t) (xs:=o.map V.int) (k:=0) (fun i ys σ' H'=>ys=((o.take i).map fun x=>swp x (a,b)).map V.int∧(∃ v,σ'=[v,some (.int a),some (.int b)])∧Same H H') (by rw [List.length_map]; omega) ⟨rfl,⟨none,rfl⟩,Same.refl _⟩ (fun i ys σ' H' _ z=>SqT.of (z.2.2 _ _ ht)) (fun i ys σ' H' z=>by rw [z.1,List.length_map,List.length_map,List.length_take]; omega) ?_ ?_⟩
  ·rintro i ys σ' H1 x R hx ⟨rfl,⟨v,rfl⟩,s1⟩ done
   obtain ⟨x,rfl,hx'⟩:=mem_int hx
   intro d fd0
   have s2:Same H1 (upd H1 d (.dK [])):=Same.new fd0
   refine ⟨_,rfl,_,rfl,_,rfl,_,rfl,upd_same,[((Sum.inl a:Key),V.int b),(Sum.inl b,V.int a)],rfl,(by show 2≤15; decide),?_⟩
   have s3:Same H1 (upd (upd H1 d (.dK [])) d (.dK (mergeK [] [((Sum.inl a:Key),V.int b),(Sum.inl b,V.int a)]))):=fun c o' e=>by
    have nc:c≠d:=ne_of_none e fd0
    rw [upd_ne nc,upd_ne nc]; exact e
   have hd:upd (upd H1 d (.dK [])) d (.dK (mergeK [] [((Sum.inl a:Key),V.int b),(Sum.inl b,V.int a)])) d=some (.dK (mergeK [] [((Sum.inl a:Key),V.int b),(Sum.inl b,V.int a)])):=upd_same
   refine ⟨d,rfl,.inl ⟨_,.inl hd⟩,_,rfl,_,rfl,_,DGet.k (k:=Sum.inl x) hd,?_⟩
   rw [two_val ab]
   refine done _ _ _ ⟨?_,⟨_,rfl⟩,s1.trans s3⟩
   rw [take_snoc hx',List.map_append,List.map_append]
   rfl
  ·rintro ys σ' H1 l ⟨rfl,_,s1⟩ fl
   rw [List.length_map,List.take_length]
   have s2:Same H1 (upd H1 l (.lst ((o.map fun x=>swp x (a,b)).map V.int))):=Same.new fl
   exact ⟨l,_,rfl,.inl ⟨SqL.of upd_same,fun r fr=>k r _ ((s1.trans s2).free fr) upd_same ((s1.trans s2).trans (Same.new fr))⟩⟩
end
end Sw
namespace Sw
open PySem L2
def Pool (H:Hp) (p:Addr) : Prop:=∃ a b:Int,H p=some (.lst [.int a,.int b])∧0≤a∧0≤b∧b<2147483647
def spPool (K:PySem.W.Frag) : Sp:=fun vs H Q _=>∃ (a:Addr) (ns:List Int) (i:Int),vs=[.ref a,.int i]∧SqL K H a (ns.map V.int)∧0≤i∧i≤1000∧∀ p H',H p=none→Pool H' p→Same H H'→Q (.ref p) H'
def spTk:Sp:=fun vs H Q _=>∃ (p:Addr) (m:Int),vs=[.ref p,.int m]∧Pool H p∧0<m∧m<2 ^ 200∧∀ r H',0≤r→r<m→Pool H' p→SameX p H H'→Q (.int r) H'
theorem Pool.at {H:Hp} {p:Addr} (h:Pool H p) : ∃ xs,H p=some (.lst xs):=by
 obtain ⟨a,b,e,_⟩:=h
 exact ⟨_,e⟩
theorem Pool.ne {H:Hp} {p q:Addr} (h:Pool H p) (n:H q=none) : p≠q:=by
 obtain ⟨xs,e⟩:=h.at
 exact ne_of_none e n
theorem Pool.keep {H H':Hp} {p:Addr} (h:Pool H p) (k:Same H H') : Pool H' p:=by
 obtain ⟨a,b,e,r⟩:=h
 exact ⟨a,b,k _ _ e,r⟩
theorem Pool.upd {H:Hp} {p q:Addr} {o:HO} (h:Pool H p) (n:p≠q) : Pool (L2.upd H q o) p:=by
 obtain ⟨a,b,e,r⟩:=h
 exact ⟨a,b,by rw [upd_ne n]; exact e,r⟩
section
variable {P:Program} {w:World} {K:PySem.W.Frag} {mg:Str→Option Value} {base:Heap}
theorem sc__law_take:FnScope ["_law_pool_here", "_law_many", "_law_found"] ["_law_pool_here", "_law_many"] (defScope (top 65)):=⟨rfl,rfl,rfl,by decide +kernel,rfl,by decide +kernel,by decide +kernel⟩
theorem ok_tk {f:Addr} {fd:FuncData} (F:Fun K "_law_take" "_law_take" (top 65) f fd) : FnOk P w K mg base CX0 1 f fd ["_law_pool_here", "_law_many"] spTk:=by
 refine F.ok sc__law_take (fun vs H Q E h=>?_) (fun cdv A outer s H vs Q E hr h=>?_)
 ·obtain ⟨p,m,rfl,_⟩:=h
  rfl
 ·obtain ⟨p,m,rfl,⟨a,b,hp,ha,hb,hb2⟩,hm,hm2,k⟩:=h
  refine ⟨_,(pss_cons (ps_if (pt_cmpR op_gt (pe_ix (ix_listK (K:=K) rfl) (pv 0) pe_int (fun _ _=>rfl)) pe_int (nomark _)) (pss_cons (ps_set (i:=2) sc__law_take.nd rfl (Or.inl rfl) (pe_op op_mod (pe_ix (ix_listK (K:=K) rfl) (pv 0) pe_int (fun _ _=>rfl)) (pv 1)))
   (pss_cons (ps_asg (pe_op op_fdivL (pe_ix (ix_listK (K:=K) rfl) (pv 0) pe_int (fun _ _=>rfl)) (pv 1)) (pg_sub (pv 0) pe_int set_list))
   (pss_one (ps_ret (pv 2))))) pss_nil)
   (pss_cons (ps_asg (pe_op op_mod (pe_op op_add (pe_op op_mul (pe_ix (ix_listK (K:=K) rfl) (pv 0) pe_int (fun _ _=>rfl)) pe_int) pe_int) pe_int) (pg_sub (pv 0) pe_int set_list))
   (pss_one (ps_ret (pe_op op_mod (pe_op op_fdivL (pe_op op_mod (pe_op op_pow (pe_ix (ix_listK (K:=K) rfl) (pv 0) pe_int (fun _ _=>rfl)) pe_int) pe_int) pe_int) (pv 1)))))),?_⟩
  refine ⟨_,rfl,p,_,_,_,rfl,rfl,SqL.of hp,rfl,_,_,rfl,rfl,_,rfl,?_⟩
  refine ite2 (fun _=>?_) (fun _=>?_)
  ·refine ⟨_,rfl,p,_,_,_,rfl,rfl,SqL.of hp,rfl,_,rfl,_,_,rfl,rfl,hm,?_⟩
   refine ⟨_,rfl,p,_,_,_,rfl,rfl,SqL.of hp,rfl,_,rfl,_,_,rfl,rfl,⟨hm,hm2⟩,_,rfl,p,_,_,0,rfl,rfl,hp,rfl,?_⟩
   refine ⟨_,rfl,?_⟩
   exact k _ _ (Int.emod_nonneg _ (by omega)) (Int.emod_lt_of_pos _ hm) ⟨_,_,upd_same,Int.ediv_nonneg ha (by omega),hb,hb2⟩ SameX.upd
  ·have posM:(0:Int)<2147483647:=by decide
   have posN:(0:Int)<2147483629:=by decide
   refine ⟨_,rfl,p,_,_,_,rfl,rfl,SqL.of hp,rfl,_,_,rfl,rfl,.inl ⟨by omega,by omega⟩,_,_,rfl,rfl,_,_,rfl,rfl,posM,_,rfl,p,_,_,1,rfl,rfl,hp,rfl,?_⟩
   have o0 : 0≤(b * 48271+11) % 2147483647:=Int.emod_nonneg _ (by decide)
   have o1:(b * 48271+11) % 2147483647<2147483647:=Int.emod_lt_of_pos _ (by decide)
   have h1:upd H p (.lst [.int a,.int ((b * 48271+11) % 2147483647)]) p=some (.lst [.int a,.int ((b * 48271+11) % 2147483647)]):=upd_same
   refine ⟨_,rfl,p,_,_,_,rfl,rfl,SqL.of h1,rfl,_,_,rfl,rfl,⟨by decide,by decide,by omega⟩,_,_,rfl,rfl,posN,_,_,rfl,rfl,⟨by decide,by decide⟩,_,rfl,_,_,rfl,rfl,hm,?_⟩
   exact k _ _ (Int.emod_nonneg _ (by omega)) (Int.emod_lt_of_pos _ hm) ⟨_,_,h1,ha,o0,o1⟩ SameX.upd
theorem sc__law_pool:FnScope ["_law_script", "_law_at", "_law_cell", "_law_far", "_law_primes"] ["_law_script", "_law_at"] (defScope (top 64)):=⟨rfl,rfl,rfl,by decide +kernel,rfl,by decide +kernel,by decide +kernel⟩
theorem ok_pool {f:Addr} {fd:FuncData} (F:Fun K "_law_pool" "_law_pool" (top 64) f fd) (T:TPurse mg) : FnOk P w K mg base CX0 1 f fd ["_law_script", "_law_at"] (spPool K):=by
 refine F.ok sc__law_pool (fun vs H Q E h=>?_) (fun cdv A outer s H vs Q E hr h=>?_)
 ·obtain ⟨a,ns,i,rfl,_⟩:=h
  rfl
 ·obtain ⟨a,ns,i,rfl,hs,hi,hi2,k⟩:=h
  refine ⟨_,(@pss_cons _ _ _ _ _ (ps_set (i:=2) sc__law_pool.nd rfl (Or.inl rfl) (pe_op op_add (pe_op op_mul pe_int (pv 1)) pe_int))
   (@pss_cons _ _ _ _ _ (ps_if (pt_cmpR op_lt (pv 1) (pe_callB (call_lenK (K:=K) rfl) rfl T.b_len (by decide +kernel) (pa_cons (pv 0) pa_nil)) (nomark _)) (pss_one (ps_set (i:=2) sc__law_pool.nd rfl (Or.inl rfl) (pe_ix (ix_listK (K:=K) rfl) (pv 0) (pv 1) (fun _ _=>rfl)))) pss_nil)
   (@pss_cons _ _ _ _ _ (ps_set (i:=3) sc__law_pool.nd rfl (Or.inl rfl) (pe_callB call_abs rfl T.b_abs (by decide +kernel) (pa_cons (pv 2) pa_nil)))
   (@pss_cons _ _ _ _ _ (ps_if (pt_cmpR op_lt (pv 3) (pe_op op_pow pe_int pe_int) (nomark _)) (pss_one (ps_set (i:=3) sc__law_pool.nd rfl (Or.inl rfl) pe_int)) pss_nil)
   (@pss_cons _ _ _ _ _ (@ps_set _ _ 4 _ _ _ _ sc__law_pool.nd rfl (Or.inl rfl) (@pe_tup _ _ _ _ _ (@pa_consts _ _ [V.int 2147483629,V.int 2147483587,V.int 2147483579,V.int 2147483563,V.int 2147483549,V.int 2147483543,V.int 2147483497,V.int 2147483489] rfl)) (by rfl) (by first | exact .inl rfl | exact .inr rfl))
   (pss_one (ps_ret (pe_lst (pa_cons (pv 3) (pa_cons (pe_op op_mod (pe_op op_add (pe_op op_add (pe_op op_mul (pe_op op_mod (pv 2) (pe_ix (ix_tupK (K:=K) rfl) (pv 4) (pe_op op_mod (pv 1) pe_int) (fun _ _=>rfl))) pe_int) (pe_op op_mul pe_int (pv 1))) pe_int) pe_int) pa_nil)))))))))),?_⟩
  have posM:(0:Int)<2147483647:=by decide
  have pos8:(0:Int)<8:=by decide
  refine ⟨_,rfl,_,_,rfl,rfl,.inl ⟨by decide,by decide⟩,_,_,rfl,rfl,?_⟩
  refine ⟨_,rfl,_,rfl,a,_,rfl,.inl hs,_,_,rfl,rfl,_,rfl,?_⟩
  have pr : ∃ z,([2147483629,2147483587,2147483579,2147483563,2147483549,2147483543,2147483497,2147483489] : List Int)[(i % 8).toNat]?=some z∧0<z∧z<2147483647:=by
   have:i % 8=0∨i % 8=1∨i % 8=2∨i % 8=3∨i % 8=4∨i % 8=5∨i % 8=6∨i % 8=7:=by omega
   rcases this with h | h | h | h | h | h | h | h <;> (rw [h]; exact ⟨_,rfl,by decide,by decide⟩)
  obtain ⟨z,hz,z0,z1⟩:=pr
  have i8 : 0≤i % 8:=Int.emod_nonneg _ (by decide)
  have tk : ∀ x:Int,(0:Int)≤x % z∧x % z<z:=fun x=>⟨Int.emod_nonneg _ (by omega),Int.emod_lt_of_pos _ z0⟩
  refine ite2 (fun hlt=>?_) (fun _=>?_)
  ·have hlt:i<((ns.map V.int).length:Int):=of_decide_eq_true hlt
   rw [List.length_map] at hlt
   obtain ⟨x,hx⟩:=get_lt (ns:=ns) (k:=i.toNat) (by omega)
   refine ⟨_,rfl,_,rfl,a,_,_,_,rfl,rfl,hs,at_int hi hx,?_⟩
   have:=tk x
   refine ⟨_,rfl,x,rfl,?_⟩
   refine ⟨_,rfl,_,_,rfl,rfl,⟨by decide,by decide,by decide⟩,_,_,rfl,rfl,_,rfl,ite2 (fun _=>?_) (fun hf=>?_)⟩
   ·skip
    refine ⟨by decide,fun tp ftp=>?_⟩
    have htp:upd H tp (.tup (([2147483629,2147483587,2147483579,2147483563,2147483549,2147483543,2147483497,2147483489] : List Int).map V.int)) tp=some (.tup (([2147483629,2147483587,2147483579,2147483563,2147483549,2147483543,2147483497,2147483489] : List Int).map V.int)):=upd_same
    refine ⟨_,rfl,_,rfl,_,rfl,_,rfl,_,_,rfl,rfl,pos8,tp,_,_,_,rfl,rfl,SqT.of htp,at_int i8 hz,_,_,rfl,rfl,z0,_,_,rfl,rfl,.inr ⟨by decide,by decide⟩,_,rfl,_,_,rfl,rfl,.inl ⟨by decide,by decide⟩,_,_,rfl,rfl,_,_,rfl,rfl,_,_,rfl,rfl,posM,(by show 2≤sizeLine; decide),fun p hp=>?_⟩
    have np:H p=none:=by cases e:H p with | none=>rfl | some o=>rw [upd_ne (ne_of_none e ftp)] at hp; rw [e] at hp; cases hp
    refine k p _ np ⟨_,_,upd_same,Int.le_refl _,Int.emod_nonneg _ (by decide),Int.emod_lt_of_pos _ (by decide)⟩ (Same.put (Same.new ftp) np)
   ·refine ⟨by decide,fun tp ftp=>?_⟩
    have htp:upd H tp (.tup (([2147483629,2147483587,2147483579,2147483563,2147483549,2147483543,2147483497,2147483489] : List Int).map V.int)) tp=some (.tup (([2147483629,2147483587,2147483579,2147483563,2147483549,2147483543,2147483497,2147483489] : List Int).map V.int)):=upd_same
    refine ⟨_,rfl,_,rfl,_,rfl,_,rfl,_,_,rfl,rfl,pos8,tp,_,_,_,rfl,rfl,SqT.of htp,at_int i8 hz,_,_,rfl,rfl,z0,_,_,rfl,rfl,.inr ⟨by decide,by decide⟩,_,rfl,_,_,rfl,rfl,.inl ⟨by decide,by decide⟩,_,_,rfl,rfl,_,_,rfl,rfl,_,_,rfl,rfl,posM,(by show 2≤sizeLine; decide),fun p hp=>?_⟩
    have np:H p=none:=by cases e:H p with | none=>rfl | some o=>rw [upd_ne (ne_of_none e ftp)] at hp; rw [e] at hp; cases hp
    refine k p _ np ⟨_,_,upd_same,by split <;> omega,Int.emod_nonneg _ (by decide),Int.emod_lt_of_pos _ (by decide)⟩ (Same.put (Same.new ftp) np)
  ·refine ⟨_,rfl,_,rfl,?_⟩
   refine ⟨_,rfl,_,_,rfl,rfl,⟨by decide,by decide,by decide⟩,_,_,rfl,rfl,_,rfl,ite2 (fun _=>?_) (fun hf=>?_)⟩
   ·skip
    refine ⟨by decide,fun tp ftp=>?_⟩
    have htp:upd H tp (.tup (([2147483629,2147483587,2147483579,2147483563,2147483549,2147483543,2147483497,2147483489] : List Int).map V.int)) tp=some (.tup (([2147483629,2147483587,2147483579,2147483563,2147483549,2147483543,2147483497,2147483489] : List Int).map V.int)):=upd_same
    refine ⟨_,rfl,_,rfl,_,rfl,_,rfl,_,_,rfl,rfl,pos8,tp,_,_,_,rfl,rfl,SqT.of htp,at_int i8 hz,_,_,rfl,rfl,z0,_,_,rfl,rfl,.inr ⟨by decide,by decide⟩,_,rfl,_,_,rfl,rfl,.inl ⟨by decide,by decide⟩,_,_,rfl,rfl,_,_,rfl,rfl,_,_,rfl,rfl,posM,(by show 2≤sizeLine; decide),fun p hp=>?_⟩
    have np:H p=none:=by cases e:H p with | none=>rfl | some o=>rw [upd_ne (ne_of_none e ftp)] at hp; rw [e] at hp; cases hp
    refine k p _ np ⟨_,_,upd_same,Int.le_refl _,Int.emod_nonneg _ (by decide),Int.emod_lt_of_pos _ (by decide)⟩ (Same.put (Same.new ftp) np)
   ·refine ⟨by decide,fun tp ftp=>?_⟩
    have htp:upd H tp (.tup (([2147483629,2147483587,2147483579,2147483563,2147483549,2147483543,2147483497,2147483489] : List Int).map V.int)) tp=some (.tup (([2147483629,2147483587,2147483579,2147483563,2147483549,2147483543,2147483497,2147483489] : List Int).map V.int)):=upd_same
    refine ⟨_,rfl,_,rfl,_,rfl,_,rfl,_,_,rfl,rfl,pos8,tp,_,_,_,rfl,rfl,SqT.of htp,at_int i8 hz,_,_,rfl,rfl,z0,_,_,rfl,rfl,.inr ⟨by decide,by decide⟩,_,rfl,_,_,rfl,rfl,.inl ⟨by decide,by decide⟩,_,_,rfl,rfl,_,_,rfl,rfl,_,_,rfl,rfl,posM,(by show 2≤sizeLine; decide),fun p hp=>?_⟩
    have np:H p=none:=by cases e:H p with | none=>rfl | some o=>rw [upd_ne (ne_of_none e ftp)] at hp; rw [e] at hp; cases hp
    refine k p _ np ⟨_,_,upd_same,by split <;> omega,Int.emod_nonneg _ (by decide),Int.emod_lt_of_pos _ (by decide)⟩ (Same.put (Same.new ftp) np)
end
end Sw
namespace L2
open PySem
mutual
theorem DT.imp {H:Hp} {P R:Addr→Prop} (k : ∀ a,P a→R a) : ∀ {v:V} {d:PyData},DT H P v d→DT H R v d
 | _,_,.non=>.non
 | _,_,.bl b=>.bl b
 | _,_,.int i=>.int i
 | _,_,.str x=>.str x
 | _,_,.lst h p r=>.lst h (k _ p) (DTs.imp k r)
 | _,_,.tup h p r=>.tup h (k _ p) (DTs.imp k r)
theorem DTs.imp {H:Hp} {P R:Addr→Prop} (k : ∀ a,P a→R a) : ∀ {vs:List V} {ds:List PyData},DTs H P vs ds→DTs H R vs ds
 | _,_,.nil=>.nil
 | _,_,.cons h r=>.cons (DT.imp k h) (DTs.imp k r)
end
mutual
theorem DT.alive {H:Hp} {P:Addr→Prop} : ∀ {v:V} {d:PyData},DT H P v d→DT H (fun b=>P b∧H b≠none) v d
 | _,_,.non=>.non
 | _,_,.bl b=>.bl b
 | _,_,.int i=>.int i
 | _,_,.str x=>.str x
 | _,_,.lst h p r=>.lst h ⟨p,by rw [h]; intro z; cases z⟩ (DTs.alive r)
 | _,_,.tup h p r=>.tup h ⟨p,by rw [h]; intro z; cases z⟩ (DTs.alive r)
theorem DTs.alive {H:Hp} {P:Addr→Prop} : ∀ {vs:List V} {ds:List PyData},DTs H P vs ds→DTs H (fun b=>P b∧H b≠none) vs ds
 | _,_,.nil=>.nil
 | _,_,.cons h r=>.cons (DT.alive h) (DTs.alive r)
end
theorem DTs.setP {H:Hp} {P:Addr→Prop} : ∀ {us:List V} {ds:List PyData} (i:Nat) {v:V} {d:PyData},DTs H P us ds→DT H P v d→DTs H P (us.set i v) (ds.set i d)
 | _,_,_,_,_,.nil,_=>.nil
 | _,_,0,_,_,.cons _ r,h=>.cons h r
 | _,_,i+1,_,_,.cons g r,h=>.cons g (r.setP i h)
theorem fit_small {i:Int} (h:i.natAbs<1000) : Fit 10 (.int i):=by
 have l:i.natAbs.log2<10:=by
  by_cases z:i.natAbs=0
  ·rw [z]; decide
  ·exact (Nat.log2_lt z).mpr (by omega)
 have f:=fit_int (i:=i) (Nat.lt_of_lt_of_le h (by decide))
 refine ⟨f.sh,f.nd,f.dp,f.ls,?_⟩
 unfold PyData.weight; split <;> omega
theorem at_refI {ws:List V} {i:Int} {v:V} (h0 : 0≤i) (h:ws[i.toNat]?=some v) : atI ws i=some v:=by
 have:=atI_nat h
 rwa [Int.toNat_of_nonneg h0] at this
theorem ifB {c:TT} {t u:TS} {D:Ends} {σ : St} {H:Hp} (b:Bool) (hc : ∀ k:Bool→Hp→Prop,k b H→c σ H k) (h1:b=true→t D σ H) (h2:b=false→u D σ H) : tIfS c t u D σ H :=
 hc _ (by cases b with
  | true=>exact iteT (h1 rfl)
  | false=>exact iteF (h2 rfl))
theorem cutDg {xs:List V} {a:Int} (h0 : 0≤a) : cutV xs (some a) none=xs.drop a.toNat:=by
 by_cases h:a≤xs.length
 ·exact Sw.cutD9 h0 h
 ·have e2:HT.sIx xs.length xs.length none=xs.length:=rfl
  unfold cutV
  rw [Sw.sIx_in h0,e2,Nat.min_eq_right (by omega),List.drop_length,List.take_nil,List.drop_eq_nil_of_le (by omega)]
theorem f0_int {i:Int} (h:i.natAbs<1000) : Fit 10 (.int i)∧(PyData.int i).depth≤0:=⟨fit_small h,by unfold PyData.depth; omega⟩
theorem f0_none:Fit 10 .none∧PyData.none.depth≤0:=⟨fit_none.mono (by decide),by unfold PyData.depth; omega⟩
theorem f0_bool (b:Bool) : Fit 10 (.bool b)∧(PyData.bool b).depth≤0:=⟨(fit_bool b).mono (by decide),by unfold PyData.depth; omega⟩
theorem all2 {Q:PyData→Prop} {a b:PyData} (h1:Q a) (h2:Q b) : ∀ d∈[a,b],Q d:=fun d hd=>by
 rcases List.mem_cons.mp hd with rfl | hd
 ·exact h1
 ·rw [List.mem_singleton.mp hd]; exact h2
theorem all3 {Q:PyData→Prop} {a b c:PyData} (h1:Q a) (h2:Q b) (h3:Q c) : ∀ d∈[a,b,c],Q d:=fun d hd=>by
 rcases List.mem_cons.mp hd with rfl | hd
 ·exact h1
 ·exact all2 h2 h3 d hd
theorem all1 {Q:PyData→Prop} {a:PyData} (h1:Q a) : ∀ d∈[a],Q d:=fun d hd=>by rw [List.mem_singleton.mp hd]; exact h1
theorem acc_tup {H0 H:Hp} {P:Addr→Prop} {vs xs:List V} {ds es:List PyData} {t:Addr} (hP : ∀ x,H0 x=none→P x) (s:Same H0 H) (a:DTs H P vs ds) (f:H t=none) (e:DTs H P xs es) : DTs (upd H t (.tup xs)) P (vs++[.ref t]) (ds++[.tuple es])∧Same H0 (upd H t (.tup xs)):=by
 have z:Same H (upd H t (.tup xs)):=Same.new f
 exact ⟨(a.keep fun b o _ q=>z b o q).snoc (.tup upd_same (hP _ (s.free f)) (e.keep fun b o _ q=>z b o q)),s.trans z⟩
theorem acc_lst {H0 H:Hp} {P:Addr→Prop} {vs xs:List V} {ds es:List PyData} {t:Addr} (hP : ∀ x,H0 x=none→P x) (s:Same H0 H) (a:DTs H P vs ds) (f:H t=none) (e:DTs H P xs es) : DTs (upd H t (.lst xs)) P (vs++[.ref t]) (ds++[.list es])∧Same H0 (upd H t (.lst xs)):=by
 have z:Same H (upd H t (.lst xs)):=Same.new f
 exact ⟨(a.keep fun b o _ q=>z b o q).snoc (.lst upd_same (hP _ (s.free f)) (e.keep fun b o _ q=>z b o q)),s.trans z⟩
theorem f0_str {x:Str} (h:(PyData.str x).showable && !(PyData.str x).hasDict && decide ((PyData.str x).depth≤20) && PyData.leavesShort 40 (.str x) && decide ((PyData.str x).weight≤10)=true) : Fit 10 (.str x)∧(PyData.str x).depth≤0:=by
 simp only [Bool.and_eq_true,decide_eq_true_eq,Bool.not_eq_true'] at h
 exact ⟨⟨h.1.1.1.1,h.1.1.1.2,h.1.1.2,h.1.2,h.2⟩,by unfold PyData.depth; omega⟩
end L2
namespace Sw
open PySem L2
theorem eqN6 {K:PySem.W.Frag} {H:Hp} {l m:Addr} {vs:List V} {Ls:List (List Int)} {Q:VK} (h1:H l=some (.lst vs)) (x:Lsts H vs Ls) (h2:H m=some (.lst [])) (q:Q (.bl (decide (Ls=[]))) H) : rEqD K (.ref l) (.ref m) H Q:=by
 refine ⟨fun _=>True,.list (Ls.map fun p=>PyData.list (p.map PyData.int)),.list [],.lst (SqL.of h1) True.intro x.dat,.lst (SqL.of h2) True.intro .nil,?_,rfl,?_,?_⟩
 ·unfold PyData.canLay0; exact lay_ll Ls
 ·unfold PyData.depth; have:=depth_ll Ls; omega
 ·have:PyData.eqv (.list (Ls.map fun p=>PyData.list (p.map PyData.int))) (.list [])=decide (Ls=[]):=by
   unfold PyData.eqv
   cases Ls with
   | nil=>rfl
   | cons d ds=>unfold PyData.eqvAll; exact (decide_eq_false (by intro z; cases z)).symm
  rw [this]
  exact q
theorem Lsts.keepX {H H':Hp} {p:Addr} (hs:SameX p H H') : ∀ {vs:List V} {Ls:List (List Int)},Lsts H vs Ls→V.ref p∉vs→Lsts H' vs Ls
 | _,_,.nil,_=>.nil
 | _,_,.cons (a:=b) h x,n=>.cons (hs _ _ (fun z=>n (by rw [z]; exact List.mem_cons_self)) h) (x.keepX hs fun z=>n (List.mem_cons_of_mem _ z))
theorem ord_swp2 {n:Int} {xs:List Int} (o:Ord n xs) {a b:Int} (ha : 1≤a∧a≤n) (hb : 1≤b∧b≤n) (ab:a≠b) : Ord n (xs.map fun x=>swp x (a,b)):=by
 rcases Int.lt_or_gt_of_ne ab with h | h
 ·exact map_ord o (e:=(a,b)) ⟨ha.1,h,hb.2⟩
 ·have e:(xs.map fun x=>swp x (a,b))=xs.map fun x=>swp x (b,a):=List.map_congr_left fun x _=>by
   unfold swp
   by_cases h1:x=a
   ·by_cases h2:x=b
    ·omega
    ·simp [h1,ab]
   ·by_cases h2:x=b
    ·simp [h2,Ne.symm ab]
    ·simp [h1,h2]
  rw [e]
  exact map_ord o (e:=(b,a)) ⟨hb.1,h,ha.2⟩
theorem er_nd6 : ∀ {L:List Int} {i:Nat} {a:Int},L[i]?=some a→L.Nodup→a∉L.eraseIdx i
 | [],i,a,h,_=>by simp at h
 | x :: r,0,a,h,nd=>by
  injection h with h
  subst h
  exact (List.nodup_cons.mp nd).1
 | x :: r,i+1,a,h,nd=>fun z=>by
  have h:r[i]?=some a:=h
  have nd':=List.nodup_cons.mp nd
  rw [List.eraseIdx_cons_succ] at z
  rcases List.mem_cons.mp z with rfl | z
  ·exact nd'.1 (List.mem_of_getElem? h)
  ·exact er_nd6 h nd'.2 z
def spCb:Sp:=fun vs H Q _=>∃ (p t:Addr) (n:Int) (xs:List Int),vs=[.ref p,.ref t]∧Pool H p∧H t=some (.tup (xs.map V.int))∧Ord n xs∧n≤12∧∀ t' ys H',H' t'=some (.tup (ys.map V.int))→Ord n ys→Pool H' p→SameX p H H'→Q (.ref t') H'
structure TCb (P:Program) (w:World) (K:PySem.W.Frag) (mg:Str→Option Value) (base:Heap) : Prop extends T1 mg K where
 f__law_take:FnAt P w K mg base "_law_take" 1 ["_law_pool_here", "_law_many"] spTk
 f__law_rounds:FnAt P w K mg base "_law_rounds" 1 ["_law_order"] spShb
 f__law_then:FnAt P w K mg base "_law_then" 1 ["_law_order", "_law_a", "_law_b"] spLth
section
variable {P:Program} {w:World} {K:PySem.W.Frag} {mg:Str→Option Value} {base:Heap}
theorem sc__law_cut_by:FnScope ["_law_pool_here", "_law_order", "_law_some", "_law_part", "_law_a", "_law_b"] ["_law_pool_here", "_law_order"] (defScope (top 69)):=⟨rfl,rfl,rfl,by decide +kernel,rfl,by decide +kernel,by decide +kernel⟩
theorem ok_cb {f:Addr} {fd:FuncData} (F:Fun K "_law_cut_by" "_law_cut_by" (top 69) f fd) (T:TCb P w K mg base) : FnOk P w K mg base CX0 2 f fd ["_law_pool_here", "_law_order"] spCb:=by
 refine F.ok sc__law_cut_by (fun vs H Q E h=>?_) (fun cdv A outer s H vs Q E hr h=>?_)
 ·obtain ⟨p,t,n,xs,rfl,_⟩:=h
  rfl
 ·obtain ⟨p,t,n,xs,rfl,pu,ht,o,n12,k⟩:=h
  refine ⟨_,(pss_cons (ps_comp (i:=2) sc__law_cut_by.nd rfl rfl (N:=(["_law_part"] : List Str)) (ix:=([none] : List (Option Nat))) (comp_ok rfl rfl) rfl (pi_listK (K:=K) rfl (pe_callF T.f__law_rounds (hr.mono (by first | decide | omega)) rfl (pa_cons (pv 1) pa_nil))) (fun _ _ _ _=>(pg_name (i:=0) (show List.Nodup (["_law_part"] : List Str) from by decide +kernel) rfl (Or.inl rfl))) (fun _ _ _ _=>(pif_one (pt_cmpR op_gt (pe_callB (call_lenK (K:=K) rfl) rfl T.b_len (by decide +kernel) (pa_cons (pv 0) pa_nil)) pe_int (nomark _)))) (fun _ _ _ _=>(pv 0)))
   (pss_cons (ps_if (pt_cmpR (op_eqD hr.units) (pv 2) (pe_lst pa_nil) (nomark _)) (pss_one (ps_ret (pv 1))) pss_nil)
   (pss_cons (ps_set (i:=3) sc__law_cut_by.nd rfl (Or.inl rfl) (pe_callTy (call_list_ofK (K:=K) rfl) rfl T.b_list (by decide +kernel) (pa_cons (pe_ix (ix_listK (K:=K) rfl) (pv 2) (pe_callF T.f__law_take (hr.mono (by first | decide | omega)) rfl (pa_cons (pv 0) (pa_cons (pe_callB (call_lenK (K:=K) rfl) rfl T.b_len (by decide +kernel) (pa_cons (pv 2) pa_nil)) pa_nil))) (fun _ _=>rfl)) pa_nil)))
   (pss_cons (ps_set (i:=4) sc__law_cut_by.nd rfl (Or.inl rfl) (pe_bmK (K:=K) rfl PySem.F.plainAttrs_list PySem.F.slot_list_pop PySem.F.type_list_pop mt_popAt (pv 3) (pa_cons (pe_callF T.f__law_take (hr.mono (by first | decide | omega)) rfl (pa_cons (pv 0) (pa_cons (pe_callB (call_lenK (K:=K) rfl) rfl T.b_len (by decide +kernel) (pa_cons (pv 3) pa_nil)) pa_nil))) pa_nil)))
   (pss_cons (ps_set (i:=5) sc__law_cut_by.nd rfl (Or.inl rfl) (pe_ix (ix_listK (K:=K) rfl) (pv 3) (pe_callF T.f__law_take (hr.mono (by first | decide | omega)) rfl (pa_cons (pv 0) (pa_cons (pe_callB (call_lenK (K:=K) rfl) rfl T.b_len (by decide +kernel) (pa_cons (pv 3) pa_nil)) pa_nil))) (fun _ _=>rfl)))
   (pss_one (ps_ret (pe_callF T.f__law_then (hr.mono (by first | decide | omega)) rfl (@pa_cons _ _ _ _ _ (pv 1) (@pa_cons _ _ _ _ _ (pv 4) (@pa_cons _ _ _ _ _ (pv 5) pa_nil st_name) st_name) st_name))))))))),?_⟩
  have big:(10000000:Nat)≤sizeLine:=by decide
  have ol:=o.length
  obtain ⟨pxs,hpx⟩:=pu.at
  have ntp:t≠p:=fun z=>by rw [z,hpx] at ht; cases ht
  have cv:=sh_cov o
  refine ⟨_,rfl,t,n,xs,rfl,ht,o,n12,fun q H1 sq s1=>?_⟩
  obtain ⟨us,fq,hq,xq,frq,nq⟩:=sq
  generalize shM n xs=S at xq cv
  have szS:S.length≤12∧∀ L∈S,L.length≤12:=by
   by_cases n0 : 0≤n
   ·have:=cv.sizes n0
    exact ⟨by omega,fun L hL=>by have:=this.2 L hL; omega⟩
   ·have e:ivl 1 (n+1)=[]:=List.length_eq_zero_iff.mp (by rw [ivl_length]; omega)
    have f0:S.flatten=[]:=List.length_eq_zero_iff.mp (by rw [cv.2.length_eq,e]; rfl)
    have:S=[]:=by
     cases S with
     | nil=>rfl
     | cons L S=>exact absurd ((List.append_eq_nil_iff.mp (by rw [List.flatten_cons] at f0; exact f0)).1) (cv.1 L List.mem_cons_self)
    subst this
    exact ⟨by decide,fun L hL=>(by cases hL)⟩
  have ul:=xq.length
  have npu:V.ref p∉us:=fun z=>by
   obtain ⟨b,e,fb⟩:=frq.2 _ z
   injection e with e
   rw [← e,hpx] at fb; cases fb
  refine ⟨q,rfl,⟨_,SqL.of hq⟩,compLif (K:=K) (a:=q) (xs:=us) (k:=0) (fun i zs σ' H'=>(∃ v,σ'=[v])∧H'=H1∧zs.length≤i∧(∀ v∈zs,v∈us)∧∃ Ms:List (List Int),Lsts H1 zs Ms∧∀ M∈Ms,M∈S∧1<M.length) (by omega) ⟨⟨none,rfl⟩,rfl,Nat.zero_le _,fun v hv=>(by cases hv),[],.nil,fun M hM=>(by cases hM)⟩ (fun i zs σ' H' _ z=>by rw [z.2.1]; exact SqL.of hq) (fun i zs σ' H' z=>z.2.2.1) ?_ ?_⟩
  ·rintro i zs σ' H' x R hx ⟨⟨v,rfl⟩,rfl,zl,sub,Ms,xm,hM⟩ done
   obtain ⟨b,L,rfl,hb,hL⟩:=xq.get hx
   refine ⟨_,rfl,b,_,rfl,.inl (SqL.of hb),_,_,rfl,rfl,_,rfl,ite2 (fun c=>?_) (fun c=>?_)⟩
   ·have c : 1<L.length:=by
     have:=of_decide_eq_true c
     rw [List.length_map] at this; omega
    refine ⟨_,rfl,done _ _ _ ⟨⟨_,rfl⟩,rfl,by rw [List.length_append]; show _+1≤_; omega,fun v hv=>?_,Ms++[L],xm.snoc hb,fun M hM'=>?_⟩⟩
    ·rcases List.mem_append.mp hv with hv | hv
     ·exact sub v hv
     ·rw [List.mem_singleton.mp hv]; exact List.mem_of_getElem? hx
    ·rcases List.mem_append.mp hM' with h | h
     ·exact hM M h
     ·rw [List.mem_singleton.mp h]; exact ⟨List.mem_of_getElem? hL,c⟩
   ·exact done _ _ _ ⟨⟨_,rfl⟩,rfl,by omega,sub,Ms,xm,hM⟩
  rintro zs σ' H' ls ⟨_,rfl,zl,sub,Ms,xm,hM⟩ fls
  have s2:Same H' (upd H' ls (.lst zs)):=Same.new fls
  have hls:upd H' ls (.lst zs) ls=some (.lst zs):=upd_same
  have S2:=s1.trans s2
  have xm2:=xm.keep s2
  have ml:=xm.length
  generalize upd H' ls (.lst zs)=H2 at s2 hls S2 xm2 ⊢
  have pu2:=pu.keep S2
  have nlp:ls≠p:=fun z=>by
   rw [z] at fls
   have:=s1 _ _ hpx
   rw [fls] at this; cases this
  refine ⟨_,rfl,Nat.zero_le _,fun le fle=>?_⟩
  have s3:Same H2 (upd H2 le (.lst [])):=Same.new fle
  have hle:upd H2 le (.lst []) le=some (.lst []):=upd_same
  generalize upd H2 le (.lst [])=H3 at s3 hle ⊢
  have S3:=S2.trans s3
  have hls3:=s3 _ _ hls
  have xm3:=xm2.keep s3
  have pu3:=pu2.keep s3
  refine eqN6 hls3 xm3 hle ⟨_,rfl,?_⟩
  by_cases em:Ms=[]
  ·refine iteP (decide_eq_true em) ⟨_,rfl,?_⟩
   exact k t xs H3 (S3 _ _ ht) o pu3 S3.x
  refine iteE (decide_eq_false em) ?_
  have Mp:=List.length_pos_iff.mpr em
  refine ⟨_,rfl,_,rfl,_,rfl,ls,_,rfl,.inl (SqL.of hls3),p,_,rfl,pu3,by omega,by omega,fun r4 H4 r40 r41 pu4 s4=>?_⟩
  have npz:V.ref p∉zs:=fun z=>npu (sub _ z)
  have hls4:=s4 _ _ nlp hls3
  have xm4:=xm3.keepX s4 npz
  obtain ⟨vi,hvi⟩ : ∃ v,zs[r4.toNat]?=some v:=⟨_,List.getElem?_eq_getElem (by omega)⟩
  obtain ⟨b,L,rfl,hb,hL⟩:=xm4.get hvi
  obtain ⟨LS,L1⟩:=hM L (List.mem_of_getElem? hL)
  have Ll:=szS.2 L LS
  have bdL : ∀ x∈L,1≤x∧x≤n:=fun x hx=>ivl_mem3.mp (cv.2.mem_iff.mp (List.mem_flatten.mpr ⟨L,LS,hx⟩))
  have ndL:L.Nodup:=(List.pairwise_flatten.mp (cv.2.nodup_iff.mpr (ivl_nodup3 n))).1 L LS
  refine ⟨ls,_,_,_,rfl,rfl,SqL.of hls4,at_refI r40 hvi,b,_,rfl,.inl (SqL.of hb),fun lc flc=>?_⟩
  have s5:Same H4 (upd H4 lc (.lst (L.map V.int))):=Same.new flc
  have hlc:upd H4 lc (.lst (L.map V.int)) lc=some (.lst (L.map V.int)):=upd_same
  have nlcp:lc≠p:=(pu4.ne flc).symm
  generalize upd H4 lc (.lst (L.map V.int))=H5 at s5 hlc ⊢
  have pu5:=pu4.keep s5
  have A5:SameX p H H5:=S3.x.trans (s4.trans s5.x)
  refine ⟨_,rfl,.inl ⟨rfl,_,SqL.of hlc⟩,_,rfl,_,rfl,lc,_,rfl,.inl (SqL.of hlc),p,_,rfl,pu5,by rw [List.length_map]; omega,by rw [List.length_map]; omega,fun r6 H6 r60 r61 pu6 s6=>?_⟩
  rw [List.length_map] at r61
  have hlc6:=s6 _ _ nlcp hlc
  obtain ⟨a,ha⟩:=get_lt (ns:=L) (k:=r6.toNat) (by omega)
  refine ⟨lc,_,r6,r6.toNat,_,rfl,rfl,hlc6,by omega,by omega,(ixN_seq (ixN_lt r60 (by rw [List.length_map]; exact r61))).1,map_get ha,?_⟩
  rw [eraseIdx_map]
  have el:(L.eraseIdx r6.toNat).length=L.length - 1:=List.length_eraseIdx_of_lt (by omega)
  have A6:SameX p H H6:=A5.trans s6
  have flc0:H lc=none:=by
   cases e:H lc with
   | none=>rfl
   | some ob =>
    have:=(S3.x.trans s4) _ _ nlcp e
    rw [flc] at this; cases this
  have A7:SameX p H (upd H6 lc (.lst ((L.eraseIdx r6.toNat).map V.int))):=fun b ob nb e=>by
   rw [upd_ne (fun z=>by rw [z,flc0] at e; cases e)]; exact A6 b ob nb e
  have h7:upd H6 lc (.lst ((L.eraseIdx r6.toNat).map V.int)) lc=some (.lst ((L.eraseIdx r6.toNat).map V.int)):=upd_same
  have pu7:=pu6.upd nlcp.symm (o:=.lst ((L.eraseIdx r6.toNat).map V.int))
  generalize upd H6 lc (.lst ((L.eraseIdx r6.toNat).map V.int))=H7 at A7 h7 pu7 ⊢
  refine ⟨_,rfl,_,rfl,_,rfl,lc,_,rfl,.inl (SqL.of h7),p,_,rfl,pu7,by rw [List.length_map]; omega,by rw [List.length_map]; omega,fun r8 H8 r80 r81 pu8 s8=>?_⟩
  rw [List.length_map] at r81
  obtain ⟨bv,hbv⟩:=get_lt (ns:=L.eraseIdx r6.toNat) (k:=r8.toNat) (by omega)
  have hlc8:=s8 _ _ nlcp h7
  refine ⟨lc,_,r8,_,rfl,rfl,SqL.of hlc8,at_int r80 hbv,?_⟩
  have A8:=A7.trans s8
  have am:=List.mem_of_getElem? ha
  have bm:=List.mem_of_getElem? hbv
  have ab:a≠bv:=fun z=>er_nd6 ha ndL (by rw [z]; exact bm)
  refine ⟨_,rfl,_,rfl,_,rfl,t,xs,a,bv,rfl,A8 _ _ ntp ht,by omega,ab,fun r H9 fr hr9 s9=>?_⟩
  exact k r _ H9 hr9 (ord_swp2 o (bdL a am) (bdL bv (List.mem_of_mem_eraseIdx bm)) ab) (pu8.keep s9) (A8.trans s9.x)
end
end Sw
namespace L2
open PySem PySem.Spec PyProof.Rows
section
variable {X:Cx}
theorem pe_chain3 {op op' op'':CmpOp} {r r' r'':R2} {a b c d:Expr} {ta tb tc td:TE} {pos:Pos} (ho:OpR X (compareOp op) r) (ho':OpR X (compareOp op') r') (ho2:OpR X (compareOp op'') r'') (ha:PE X a ta) (hb:PE X b tb) (hc:PE X c tc) (hd:PE X d td)
  (hm:lastMarks [op,op',op''] [b,c,d]=false:=by with_unfolding_all rfl) : PE X (.Compare a [op,op',op''] [b,c,d] pos) (tChain3 r r' r'' ta tb tc td):=by
 intro pins s σ H Q I h
 refine Compare_chain (thn (ha pins s σ H _ I h) fun v s1 ⟨x,H1,I1,r1,q1⟩=>chain_link (thn (hb pins s1 σ H1 _ I1 q1) fun u s2 ⟨y,H2,I2,r2,q2⟩ =>
  thn (ho pins s2 σ H2 x y v u _ I2 r1 r2 q2) fun d s3 ⟨z,H3,I3,r3,k,e,q3⟩=>?_)) hm
 subst e
 cases r3
 refine wpAny_truthy_bool ?_
 cases k with
 | false=>exact ite_ff ⟨.bl false,H3,I3,rfl,q3⟩
 | true =>
  refine ite_tt (chain_link (thn (hc pins s3 σ H3 _ I3 q3) fun w' s4 ⟨z',H4,I4,r4,q4⟩=>thn (ho' pins s4 σ H4 y z' u w' _ I4 r2 r4 q4) fun d' s5 ⟨z2,H5,I5,r5,k2,e2,q5⟩=>?_))
  subst e2
  cases r5
  refine wpAny_truthy_bool ?_
  cases k2 with
  | false=>exact ite_ff ⟨.bl false,H5,I5,rfl,q5⟩
  | true=>exact ite_tt (chain_last (thn (hd pins s5 σ H5 _ I5 q5) fun w2 s6 ⟨z3,H6,I6,r6,q6⟩=>ho2 pins s6 σ H6 z' z3 w' w2 Q I6 r4 r6 q6))
end
end L2
namespace L2
open PySem PySem.Spec PyProof.Rows
def EmW (prog:Program) (w:World) (A:Around) (elt:Expr) (gens:List Comprehension) (scope:Scope) (pos:Pos) (d:Nat) (acc:Value) (env:Env) (Q:Shared→Prop) (s:Shared) : Prop :=
 match gens[d+1]? with
 | some g'=>wpAny (model prog w) A (eval g'.iter env) (fun x s₃=>wpAny (model prog w) A (pyIter x) (fun it2 s₄ =>
   codeAny (model prog w) A (.compStart (.ListComp elt gens scope pos) (d+1) it2 acc env) (fun r s₅=>r=.ok .next∧Q s₅) s₄) (fun _ _=>False) s₃) (fun _ _=>False) s
 | none=>wpAny (model prog w) A (eval elt env) (fun x s₄=>wpAny (model prog w) A (call (.builtin "list.append") [acc,x]) (fun _ s₅=>Q s₅) (fun _ _=>False) s₄) (fun _ _=>False) s
section
variable {prog:Program} {w:World} {A:Around} {R:Result→Shared→Prop} {s:Shared} {elt t i:Expr} {ifs:List Expr} {gens:List Comprehension} {scope:Scope} {pos:Pos} {d:Nat} {it acc:Value} {env:Env}
theorem compLoopN_any (hd:gens[d]?=some ⟨t,i,ifs,0⟩) (ha : ∀ g',gens[d+1]?=some g'→g'.is_async=0∧∀ x,foldedSetIterable g'.iter env x=pure x) (I:Nat→Shared→Prop)
  (turn : ∀ n s,I n s→wpAny (model prog w) A (pyNext it) (fun r s₁=>match r with
   | none=>R (.ok .next) s₁
   | some v=>wpAny (model prog w) A (letOwnedTupleGo t it v) (fun _ s₁=>wpAny (model prog w) A (assign t env v) (fun _ s₂ =>
     wpAny (model prog w) A (forIn ifs true fun c r=>if r=true then do let ok ← isTrue c env (eval c env); pure (ForInStep.yield ok) else pure (ForInStep.yield r)) (fun ok s₃ =>
      if ok=true then EmW prog w A elt gens scope pos d acc env (fun s₄=>∃ m,m<n∧I m s₄) s₃
      else ∃ m,m<n∧I m s₃) (fun _ _=>False) s₂) (fun _ _=>False) s₁) (fun _ _=>False) s₁) (fun _ _=>False) s)
  (n:Nat) (h:I n s) :
  codeAny (model prog w) A (.compLoop (.ListComp elt gens scope pos) d it acc env) R s:=by
 refine codeAny_loop rfl I (fun n s hI=>?_) n h
 show wpAny _ A ((compTurn (.ListComp elt gens scope pos) d it acc env).onRaise (fun x=>do noteFrame x env; theTreesLotGoes x)) _ _ s
 refine wpAny_noted ?_
 unfold compTurn
 simp only [hd,bne_self_eq_false,Bool.false_eq_true,if_false]
 refine wpAny_bind (wpAny_standAt (wpAny_bind (wpAny_mono (turn n s hI) (fun r s₁ h₁=>?_) fun _ _ h'=>h'.elim)))
 cases r with
 | none=>exact wpAny_pure h₁
 | some v =>
  refine wpAny_bind (wpAny_mono h₁ (fun _ s₁ h₁=>?_) fun _ _ h'=>h'.elim)
  refine wpAny_bind (wpAny_mono h₁ (fun _ s₂ h₂=>wpAny_bind (wpAny_mono h₂ (fun ok s₃ h₃=>?_) fun _ _ h'=>h'.elim)) fun _ _ h'=>h'.elim)
  cases ok with
  | false=>exact wpAny_pure ⟨rfl,h₃⟩
  | true =>
   rw [if_pos rfl] at h₃ ⊢
   unfold EmW at h₃
   cases hg:gens[d+1]? with
   | none =>
    rw [hg] at h₃
    refine wpAny_bind (wpAny_bind (wpAny_mono h₃ (fun x s₄ h₄=>wpAny_bind (wpAny_mono h₄ (fun _ s₅ h₅=>?_) fun _ _ h'=>h'.elim)) fun _ _ h'=>h'.elim))
    exact wpAny_pure (wpAny_pure ⟨rfl,h₅⟩)
   | some g' =>
    rw [hg] at h₃
    obtain ⟨as,hs⟩:=ha g' hg
    simp only [as,bne_self_eq_false,Bool.false_eq_true,if_false]
    refine wpAny_bind (wpAny_mono h₃ (fun x s₃ h₃=>wpAny_bind (wpAny_standAt (wpAny_bind (wpAny_of_eq (hs x) (wpAny_bind (wpAny_holding (wpAny_mono h₃ (fun it2 s₄ h₄=>?_) fun _ _ h'=>h'.elim))))))) fun _ _ h'=>h'.elim)
    refine wpAny_bind (wpAny_runOwn (codeAny_mono h₄ fun r s₅ h₅=>?_))
    obtain ⟨rfl,h₅⟩:=h₅
    exact wpAny_pure ⟨rfl,h₅⟩
theorem compStartN (hd:gens[d]?=some ⟨t,i,ifs,0⟩) (hf:(Code.compStart (.ListComp elt gens scope pos) d it acc env).isFrame=false)
  (h1:codeAny (model prog w) A (.compLoop (.ListComp elt gens scope pos) d it acc env) R s)
  (h2:wpAny (model prog w) A (pyIter it) (fun it' s'=>codeAny (model prog w) A (.compLoop (.ListComp elt gens scope pos) d it' acc env) R s') (fun _ _=>False) s) :
  codeAny (model prog w) A (.compStart (.ListComp elt gens scope pos) d it acc env) R s:=by
 refine codeAny_of_tree ?_
 show wpAny _ A ((compStart (.ListComp elt gens scope pos) d it acc env).onRaise (fun x=>do noteFrame x env; standAt theWindowsPlace)) _ _ s
 refine wpAny_onRaise ?_
 unfold compStart
 have hc:clausesOf (.ListComp elt gens scope pos)=gens:=rfl
 simp only [hc,hd,Option.elim,bne_self_eq_false,Bool.false_eq_true,if_false]
 refine wpAny_bind (wpAny_askSetting ?_)
 split
 ·exact wpAny_pure ⟨rfl,h1⟩
 ·refine wpAny_bind (wpAny_rule (wpAny_bind (wpAny_standAt (wpAny_bind (wpAny_mono h2 (fun it' s' h'=>?_) fun _ _ z=>z.elim)))))
  exact wpAny_pure ⟨rfl,h'⟩
end
end L2
namespace L2
open PySem PySem.Spec PyProof.Rows
theorem EmW.mono {prog:Program} {w:World} {A:Around} {elt:Expr} {gens:List Comprehension} {scope:Scope} {pos:Pos} {d:Nat} {acc:Value} {env:Env} {Q Q':Shared→Prop} {s:Shared} (h:EmW prog w A elt gens scope pos d acc env Q s) (hQ : ∀ s',Q s'→Q' s') : EmW prog w A elt gens scope pos d acc env Q' s:=by
 unfold EmW at h ⊢
 cases hg:gens[d+1]? with
 | none =>
  rw [hg] at h
  exact thn h fun x s₄ h₄=>thn h₄ fun _ s₅ h₅=>hQ _ h₅
 | some g' =>
  rw [hg] at h
  exact thn h fun x s₃ h₃=>thn h₃ fun it2 s₄ h₄=>codeAny_mono h₄ fun r s₅ h₅=>⟨h₅.1,hQ _ h₅.2⟩
abbrev WK:=List V→St→Hp→Prop
abbrev IN:=List V→St→Hp→WK→Prop
def wElt (te:TE) : IN:=fun ys σ H R=>ys.length<sizeLine∧te σ H fun v H5=>R (ys++[v]) σ H5
def wLoop (g:TG) (tc:TT) (inn:IN) (J:It) : IN:=fun ys σ H R =>
 ∃ W:WC,(∃ m,W 0 m ys σ H)∧∀ i m ys' σ' H',W i m ys' σ' H' →
  (J.stop i H'∧R ys' σ' H') ∨
  (J.go i H'∧∀ x H2,J.yld i H' x H2→g x σ' H2 fun σ2 H3=>tc σ2 H3 fun b H4=>if b=true then inn ys' σ2 H4 (fun ys2 σ3 H5=>∃ m',m'<m∧W (i+1) m' ys2 σ3 H5) else ∃ m',m'<m∧W (i+1) m' ys' σ2 H4)
def wGen (wi:TI) (g:TG) (tc:TT) (inn:IN) : IN:=fun ys σ H R=>wi σ H fun J H4=>wLoop g tc inn J ys σ H4 R
def Lob (its:List Value) (k:Nat) : Obj:={ cls:=.type "list", data:=.seq its.toArray k }
structure DOk (Y:Cx) (base:List (Addr × Obj)) (D:Addr) : Prop where
 loc:D≠Y.env.locals
 sz:Y.s₀.heap.objs.size≤D
 cel : ∀ x c,Y.env.cells.lookup x=some c→c≠D
 pin : ∀ p∈Y.pn++base,p.1≠D
inductive Chain (Y:Cx) (gens:List Comprehension) (elt:Expr) : Nat→IN→Prop
 | last {d:Nat} {te:TE} (hn:gens[d+1]?=none) (he:PE Y elt te) : Chain Y gens elt d (wElt te)
 | more {d:Nat} {t i:Expr} {ifs:List Expr} {wi:TI} {g:TG} {tc:TT} {inn:IN} (hd:gens[d+1]?=some ⟨t,i,ifs,0⟩) (hi:PI Y t i wi) (hg:PG Y t g) (ht:PIf Y ifs tc) (hs : ∀ x,foldedSetIterable i Y.env x=pure x) (rest:Chain Y gens elt (d+1) inn) : Chain Y gens elt d (wGen wi g tc inn)
theorem Chain.next {Y:Cx} {gens:List Comprehension} {elt:Expr} {d:Nat} {inn:IN} (c:Chain Y gens elt d inn) : ∀ g',gens[d+1]?=some g'→g'.is_async=0∧∀ x,foldedSetIterable g'.iter Y.env x=pure x:=by
 intro g' h
 cases c with
 | last hn _=>rw [hn] at h; cases h
 | more hd _ _ _ hs _=>rw [hd] at h; cases h; exact ⟨rfl,hs⟩
section
variable {Y:Cx} {base:List (Addr × Obj)} {D:Addr} {elt:Expr} {gens:List Comprehension} {scope:Scope} {pos:Pos}
def At (Y:Cx) (base:List (Addr × Obj)) (D:Addr) (P:List (Addr × Obj)) (R:WK) (s':Shared) : Prop :=
 ∃ σ' H' ys' its' k',Inv Y (base++((D,Lob its' k') :: P)) σ' H' s'∧Vals ys' its'∧R ys' σ' H'
def BodyP (Y:Cx) (base:List (Addr × Obj)) (D:Addr) (elt:Expr) (gens:List Comprehension) (scope:Scope) (pos:Pos) (d:Nat) (inn:IN) : Prop :=
 ∀ (P:List (Addr × Obj)) (s:Shared) (σ : St) (H:Hp) (ys:List V) (its:List Value) (k:Nat) (R:WK),(∀ p∈P,p.1≠D)→Inv Y (base++((D,Lob its k) :: P)) σ H s→Vals ys its→inn ys σ H R →
  EmW Y.prog Y.w Y.A elt gens scope pos d (.ref D) Y.env (At Y base D P R) s
theorem mem_D {p:Addr × Obj} {P:List (Addr × Obj)} {o:Obj} (h:p∈base++((D,o) :: P)) : p∈base∨p=(D,o)∨p∈P:=by
 rcases List.mem_append.mp h with z | z
 ·exact .inl z
 ·exact .inr (List.mem_cons.mp z)
theorem loop_of_body {d:Nat} {t i:Expr} {ifs:List Expr} {g:TG} {tc:TT} {inn:IN} (hxe:Y.xe=fun _ _=>False) (hc:Y.calm=true) (hd:gens[d]?=some ⟨t,i,ifs,0⟩) (ch : ∀ g',gens[d+1]?=some g'→g'.is_async=0∧∀ x,foldedSetIterable g'.iter Y.env x=pure x)
  (hg:PG Y t g) (ht:PIf Y ifs tc) (body:BodyP Y base D elt gens scope pos d inn)
  {P:List (Addr × Obj)} {J:It} {fp:List Addr} {it:Addr} {tn:Nat→Heap→Prop} {s:Shared} {σ : St} {H:Hp} {ys:List V} {its:List Value} {k:Nat} {R:WK} (hP : ∀ p∈P,p.1≠D)
  (I:Inv Y (base++((D,Lob its k) :: P)) σ H s) (rv:Vals ys its) (T:Turn Y.prog Y.w Y.K t J fp it tn) (st:tn 0 s.heap) (f : ∀ b∈fp,FpOk Y (base++((D,Lob its k) :: P)) H b) (w:wLoop g tc inn J ys σ H R) :
  codeAny (model Y.prog Y.w) Y.A (.compLoop (.ListComp elt gens scope pos) d (.ref it) (.ref D) Y.env) (fun r s'=>r=.ok .next∧At Y base D P R s') s:=by
 obtain ⟨W,⟨m0,w0⟩,turn⟩:=w
 have stat : ∀ {H':Hp} {oD:Obj},(∀ b∈fp,H' b=none)→∀ b∈fp,FpOk Y (base++((D,oD) :: P)) H' b:=fun {H' oD} hn b hb=>by
  obtain ⟨f0,f1,f2,f3,f4,f5⟩:=f b hb
  refine ⟨hn b hb,f1,f2,f3,f4,fun p hp=>?_⟩
  rcases List.mem_append.mp hp with z | z
  ·exact f5 p (List.mem_append_left _ z)
  ·rcases mem_D z with z | z | z
   ·exact f5 p (List.mem_append_right _ (List.mem_append_left _ z))
   ·have:=f5 (D,Lob its k) (List.mem_append_right _ (List.mem_append_right _ List.mem_cons_self))
    rw [z]; exact this
   ·exact f5 p (List.mem_append_right _ (List.mem_append_right _ (List.mem_cons_of_mem _ z)))
 have fD : ∀ b∈fp,b≠D:=fun b hb=>by
  obtain ⟨_,_,_,_,_,f5⟩:=f b hb
  exact (f5 (D,Lob its k) (List.mem_append_right _ (List.mem_append_right _ List.mem_cons_self))).symm
 refine compLoopN_any hd ch (fun n s'=>∃ j σ' H' ys' its' k',Inv Y (base++((D,Lob its' k') :: P)) σ' H' s'∧tn j s'.heap∧(∀ b∈fp,H' b=none)∧Vals ys' its'∧W j n ys' σ' H') ?_ m0 ⟨0,σ,H,ys,its,k,I,st,fun b hb=>(f b hb).1,rv,w0⟩
 rintro n s' ⟨j,σj,Hj,ysj,itsj,kj,Ij,stj,frj,rvj,wj⟩
 rcases turn j n ysj σj Hj wj with ⟨stop,q⟩ | ⟨go,step⟩
 ·refine thn (T.done Y rfl rfl rfl hc j _ s' σj Hj _ Ij (stat frj) stj stop) fun r s2 ⟨hr,I2⟩=>?_
  subst hr
  exact ⟨rfl,σj,Hj,ysj,itsj,kj,I2,rvj,q⟩
 ·refine thn (T.item Y rfl rfl rfl hc j _ s' σj Hj _ Ij (stat frj) stj go) fun r s4 ⟨u,hr,h4⟩=>?_
  subst hr
  refine thn h4 fun _ s5 ⟨x,H5,I5,r5,y5,st5,fr5⟩=>?_
  have I5':=I5.pinned (stat fr5) (T.obj _ _ st5)
  rw [List.append_assoc,List.cons_append] at I5'
  have hP' : ∀ p∈P++pinsAt fp s5.heap,p.1≠D:=fun p hp=>by
   rcases List.mem_append.mp hp with z | z
   ·exact hP p z
   ·obtain ⟨hb,_⟩:=of_pinsAt z
    exact fD _ hb
  have keep : ∀ {s':Shared} {σ':St} {H':Hp} {oD:Obj},Inv Y (base++((D,oD) :: (P++pinsAt fp s5.heap))) σ' H' s'→tn (j+1) s'.heap∧(∀ b∈fp,H' b=none)∧Inv Y (base++((D,oD) :: P)) σ' H' s':=fun {s' σ' H' oD} I'=>by
   have pin : ∀ p∈pinsAt fp s5.heap,p∈Y.pn++(base++((D,oD) :: (P++pinsAt fp s5.heap))):=fun p hp=>List.mem_append_right _ (List.mem_append_right _ (List.mem_cons_of_mem _ (List.mem_append_right _ hp)))
   refine ⟨T.keep _ _ _ st5 fun b hb o e=>(I'.pin (b,o) (pin _ (mem_pinsAt hb e))).1,fun b hb=>?_,?_⟩
   ·obtain ⟨o,e,d⟩:=T.obj _ _ st5 b hb
    exact (I'.pin (b,o) (pin _ (mem_pinsAt hb e))).2.1
   ·have:=I'
    rw [← List.cons_append,← List.append_assoc] at this
    exact this.unpinned
  have h6:=hg _ s5 σj H5 x u _ I5' r5 (step x H5 y5)
  rw [hxe] at h6
  refine thn h6 fun _ s6 ⟨σ6,H6,I6,q6⟩=>?_
  have h7:=ht _ s6 σ6 H6 _ I6 q6
  rw [hxe] at h7
  refine thn h7 fun ok s7 ⟨H7,I7,q7⟩=>?_
  cases ok with
  | false =>
   rw [if_neg Bool.false_ne_true] at q7 ⊢
   obtain ⟨m',hm,wm⟩:=q7
   obtain ⟨k1,k2,k3⟩:=keep I7
   exact ⟨m',hm,j+1,σ6,H7,ysj,itsj,kj,k3,k1,k2,rvj,wm⟩
  | true =>
   rw [if_pos rfl] at q7 ⊢
   refine (body (P++pinsAt fp s5.heap) s7 σ6 H7 ysj itsj kj _ hP' I7 rvj q7).mono fun s8 ⟨σ8,H8,ys8,its8,k8,I8,rv8,m',hm,wm⟩=>?_
   obtain ⟨k1,k2,k3⟩:=keep I8
   exact ⟨m',hm,j+1,σ8,H8,ys8,its8,k8,k3,k1,k2,rv8,wm⟩
theorem bodyN (hxe:Y.xe=fun _ _=>False) (hc:Y.calm=true) (dk:DOk Y base D) (hfr : ∀ d it acc env,(Code.compStart (.ListComp elt gens scope pos) d it acc env).isFrame=false) {d:Nat} {inn:IN} (c:Chain Y gens elt d inn) : BodyP Y base D elt gens scope pos d inn:=by
 induction c with
 | @last d te hn he =>
  intro P s σ H ys its k R hP I rv h
  unfold EmW
  rw [hn]
  obtain ⟨hz,h⟩:=h
  have h1:=he _ s σ H _ I h
  rw [hxe] at h1
  refine thn h1 fun z s13 ⟨v13,H13,I13,r13,w13⟩=>?_
  have inD:(D,Lob its k)∈Y.pn++(base++((D,Lob its k) :: P)):=List.mem_append_right _ (List.mem_append_right _ List.mem_cons_self)
  have pD:=I13.pin _ inD
  have I13v:Inv Y base σ H13 s13:=I13.unpinned
  have len:=rv.length
  refine wpAny_list_append_plain (items:=its.toArray) (hsz:=by simp; omega) ⟨k,pD.1⟩ fun h9 hl9 hs9=>?_
  obtain ⟨k9,e9⟩:=hl9
  have I9:Inv Y base σ H13 { s13 with heap:=h9 }:=I13v.turned (t':=s13.toks) (it:=D) (fun b o hb e=>hs9.extBut b o hb e) pD.2.1 dk.loc (.inr dk.sz) dk.cel dk.pin
  have e9':h9.get? D=some (Lob (its++[z]) k9):=by
   rw [e9]; unfold Lob; simp
  refine ⟨σ,H13,ys++[v13],its++[z],k9,I9.pins_of fun p hp=>?_,rv.append (.cons r13 .nil),w13⟩
  rcases mem_D hp with q | q | q
  ·exact I9.pin p (List.mem_append_right _ q)
  ·subst q
   exact ⟨e9',pD.2.1,pD.2.2.1,pD.2.2.2.1,fun v z=>by cases z⟩
  ·obtain ⟨a1,a2,a3,a4,a5⟩:=I13.pin p (List.mem_append_right _ (List.mem_append_right _ (List.mem_cons_of_mem _ q)))
   exact ⟨hs9.extBut p.1 p.2 (hP p q) a1,a2,a3,a4,a5⟩
 | @more d t i ifs wi g tc inn hd hi hg ht hs rest ih =>
  intro P s σ H ys its k R hP I rv h
  unfold EmW
  rw [hd]
  have h1:=hi _ s σ H _ I h
  rw [hxe] at h1
  refine thn h1 fun v s7 h7=>thn h7 fun itv2 s8 h8=>?_
  obtain ⟨it2,fp2,tn2,J2,H8,rfl,I8,T2,st8,f8,w8⟩:=h8
  have lp:=loop_of_body (s:=s8) hxe hc hd rest.next hg ht ih hP I8 rv T2 st8 f8 w8
  exact compStartN hd (hfr _ _ _ _) lp (T2.self _ 0 _ _ _ st8 lp)
end
end L2
namespace L2
open PySem PySem.Spec PyProof.Rows
def fin (Q:VK) : WK:=fun ys _ H'=>ys.length≤sizeLine∧∀ p,H' p=none→Q (.ref p) (upd H' p (.lst ys))
def tCompN (ix:List (Option Nat)) (wi:TI) (g:TG) (tc:TT) (inn:IN) : TE:=fun σ H Q=>wi σ H fun J H1=>wLoop g tc inn J [] (startC ix σ) H1 (fin Q)
section
variable {X:Cx} {scope:Scope} {N:List Str} {ix:List (Option Nat)} {elt tg iter:Expr} {ifs:List Expr} {gens:List Comprehension} {g:TG} {tc:TT} {inn:IN} {pos:Pos}
theorem comp_blockN {pins:List (Addr × Obj)} {σ : St} {s2:Shared} {Q:VK} {itv:Value} {RR:Value→Addr→Result→Shared→Prop} {E:Value→Shared→Prop} (c:CompOk X scope N ix) (hc:X.calm=true)
  (hd0:gens[0]?=some ⟨tg,iter,ifs,0⟩) (hg : ∀ C fp s H,PG (cxC X N scope C fp s H) tg g) (ht : ∀ C fp s H,PIf (cxC X N scope C fp s H) ifs tc) (hch : ∀ C fp s H,Chain (cxC X N scope C fp s H) gens elt 0 inn)
  (h2:PIE X pins σ tg (fun J H1=>wLoop g tc inn J [] (startC ix σ) H1 (fin Q)) itv s2)
  (hR : ∀ (D C:Addr) (s':Shared) (H':Hp) (m:Str→Option Value),Inv X pins σ H' s'→s'.heap.Ns C m→H' C=none→X.s₀.heap.objs.size≤C→(∀ p∈X.pn++pins,p.1≠C)→C≠X.env.locals→(∀ x c,X.env.cells.lookup x=some c→c≠C)→Q (.ref D) H'→RR (.ref D) C (.ok .next) s') :
  wpAny (model X.prog X.w) X.A (newList []) (fun acc s₃=>wpAny (model X.prog X.w) X.A (newFunctionEnv scope X.env.globals (closL X.env.cells scope.names []) [] X.env.qual none .none (some X.env)) (fun cenv s₄ =>
   codeAny (model X.prog X.w) X.A (.compStart (.ListComp elt gens scope pos) 0 itv acc { cenv with scope:=relabel scope X.env }) (RR acc cenv.locals) s₄) E s₃) E s2:=by
 obtain ⟨it,fp,tn,J,H2,rfl,I2,T,st2,f2,wl⟩:=h2
 refine wpAny_newObj_type (wpAny_newFunctionEnv c.nocell (by intro y hy; simp at hy) (fun h₁ hns₁ hsb₁=>?_) c.kind)
 dsimp only at hns₁ hsb₁ ⊢
 generalize hH2:s2.heap.push { cls:=.type "list", dict:=none,data:=.seq ([] : List Value).toArray }=G2 at hns₁ hsb₁ ⊢
 have hCs:G2.objs.size=s2.heap.objs.size+1:=by rw [← hH2,Heap.size_push]
 generalize hCe:G2.objs.size=C at hns₁ hsb₁ hCs ⊢
 generalize hDe:s2.heap.objs.size=D at hCs ⊢
 have ltC : ∀ b,@LT.lt Nat _ b D→b≠C:=fun b hb=>Nat.ne_of_lt (by rw [hCs]; exact Nat.lt_succ_of_lt hb)
 have ltS : ∀ b o,s2.heap.get? b=some o→@LT.lt Nat _ b D:=fun b o e=>by rw [← hDe]; exact Heap.lt_size e
 have hDC:D≠C:=Nat.ne_of_lt (by rw [hCs]; exact Nat.lt_succ_self _)
 have old : ∀ b o,s2.heap.get? b=some o→h₁.get? b=some o:=fun b o e=>hsb₁.extBut b o (ltC b (ltS b o e)) (Heap.get?_push_of_some _ (hH2 ▸ Heap.get?_push_of_some _ e))
 have hoD:h₁.get? D=some { cls:=.type "list", dict:=none,data:=.seq ([] : List Value).toArray }:=by
  refine hsb₁.extBut _ _ hDC (Heap.get?_push_of_some _ ?_)
  rw [← hH2,← hDe]
  exact Heap.get?_push_size _ rfl
 have I4:Inv (cxC X N scope C fp s2 H2) (pins++[(D,{ cls:=.type "list", data:=.seq ([] : List Value).toArray })]) (startC ix σ) H2 { s2 with heap:=h₁,toks:=s2.toks+([] : List (Str × Value)).length } :=
  c.enter I2 f2 (T.obj _ _ st2) (by rw [hCs,hDe]) hDe.symm old hns₁ hoD fun v z=>by cases z
 have st4:tn 0 h₁:=T.keep _ _ _ st2 fun b _ o e=>old b o e
 have pinD : ∀ p∈X.pn++pins,p.1≠D:=fun p hp=>Nat.ne_of_lt (ltS _ _ (I2.pin p hp).1)
 have pinC : ∀ p∈X.pn++pins,p.1≠C:=fun p hp=>ltC _ (ltS _ _ (I2.pin p hp).1)
 have celD : ∀ x d,X.env.cells.lookup x=some d→@LT.lt Nat _ d D:=fun x d e=>by
  obtain ⟨v,o,ho,_⟩:=I2.cell x d e
  exact ltS d o ho
 have fpD : ∀ b∈fp,@LT.lt Nat _ b D:=fun b hb=>by
  obtain ⟨o,e,_⟩:=T.obj _ _ st2 b hb
  exact ltS b o e
 have sub : ∀ x d,(closL X.env.cells scope.names []).lookup x=some d→X.env.cells.lookup x=some d:=fun x d e=>by
  rcases closL_sub e with z | z
  ·simp at z
  ·exact z
 have stat : ∀ {H':Hp} {oD:Obj},(∀ b∈fp,H' b=none)→∀ b∈fp,FpOk (cxC X N scope C fp s2 H2) (pins++[(D,oD)]) H' b:=fun {H' oD} hn b hb=>by
  obtain ⟨f0,f1,f2,f3,f4,f5⟩:=f2 b hb
  refine ⟨hn b hb,ltC b (fpD b hb),fun z=>?_,.inl hb,fun x d e=>f4 x d (sub x d e),fun p hp=>?_⟩
  ·rcases List.mem_cons.mp (I2.stkSub b z) with e | e
   ·exact f1 e
   ·exact f2 e
  ·have hp:p∈X.pn++(pins++[(D,oD)]):=hp
   rw [← List.append_assoc] at hp
   rcases List.mem_append.mp hp with z | z
   ·exact f5 p z
   ·have e:p=(D,oD):=by simpa using z
    subst e
    exact Nat.ne_of_gt (fpD b hb)
 have dk:DOk (cxC X N scope C fp s2 H2) pins D:=⟨hDC,by show s2.heap.objs.size≤D; rw [hDe]; exact Nat.le_refl _,fun x d e=>Nat.ne_of_lt (celD x d (sub x d e)),pinD⟩
 have lp : ∀ s3:Shared,s3={ s2 with heap:=h₁,toks:=s2.toks+([] : List (Str × Value)).length } →
   codeAny (model X.prog X.w) X.A (.compLoop (.ListComp elt gens scope pos) 0 (.ref it) (.ref D) (cxC X N scope C fp s2 H2).env) (RR (.ref D) C) s3:=by
  rintro s3 rfl
  refine codeAny_mono (loop_of_body (Y:=cxC X N scope C fp s2 H2) (base:=pins) (D:=D) (P:=[]) (its:=[]) (k:=0) rfl (show (cxC X N scope C fp s2 H2).calm=true from hc) hd0 (hch C fp s2 H2).next (hg C fp s2 H2) (ht C fp s2 H2) (bodyN (Y:=cxC X N scope C fp s2 H2) rfl (show (cxC X N scope C fp s2 H2).calm=true from hc) dk (fun _ _ _ _=>rfl) (hch C fp s2 H2)) (fun p hp=>nomatch hp) I4 .nil T st4 (stat fun b hb=>(f2 b hb).1) wl) fun r s4 ⟨hr,σ4,H4,ys4,its4,k4,I4,rv4,hz,qn⟩=>?_
  subst hr
  have hDn:H4 D=none:=(I4.pin (D,_) (List.mem_append_right _ (List.mem_append_right _ List.mem_cons_self))).2.1
  obtain ⟨m4,hn4,_⟩:=id I4.loc
  refine hR D C s4 _ m4 (c.leave I2 f2 (by rw [hCs,hDe]) hDe.symm I4 rv4 hz) hn4 ?_ ?_ pinC ?_ (fun x d e=>ltC d (celD x d e)) (qn D hDn)
  ·rw [upd_ne hDC.symm]; exact I4.free
  ·refine Nat.le_trans I2.sz ?_
   rw [hDe,hCs]; exact Nat.le_succ _
  ·refine Nat.ne_of_gt (Nat.lt_of_lt_of_le I2.lt ?_)
   rw [hDe,hCs]; exact Nat.le_succ _
 exact compStartN hd0 rfl (lp _ rfl) (T.self _ 0 _ _ _ st4 (lp _ rfl))
variable {wi:TI}
theorem pe_compN {gs:List Comprehension} (c:CompOk X scope N ix) (hc:X.calm=true) (hi:PI X tg iter wi) (hg : ∀ C fp s H,PG (cxC X N scope C fp s H) tg g) (ht : ∀ C fp s H,PIf (cxC X N scope C fp s H) ifs tc) (hch : ∀ C fp s H,Chain (cxC X N scope C fp s H) (⟨tg,iter,ifs,0⟩ :: gs) elt 0 inn)
  (hs : ∀ x,foldedSetIterable iter X.env x=pure x:=by intro _; rfl) : PE X (.ListComp elt (⟨tg,iter,ifs,0⟩ :: gs) scope pos) (tCompN ix wi g tc inn):=by
 intro pins s σ H Q I h
 rw [eval_ListComp]
 have hcl : ∀ y∈scope.names,y.2=NameKind.free→∃ d,X.env.cells.lookup y.1=some d:=fun y hy e=>I.ok.has _ (c.fr y hy e)
 refine wpAny_comprehension_free (use:=none) rfl hs (closureFor_eq hcl) c.kind c.names (thn (hi pins s σ H _ I h) fun v s1 h1=>thn h1 fun itv s2 h2=>?_)
 refine comp_blockN (RR:=fun acc C=>compPost (model X.prog X.w) X.A X.xe none (EP X pins σ Q) acc C) c hc rfl hg ht hch h2 ?_
 intro D C s' H' m I' hn hC hz hp hL hcells q
 exact ⟨m,hn,fun h' hs'=>⟨.ref D,H',I'.turned (t':=s'.toks) (fun b o hb e=>hs'.extBut b o hb e) hC hL (.inr hz) hcells hp,rfl,q⟩⟩
end
theorem wl_list {K:PySem.W.Frag} {a:Addr} {xs:List V} {g:TG} {tc:TT} {inn:IN} {ys:List V} {σ : St} {H:Hp} {R:WK} (Pv:Nat→List V→St→Hp→Prop) (h0:Pv 0 ys σ H) (hl : ∀ i ys σ H,i≤xs.length→Pv i ys σ H→SqL K H a xs)
  (hs : ∀ i ys σ H x (S:WK),xs[i]?=some x→Pv i ys σ H→(∀ ys' σ' H',Pv (i+1) ys' σ' H'→S ys' σ' H')→g x σ H fun σ2 H3=>tc σ2 H3 fun b H4=>if b=true then inn ys σ2 H4 S else S ys σ2 H4)
  (hd : ∀ ys σ H,Pv xs.length ys σ H→R ys σ H) : wLoop g tc inn (Itl K a) ys σ H R:=by
 refine ⟨fun i m ys σ H=>m=xs.length - i∧i≤xs.length∧Pv i ys σ H,⟨xs.length,by simp,Nat.zero_le _,h0⟩,?_⟩
 rintro i m ys' σ' H' ⟨rfl,hi,p⟩
 have q:=hl i ys' σ' H' hi p
 by_cases hlt:i<xs.length
 ·refine .inr ⟨⟨xs,xs[i],q,by simp [hlt]⟩,fun x H2 y=>?_⟩
  obtain ⟨rfl,y⟩:=y
  exact hs i ys' σ' _ x _ (y xs q) p fun ys2 σ2 H2 q2=>⟨xs.length - (i+1),by omega,rfl,hlt,q2⟩
 ·have e:i=xs.length:=by omega
  subst e
  exact .inl ⟨⟨xs,q,Nat.le_refl _⟩,hd _ _ _ p⟩
end L2
namespace L2
open PySem PySem.Spec PyProof.Rows
theorem zip_apart (n a b:Nat) (h1:a<n) (h2:b<n) : ZipApart (n+4) (n+2) (n+3) n (n+1) a b:=by
 constructor <;> (intro e; have e : @Eq Nat _ _:=e; omega)
def Itz (K:PySem.W.Frag) (a b:Addr) (xs ys:List V) : It :=
 ⟨fun i H=>i<min xs.length ys.length∧SqL K H a xs∧SqL K H b ys,fun i H x H'=>∃ t v u,H t=none∧x=.ref t∧xs[i]?=some v∧ys[i]?=some u∧H'=upd H t (.tup [v,u]),fun i H=>i=min xs.length ys.length∧SqL K H a xs∧SqL K H b ys⟩
theorem turn_zip {P:Program} {w:World} {K:PySem.W.Frag} {elts:List Expr} {k:Nat} {pos:Pos} (a b z TI TO i1 i2:Addr) (xs ys:List V) (D:ZipApart z TI TO i1 i2 a b) :
  Turn P w K (.Tuple elts k pos) (Itz K a b xs ys) [z,TI,TO,i1,i2] z (fun i h=>IsZip h z TI TO .none∧IsPair h TI (.ref i1) (.ref i2)∧(∃ x y,IsPair h TO x y)∧h.IsListIter i1 a i∧h.IsListIter i2 b i) where
 mem:=by simp
 obj:=fun i h st c hc=>by
  obtain ⟨hz,hTI,⟨x,y,hTO⟩,⟨o1,e1,c1,d1⟩,⟨o2,e2,c2,d2⟩⟩:=st
  simp only [List.mem_cons,List.not_mem_nil,or_false] at hc
  rcases hc with rfl | rfl | rfl | rfl | rfl
  ·exact ⟨_,hz,fun v z=>by cases z⟩
  ·exact ⟨_,hTI,fun v z=>by cases z⟩
  ·exact ⟨_,hTO,fun v z=>by cases z⟩
  ·exact ⟨o1,e1,fun v z=>by rw [d1] at z; cases z⟩
  ·exact ⟨o2,e2,fun v z=>by rw [d2] at z; cases z⟩
 keep:=fun i h h' st kk=>by
  obtain ⟨hz,hTI,⟨x,y,hTO⟩,h1,h2⟩:=st
  exact ⟨kk z (by simp) _ hz,kk TI (by simp) _ hTI,⟨x,y,kk TO (by simp) _ hTO⟩,h1.at fun o q=>kk i1 (by simp) o q,h2.at fun o q=>kk i2 (by simp) o q⟩
 item:=by
  intro X hP hw hK hc i pins s σ H E I hf st hg
  subst hP hw hK
  obtain ⟨hi,hq1,hq2⟩:=hg
  obtain ⟨its,rv,pl,_⟩:=I.list hq1
  obtain ⟨jts,rv2,pl2,_⟩:=I.list hq2
  have hl:=rv.length
  have hl2:=rv2.length
  obtain ⟨hz,hTI,hTO,h1,h2⟩:=st
  have W:=WalksT.zip2 (prog:=X.prog) (w:=X.w) (A:=X.A) (show X.A.handled=none from I.ok.hd hc) z TI TO i1 i2 a b D its.toArray jts.toArray
  refine W.item i s _ _ (by simp; omega) ⟨hz,hTI,hTO,h1,h2,pl.isList,pl2.isList⟩ fun T vals h' tk hPt hsz hT hMid hk=>?_
  obtain ⟨x,y,hx,hy,rfl⟩:=hPt
  obtain ⟨v,hv,rvx⟩ : ∃ v,xs[i]?=some v∧RelV v x:=by
   have hi':i<xs.length:=by omega
   rw [List.getElem?_eq_getElem hi']
   obtain ⟨u,hu,ru⟩:=rv.get (List.getElem?_eq_getElem hi')
   have:its[i]?=some x:=by simpa using hx
   rw [this] at hu
   cases hu
   exact ⟨_,rfl,ru⟩
  obtain ⟨v2,hv2,rvy⟩ : ∃ v,ys[i]?=some v∧RelV v y:=by
   have hi':i<ys.length:=by omega
   rw [List.getElem?_eq_getElem hi']
   obtain ⟨u,hu,ru⟩:=rv2.get (List.getElem?_eq_getElem hi')
   have:jts[i]?=some y:=by simpa using hy
   rw [this] at hu
   cases hu
   exact ⟨_,rfl,ru⟩
  refine ⟨.ref T,rfl,W.go elts k pos i T _ _ _ hMid fun h'' hSt hk''=>?_⟩
  have ap:=W.apart i T h' hMid
  have sub : ∀ c,c∉[z,TI,TO,i1,i2]→c∉[z,TO,i1,i2]:=fun c hc z'=>hc (by simp at z' ⊢; rcases z' with e | e | e | e <;> simp [e])
  have I1:Inv X pins σ H { s with heap:=h'',toks:=tk }:=I.turnedL (fp:=[z,TI,TO,i1,i2]) (fun b o hb q=>hk'' b o (sub b hb) (hk b o (sub b hb) q)) hf
  have fT:FpOk X pins H T:=I.fpOk hsz (I.hok.fresh hsz)
  have hT':IsTup h'' T #[x,y]:=by
   obtain ⟨o,e1,e2,e3⟩:=hT
   exact ⟨o,hk'' T o ap e1,e2,e3⟩
  obtain ⟨hz2,hTI2,hTO2,h12,h22,_,_⟩:=hSt
  refine ⟨.ref T,upd H T (.tup [v,v2]),I1.track fT ⟨(by show 2≤sizeLine; decide),[x,y],.cons rvx (.cons rvy .nil),hT'⟩,rfl,⟨T,v,v2,fT.1,rfl,hv,hv2,rfl⟩,⟨hz2,hTI2,hTO2,h12,h22⟩,fun c hc=>?_⟩
  have hcT:c≠T:=fun e=>by
   subst e
   have lt : ∀ {o},s.heap.get? c=some o→False:=fun e=>Nat.lt_irrefl _ (Nat.lt_of_lt_of_le (Heap.lt_size e) hsz)
   simp only [List.mem_cons,List.not_mem_nil,or_false] at hc
   rcases hc with e | e | e | e | e
   ·rw [← e] at hz; exact lt hz
   ·rw [← e] at hTI; exact lt hTI
   ·obtain ⟨_,_,hTO⟩:=hTO; rw [← e] at hTO; exact lt hTO
   ·obtain ⟨o,e1,_⟩:=h1; rw [← e] at e1; exact lt e1
   ·obtain ⟨o,e1,_⟩:=h2; rw [← e] at e1; exact lt e1
  rw [upd_ne hcT]
  exact (hf c hc).1
 done:=by
  intro X hP hw hK hc i pins s σ H E I hf st hg
  subst hP hw hK
  obtain ⟨hi,hq1,hq2⟩:=hg
  obtain ⟨its,rv,pl,_⟩:=I.list hq1
  obtain ⟨jts,rv2,pl2,_⟩:=I.list hq2
  have hl:=rv.length
  have hl2:=rv2.length
  obtain ⟨hz,hTI,hTO,h1,h2⟩:=st
  have W:=WalksT.zip2 (prog:=X.prog) (w:=X.w) (A:=X.A) (show X.A.handled=none from I.ok.hd hc) z TI TO i1 i2 a b D its.toArray jts.toArray
  have en:i=min its.toArray.size jts.toArray.size:=by simp; omega
  rw [en] at h1 h2
  have sub : ∀ c,c∉[z,TI,TO,i1,i2]→c∉[z,TO,i1,i2]:=fun c hc z'=>hc (by simp at z' ⊢; rcases z' with e | e | e | e <;> simp [e])
  exact W.done s _ _ ⟨hz,hTI,hTO,h1,h2,pl.isList,pl2.isList⟩ fun h' tk hk=>⟨rfl,I.turnedL (fp:=[z,TI,TO,i1,i2]) (fun b o hb q=>hk b o (sub b hb) q) hf⟩
 self:=fun A i s Q E st hQ=>wpAny_pyIter_zip st.1 hQ
def iZip (K:PySem.W.Frag) (ta:TA) : TI:=fun σ H R=>ta σ H fun vs H1=>∃ (a b:Addr) (xs ys:List V),vs=[.ref a,.ref b]∧SqL K H1 a xs∧SqL K H1 b ys∧R (Itz K a b xs ys) H1
theorem pi_zip {X:Cx} {K:PySem.W.Frag} {e e2:Expr} {ta:TA} {p pos:Pos} {kk:Nat} {elts:List Expr} {tp:Pos} (hK:X.K=K) (hg:Gl X "zip") (hm:X.mg "zip" = none) (ha:PA X [e,e2] ta)
  (hs:starEach [e,e2] X.env=(false,eval e X.env) :: starEach [e2] X.env:=by rfl) (hpl:(backTo pos (starEach [e2] X.env)).any (·.1)=false:=by rfl) :
  PI X (.Tuple elts kk tp) (.Call (.Name "zip" p) [e,e2] [] pos) (iZip K ta):=by
 subst hK
 intro pins s σ H R I h
 refine Call_ (ld_blt I hg hm (by decide +kernel:bootBuiltins "zip" = some (.type "zip")) (PyProof.Rows.callWith_type1 (thn (ha pos pins s σ H _ I h) fun us s2 ⟨vs,H2,I2,r1,a,b,xs,ys,e1,hq1,hq2,hR⟩=>?_) hs hpl) (by decide +kernel) (by decide +kernel))
 subst e1
 obtain ⟨u,u2,rfl,ru,ru2⟩:=vals2 r1
 cases ru
 cases ru2
 obtain ⟨its,rv,pl,_⟩:=I2.list hq1
 obtain ⟨jts,rv2,pl2,_⟩:=I2.list hq2
 refine call_zip_2 pl.isList pl2.isList fun h' z0 t0 o0 i10 i20 sz k0=>?_
 have lta : @LT.lt Nat _ a s2.heap.objs.size:=by obtain ⟨o,n,e,_⟩:=pl; exact Heap.lt_size e
 have ltb : @LT.lt Nat _ b s2.heap.objs.size:=by obtain ⟨o,n,e,_⟩:=pl2; exact Heap.lt_size e
 refine wpAny_pyIter_zip z0 ?_
 have D:ZipApart (s2.heap.objs.size+4) (s2.heap.objs.size+2) (s2.heap.objs.size+3) s2.heap.objs.size (s2.heap.objs.size+1) a b:=zip_apart _ _ _ lta ltb
 refine ⟨s2.heap.objs.size+4,[s2.heap.objs.size+4,s2.heap.objs.size+2,s2.heap.objs.size+3,s2.heap.objs.size,s2.heap.objs.size+1],_,_,H2,rfl,I2.kept (t':=s2.toks) k0,turn_zip a b _ _ _ _ _ xs ys D,⟨z0,t0,⟨_,_,o0⟩,i10,i20⟩,fun c hc=>?_,hR⟩
 have le : @LE.le Nat _ s2.heap.objs.size c:=by
  simp only [List.mem_cons,List.not_mem_nil,or_false] at hc
  rcases hc with e | e | e | e | e <;> rw [e]
  ·exact Nat.le_add_right _ _
  ·exact Nat.le_add_right _ _
  ·exact Nat.le_add_right _ _
  ·exact Nat.le_refl _
  ·exact Nat.le_add_right _ _
 exact I2.fpOk le (I2.hok.fresh le)
end L2
namespace L2
open PySem PySem.Spec PyProof.Rows
theorem compZ {K:PySem.W.Frag} {ix:List (Option Nat)} {g:TG} {te:TE} {σ : St} {Q:VK} {H:Hp} {a b:Addr} {xs ys:List V} (Pv:Nat→List V→St→Hp→Prop) (hn:min xs.length ys.length≤1000000) (h0:Pv 0 [] (startC ix σ) H)
  (hl : ∀ i zs σ H,i≤min xs.length ys.length→Pv i zs σ H→SqL K H a xs∧SqL K H b ys) (hlen : ∀ i zs σ H,Pv i zs σ H→zs.length≤i)
  (hs : ∀ i zs σ H t v u (R:St→List V→Hp→Prop),xs[i]?=some v→ys[i]?=some u→Pv i zs σ H→H t=none→(∀ σ2 ys2 H5,Pv (i+1) ys2 σ2 H5→R σ2 ys2 H5)→g (.ref t) σ (upd H t (.tup [v,u])) fun σ2 H3=>te σ2 H3 fun v H5=>R σ2 (zs++[v]) H5)
  (mg : ∀ x σ H R R',(∀ σ2 H2,R σ2 H2→R' σ2 H2)→g x σ H R→g x σ H R')
  (hd : ∀ zs σ' H' p,Pv (min xs.length ys.length) zs σ' H'→H' p=none→Q (.ref p) (upd H' p (.lst zs))) : rComp ix g tTrue te σ Q (Itz K a b xs ys) H:=by
 refine comp_by Pv hn h0 (fun i zs σ H hi p=>⟨hi,hl i zs σ H (Nat.le_of_lt hi) p⟩) (fun zs σ H p=>⟨rfl,hl _ zs σ H (Nat.le_refl _) p⟩) hlen (fun i zs σ H x H2 R hi p y r=>?_) hd
 obtain ⟨t,v,u,ht,rfl,hv,hu,rfl⟩:=y
 refine mg _ _ _ _ _ (fun σ2 H3 q=>?_) (hs i zs σ H t v u R hv hu p ht r)
 unfold tTrue
 simp only [if_true]
 exact q
end L2
namespace L2
open PySem
theorem op_neDI {X:Cx} {K:PySem.W.Frag} (hK:X.K=K) (hu:X.A.units+64<cLine) : OpR X (compareOp .NotEq) (rNeD K):=by subst hK; exact op_neD hu
end L2
namespace Sw
open PySem L2
def intI:PyData→Int
 | .int a=>a
 | _=>0
def adjB (L:List Int) : List Bool:=List.zipWith (fun x y=>decide (x<y)) L (L.drop 1)
theorem adj_all : ∀ L:List Int,((adjB L).all id=true)↔L.Pairwise (· < ·)
 | []=>by unfold adjB; simp
 | [a]=>by unfold adjB; simp
 | a :: b :: L=>by
  have ih:=adj_all (b :: L)
  have e:adjB (a :: b :: L)=decide (a<b) :: adjB (b :: L):=rfl
  rw [e,List.all_cons,Bool.and_eq_true,ih]
  constructor
  ·rintro ⟨h1,h2⟩
   have h1:a<b:=of_decide_eq_true h1
   refine List.pairwise_cons.mpr ⟨fun x hx=>?_,h2⟩
   rcases List.mem_cons.mp hx with rfl | hx
   ·exact h1
   ·have:=(List.pairwise_cons.mp h2).1 x hx; omega
  ·intro h
   obtain ⟨h1,h2⟩:=List.pairwise_cons.mp h
   exact ⟨decide_eq_true (h1 b List.mem_cons_self),h2⟩
def ispt (n:Int) : PyData→Bool
 | .list ds=>(decide (ds≠[]) && ds.all (btw 1 n)) && (adjB (ds.map intI)).all id
 | _=>false
theorem btwI : ∀ {ds:List PyData} {lo hi:Int},ds.all (btw lo hi)=true→ds=(ds.map intI).map PyData.int∧∀ x∈ds.map intI,lo≤x∧x≤hi
 | [],_,_,_=>⟨rfl,by simp⟩
 | d :: r,lo,hi,h=>by
  rw [List.all_cons] at h
  obtain ⟨h1,h2⟩:=Bool.and_eq_true_iff.mp h
  obtain ⟨e,b⟩:=btwI h2
  cases d with
  | int i =>
   refine ⟨?_,fun x hx=>?_⟩
   ·rw [List.map_cons,List.map_cons,← e]; rfl
   ·rw [List.map_cons] at hx
    rcases List.mem_cons.mp hx with rfl | hx
    ·exact of_decide_eq_true h1
    ·exact b x hx
  | _=>exact absurd h1 Bool.false_ne_true
theorem ispt_is {n:Int} {d:PyData} (h:ispt n d=true) : ∃ L:List Int,d=.list (L.map PyData.int)∧L≠[]∧L.Pairwise (· < ·)∧∀ x∈L,1≤x∧x≤n:=by
 cases d with
 | list ds =>
  obtain ⟨h1,h2⟩:=Bool.and_eq_true_iff.mp h
  obtain ⟨h3,h4⟩:=Bool.and_eq_true_iff.mp h1
  obtain ⟨e,b⟩:=btwI h4
  have h3:ds≠[]:=of_decide_eq_true h3
  exact ⟨ds.map intI,by rw [← e],fun z=>h3 (List.map_eq_nil_iff.mp z),(adj_all _).mp h2,b⟩
 | _=>cases h
theorem map_intI : ∀ L:List Int,(L.map PyData.int).map intI=L
 | []=>rfl
 | a :: r=>by rw [List.map_cons,List.map_cons,map_intI r]; rfl
theorem ispt_of {n:Int} {L:List Int} (h1:L≠[]) (h2:L.Pairwise (· < ·)) (h3 : ∀ x∈L,1≤x∧x≤n) : ispt n (.list (L.map PyData.int))=true:=by
 show ((decide (L.map PyData.int≠[]) && (L.map PyData.int).all (btw 1 n)) && (adjB ((L.map PyData.int).map intI)).all id)=true
 have ne:L.map PyData.int≠[]:=fun z=>h1 (List.map_eq_nil_iff.mp z)
 rw [map_intI,(adj_all L).mpr h2,decide_eq_true ne,Bool.and_true,Bool.true_and,List.all_map,List.all_eq_true]
 exact fun x hx=>decide_eq_true (h3 x hx)
def shD (Ls:List (List Int)) : PyData:=.list (Ls.map fun L=>.list (L.map PyData.int))
def IsSh (n:Int) (d:PyData) : Prop:=∃ Ls,d=shD Ls∧Gsd n Ls
theorem shs_of {n:Int} {H:Hp} {P:Addr→Prop} : ∀ {us:List V} {ds:List PyData},DTs H P us ds→ds.all (ispt n)=true→∃ Ls,ds=Ls.map (fun L=>PyData.list (L.map PyData.int))∧Lsts H us Ls∧∀ L∈Ls,L≠[]∧L.Pairwise (· < ·)∧∀ x∈L,1≤x∧x≤n
 | _,_,.nil,_=>⟨[],rfl,.nil,by simp⟩
 | _,_,.cons (d:=d) h hs,e=>by
  rw [List.all_cons] at e
  obtain ⟨e1,e2⟩:=Bool.and_eq_true_iff.mp e
  obtain ⟨Ls,e3,x,q⟩:=shs_of hs e2
  obtain ⟨L,e4,l1,l2,l3⟩:=ispt_is e1
  subst e4
  cases h with
  | lst ha _ r =>
   have hu:=DTs.toIntsI r
   subst hu
   refine ⟨L :: Ls,by rw [e3]; rfl,.cons ha x,fun M hM=>?_⟩
   rcases List.mem_cons.mp hM with rfl | hM
   ·exact ⟨l1,l2,l3⟩
   ·exact q M hM
where
 DTs.toIntsI {H:Hp} {P:Addr→Prop} : ∀ {ns:List Int} {us:List V},DTs H P us (ns.map PyData.int)→us=ns.map V.int
 | [],us,h=>by cases h; rfl
 | n :: r,us,h=>by
  cases h with
  | cons h1 h2 =>
   cases h1
   rw [DTs.toIntsI h2]
   rfl
theorem rise_len {n:Int} {L:List Int} (h0 : 0≤n) (h2:L.Pairwise (· < ·)) (h3 : ∀ x∈L,1≤x∧x≤n) : L.length≤n.toNat:=by
 have nd:L.Nodup:=h2.imp fun h=>by omega
 have:=sub_leA nd (bs:=ivl 1 (n+1)) fun x hx=>mem_ivl.mpr (by have:=h3 x hx; omega)
 rw [ivl_length] at this
 omega
def Crs (L M:List Int) : Prop:=∃ a∈L,∃ c∈L,∃ b∈M,∃ d∈M,a<b∧b<c∧c<d
def lenI:PyData→Nat
 | .list es=>es.length
 | _=>0
def Few2 (d:PyData) : Prop:=∀ ds,d=.list ds→ds.length≤60∧(ds.map lenI).sum≤60
theorem mem_sumI : ∀ {ds:List PyData} {e:PyData},e∈ds→lenI e≤(ds.map lenI).sum
 | d :: ds,e,h=>by
  rw [List.map_cons,List.sum_cons]
  rcases List.mem_cons.mp h with rfl | h
  ·omega
  ·have:=mem_sumI h; omega
def spIspD:Sp:=fun vs H Q _=>∃ (v:V) (P:Addr→Prop) (d:PyData) (n:Int),vs=[.int n,v]∧DT H P v d∧(∀ ds,d=.list ds→ds.length≤1000)∧∀ H',Same H H'→Q (.bl (ispt n d)) H'
def spCroD:Sp:=fun vs H Q _=>∃ (l m:Addr) (L M:List Int),vs=[.ref l,.ref m]∧H l=some (.lst (L.map V.int))∧H m=some (.lst (M.map V.int))∧L.length≤12∧M.length≤12∧∀ b H',(b=true↔Crs L M)→Same H H'→Q (.bl b) H'
def spIcrD:Sp:=fun vs H Q _=>∃ (l:Addr) (ws:List V) (Ls:List (List Int)),vs=[.ref l]∧H l=some (.lst ws)∧Lsts H ws Ls∧Ls.length≤12∧(∀ L∈Ls,L.length≤12)∧∀ b H',(b=true↔¬ NonX Ls)→Same H H'→Q (.bl b) H'
def spIssD:Sp:=fun vs H Q _=>∃ (v:V) (P:Addr→Prop) (d:PyData) (n:Int),vs=[.int n,v]∧DT H P v d∧Few2 d∧1≤n∧n≤12∧∀ b H',(b=true↔IsSh n d)→Same H H'→Q (.bl b) H'
structure TIspD (P:Program) (w:World) (K:PySem.W.Frag) (mg:Str→Option Value) (base:Heap) : Prop extends T1 mg K where
 b_zip:mg "zip" = none
 f_is_between:FnAt P w K mg base "is_between" 2 ["thing", "low", "high"] spBtD
structure TCroD (mg:Str→Option Value) (K:PySem.W.Frag) : Prop extends T1 mg K where
 b_any:mg "any" = none
structure TIcrD (P:Program) (w:World) (K:PySem.W.Frag) (mg:Str→Option Value) (base:Heap) : Prop extends T1 mg K where
 b_any:mg "any" = none
 f_crosses:FnAt P w K mg base "crosses" 1 ["one", "other"] spCroD
structure TIssD (P:Program) (w:World) (K:PySem.W.Frag) (mg:Str→Option Value) (base:Heap) : Prop extends T1 mg K where
 b_sorted:mg "sorted" = none
 f_is_part:FnAt P w K mg base "is_part" 3 ["n", "thing"] spIspD
 f_is_crossed:FnAt P w K mg base "is_crossed" 2 ["sharing"] spIcrD
theorem neLI {K:PySem.W.Frag} {H:Hp} {t u:Addr} {ns ms:List Int} {Q:VK} (h1:H t=some (.lst (ns.map V.int))) (h2:H u=some (.lst (ms.map V.int))) (q:Q (.bl (!decide (ns=ms))) H) : rNeD K (.ref t) (.ref u) H Q:=by
 refine ⟨fun _=>True,.list (ns.map PyData.int),.list (ms.map PyData.int),.lst (SqL.of h1) True.intro (ints_dat ns),.lst (SqL.of h2) True.intro (ints_dat ms),?_,?_,?_,?_⟩
 ·unfold PyData.canLay0; exact lay_ints ns
 ·unfold PyData.canLay0; exact lay_ints ms
 ·unfold PyData.depth; rw [depth_ints]; decide
 ·unfold PyData.eqv; rw [eqv_ints]; exact q
theorem exTI {α : Type} {l:List α} {i:Nat} {y : α} (h:l[i]?=some y) (p : α→Prop) : (∃ x∈l.take (i+1),p x)↔(∃ x∈l.take i,p x)∨p y:=by
 rw [take_snoc h]
 constructor
 ·rintro ⟨x,hx,px⟩
  rcases List.mem_append.mp hx with hx | hx
  ·exact .inl ⟨x,hx,px⟩
  ·rw [List.mem_singleton.mp hx] at px; exact .inr px
 ·rintro (⟨x,hx,px⟩ | px)
  ·exact ⟨x,List.mem_append_left _ hx,px⟩
  ·exact ⟨y,List.mem_append_right _ (List.mem_singleton.mpr rfl),px⟩
theorem ex0I {α : Type} {l:List α} {p : α→Prop} : (∃ x∈l.take 0,p x)↔False:=by rw [List.take_zero]; simp
theorem exAI {α : Type} {l:List α} {k:Nat} (h:l.length≤k) {p : α→Prop} : (∃ x∈l.take k,p x)↔∃ x∈l,p x:=by rw [List.take_of_length_le h]
theorem eqLq9 {K:PySem.W.Frag} {H:Hp} {l m:Addr} {vs ws:List V} {r q:List (List Int)} {Q:VK} (h1:H l=some (.lst vs)) (x1:Lsts H vs r) (h2:H m=some (.lst ws)) (x2:Lsts H ws q) (hq:Q (.bl (decide (r=q))) H) : rEqD K (.ref l) (.ref m) H Q:=by
 refine ⟨fun _=>True,.list (r.map fun p=>PyData.list (p.map PyData.int)),.list (q.map fun p=>PyData.list (p.map PyData.int)),.lst (SqL.of h1) True.intro x1.dat,.lst (SqL.of h2) True.intro x2.dat,?_,?_,?_,?_⟩
 ·unfold PyData.canLay0; exact lay_ll r
 ·unfold PyData.canLay0; exact lay_ll q
 ·unfold PyData.depth; have:=depth_ll r; omega
 ·unfold PyData.eqv; rw [eqv_ll]; exact hq
section
variable {P:Program} {w:World} {K:PySem.W.Frag} {mg:Str→Option Value} {base:Heap}
theorem sc_is_part:FnScope ["n", "thing"] ["n", "thing"] (defScope (top 40)):=⟨rfl,rfl,rfl,by decide +kernel,rfl,by decide +kernel,by decide +kernel⟩
theorem ok_ispD {f:Addr} {fd:FuncData} (F:Fun K "is_part" "is_part" (top 40) f fd) (T:TIspD P w K mg base) : FnOk P w K mg base CX0 3 f fd ["n", "thing"] spIspD:=by
 refine F.ok sc_is_part (fun vs H Q E h=>?_) (fun cdv A outer s H vs Q E hr h=>?_)
 ·obtain ⟨v,P,d,n,rfl,_⟩:=h
  rfl
 ·obtain ⟨v,P,d,n,rfl,hd,hlen,k⟩:=h
  refine ⟨_,(pss_cons (ps_if (PW.pt (pw_or (pt_not (pt_val (pe_callB (call_isiK (K:=K) rfl) rfl T.b_isinstance (by decide +kernel) (pa_cons (pv 1) (pa_cons (pe_bltn (v:=.ty "list") rfl T.b_list (by decide +kernel) rfl) pa_nil))))) (pw_or1 (pt_cmpR op_eq (pe_callB (call_lenK (K:=K) rfl) rfl T.b_len (by decide +kernel) (pa_cons (pv 1) pa_nil)) pe_int (nomark _))))) (pss_one (ps_ret pe_bl)) pss_nil)
   (pss_cons (ps_if (pt_not (pt_val (pe_callB (call_allK (K:=K) rfl rfl) rfl T.b_all (by decide +kernel) (pa_cons (pe_comp (N:=(["number", "n"] : List Str)) (ix:=([none,some 0] : List (Option Nat))) (comp_ok rfl rfl) rfl (pi_listK (K:=K) rfl (pv 1)) (fun _ _ _ _=>(pg_name (i:=0) (show List.Nodup (["number", "n"] : List Str) from by decide +kernel) rfl (Or.inl rfl))) (fun _ _ _ _=>pif_nil) (fun _ _ _ _=>(pe_callF T.f_is_between (hr.mono (by first | decide | omega)) rfl (@pa_cons _ _ _ _ _ (pv 0) (@pa_cons _ _ _ _ _ pe_int (@pa_cons _ _ _ _ _ (pv 1) pa_nil st_name) st_con) st_name)))) pa_nil)))) (pss_one (ps_ret pe_bl)) pss_nil)
   (pss_one (ps_ret (pe_callB (call_allK (K:=K) rfl rfl) rfl T.b_all (by decide +kernel) (pa_cons (pe_comp (N:=(["low", "high"] : List Str)) (ix:=([none,none] : List (Option Nat))) (comp_ok rfl rfl) rfl (pi_zip (K:=K) rfl rfl T.b_zip (pa_cons (pv 1) (pa_cons (pe_slice (sl_listK (K:=K) rfl) (pv 1) (po_some pe_int) po_none) pa_nil))) (fun _ _ _ _=>(pg_tupK (K:=K) (n:=2) rfl rfl (pgs_cons (pg_name (i:=0) (show List.Nodup (["low", "high"] : List Str) from by decide +kernel) rfl (Or.inl rfl)) (pgs_cons (pg_name (i:=1) (show List.Nodup (["low", "high"] : List Str) from by decide +kernel) rfl (Or.inl rfl)) pgs_nil)))) (fun _ _ _ _=>pif_nil) (fun _ _ _ _=>(pe_cmpR op_lt (pv 0) (pv 1) (nomark _)))) pa_nil)))))),?_⟩
  refine ⟨_,rfl,_,_, "list", _,rfl,hd.ty,kit_list K hd,_,rfl,?_⟩
  cases hd with
  | @lst l us ds hl pl rs =>
   refine iteF ?_
   have ul:=rs.length
   have dl:=hlen ds rfl
   by_cases ne:ds=[]
   ·subst ne
    refine ⟨_,rfl,l,_,rfl,.inl (SqL.of hl),rfl,_,rfl,iteP (decide_eq_true (by rw [ul]; rfl)) ?_⟩
    exact k H (Same.refl H)
   have lp:=List.length_pos_iff.mpr ne
   refine ⟨_,rfl,l,_,rfl,.inl (SqL.of hl),rfl,_,rfl,iteE (decide_eq_false fun z=>by have:=V.int.inj z; omega) ?_⟩
   refine ⟨_,rfl,l,rfl,⟨_,SqL.of hl⟩,compL (K:=K) (a:=l) (xs:=us) (k:=0) (fun i ys σ' H'=>ys=((ds.take i).map (btw 1 n)).map V.bl∧(∃ v,σ'=[v,some (.int n)])∧H'=H) (by omega) ⟨rfl,⟨none,rfl⟩,rfl⟩ (fun i ys σ' H' _ q=>by rw [q.2.2]; exact SqL.of hl) (fun i ys σ' H' q=>by rw [q.1,List.length_map,List.length_map,List.length_take]; omega) ?_ ?_⟩
   ·rintro i ys σ' H' z R hz ⟨rfl,⟨v,rfl⟩,rfl⟩ done
    obtain ⟨d,hd,hdz⟩:=rs.get hz
    refine ⟨_,rfl,_,rfl,z,P,d,1,n,rfl,hdz,done _ _ _ ⟨?_,⟨_,rfl⟩,rfl⟩⟩
    rw [all_take hd,List.map_append]
    rfl
   rintro ys σ' H' r ⟨rfl,_,rfl⟩ fr
   rw [List.take_of_length_le (by omega)]
   have s1:Same H' (upd H' r (.lst ((ds.map (btw 1 n)).map V.bl))):=Same.new fr
   refine ⟨r,ds.map (btw 1 n),rfl,SqL.of upd_same,_,rfl,?_⟩
   have ea:(ds.map (btw 1 n)).all id=ds.all (btw 1 n):=by rw [List.all_map]; rfl
   rw [ea]
   generalize upd H' r (.lst ((ds.map (btw 1 n)).map V.bl))=H1 at s1 ⊢
   cases hw:ds.all (btw 1 n) with
   | false =>
    have e:ispt n (.list ds)=false:=by
     show ((decide (ds≠[]) && ds.all (btw 1 n)) && _)=false
     rw [hw,Bool.and_false]; rfl
    rw [e] at k
    exact iteT (k H1 s1)
   | true =>
    refine iteF ?_
    obtain ⟨ed,bd⟩:=btwI hw
    have e:ispt n (.list ds)=(adjB (ds.map intI)).all id:=by
     show ((decide (ds≠[]) && ds.all (btw 1 n)) && _)=_
     rw [hw,decide_eq_true ne]; rfl
    rw [e] at k
    rw [ed] at rs
    have hu:=shs_of.DTs.toIntsI rs
    have Ll:(ds.map intI).length=ds.length:=List.length_map ..
    generalize ds.map intI=L at *
    subst hu
    have hl1:=s1 _ _ hl
    refine ⟨_,rfl,_,rfl,?_⟩
    dsimp only [tNoPart]
    refine ⟨_,rfl,l,_,rfl,SqL.of hl1,fun qd fqd=>?_⟩
    have cd:cutV (L.map V.int) (some 1) none=(L.drop 1).map V.int:=by rw [cutD9 (by decide) (by rw [List.length_map]; omega),List.map_drop]; rfl
    rw [cd]
    have s4:Same H1 (upd H1 qd (.lst ((L.drop 1).map V.int))):=Same.new fqd
    have hqd:upd H1 qd (.lst ((L.drop 1).map V.int)) qd=some (.lst ((L.drop 1).map V.int)):=upd_same
    generalize upd H1 qd (.lst ((L.drop 1).map V.int))=H4 at s4 hqd ⊢
    have a4:=s1.trans s4
    have al:(adjB L).length=L.length - 1:=by unfold adjB; rw [List.length_zipWith,List.length_drop]; omega
    refine ⟨l,qd,_,_,rfl,SqL.of (s4 _ _ hl1),SqL.of hqd,compZ (K:=K) (fun i zs σ' H'=>zs=((adjB L).take i).map V.bl∧(∃ v0 v1,σ'=[v0,v1])∧Same H4 H') (by rw [List.length_map]; omega) ⟨rfl,⟨none,none,rfl⟩,Same.refl _⟩ (fun i zs σ' H' _ z=>⟨SqL.of (z.2.2 _ _ (s4 _ _ hl1)),SqL.of (z.2.2 _ _ hqd)⟩) (fun i zs σ' H' z=>by rw [z.1,List.length_map,List.length_take]; omega) ?_ ?_ ?_⟩
    ·rintro i zs σ' H5 t v u R hv hu ⟨rfl,⟨w0,w1,rfl⟩,s5⟩ ft done
     obtain ⟨x,rfl,hx⟩:=mem_int hv
     obtain ⟨y,rfl,hy⟩:=mem_int hu
     refine ⟨t,_,rfl,SqT.of upd_same,rfl,_,_,rfl,_,_,rfl,rfl,?_⟩
     refine ⟨_,rfl,_,rfl,_,_,rfl,rfl,done _ _ _ ⟨?_,⟨_,_,rfl⟩,s5.trans (Same.new ft)⟩⟩
     have ha:(adjB L)[i]?=some (decide (x<y)):=by
      unfold adjB
      rw [List.getElem?_zipWith,hx,hy]
     rw [take_snoc ha,List.map_append]
     rfl
    ·intro x σ H R R' m q
     obtain ⟨a,xs,e1,h,hl,v,vs,e2,v',vs',e3,e4,q⟩:=q
     exact ⟨a,xs,e1,h,hl,v,vs,e2,v',vs',e3,e4,m _ _ q⟩
    ·rintro zs σ' H5 r2 ⟨rfl,_,s5⟩ fr2
     rw [List.take_of_length_le (by rw [al,List.length_map,List.length_map,List.length_drop]; omega)]
     exact ⟨r2,adjB L,rfl,SqL.of upd_same,k _ (a4.trans (s5.trans (Same.new fr2)))⟩
  | _=>exact iteT (k H (Same.refl H))
theorem sc_crosses:FnScope ["one", "other"] ["one", "other"] (defScope (top 41)):=⟨rfl,rfl,rfl,by decide +kernel,rfl,by decide +kernel,by decide +kernel⟩
theorem ok_croD {f:Addr} {fd:FuncData} (F:Fun K "crosses" "crosses" (top 41) f fd) (T:TCroD mg K) : FnOk P w K mg base CX0 1 f fd ["one", "other"] spCroD:=by
 refine F.ok sc_crosses (fun vs H Q E h=>?_) (fun cdv A outer s H vs Q E hr h=>?_)
 ·obtain ⟨l,m,L,M,rfl,_⟩:=h
  rfl
 ·obtain ⟨l,m,L,M,rfl,hl,hm,ll,ml,k⟩:=h
  refine ⟨_,(pss_one (ps_ret (pe_callB (call_any (K:=K) rfl rfl) rfl T.b_any (by decide +kernel) (pa_cons (pe_compN (N:=(["a", "c", "b", "d", "one", "other"] : List Str)) (ix:=([none,none,none,none,some 0,some 1] : List (Option Nat))) (comp_ok rfl rfl) rfl (pi_listK (K:=K) rfl (pv 0)) (fun _ _ _ _=>(pg_name (i:=0) (show List.Nodup (["a", "c", "b", "d", "one", "other"] : List Str) from by decide +kernel) rfl (Or.inl rfl))) (fun _ _ _ _=>pif_nil) (fun _ _ _ _=>(Chain.more rfl (pi_listK (K:=K) rfl (pv 4)) (pg_name (i:=1) (show List.Nodup (["a", "c", "b", "d", "one", "other"] : List Str) from by decide +kernel) rfl (Or.inl rfl)) pif_nil (fun _=>rfl) (Chain.more rfl (pi_listK (K:=K) rfl (pv 5)) (pg_name (i:=2) (show List.Nodup (["a", "c", "b", "d", "one", "other"] : List Str) from by decide +kernel) rfl (Or.inl rfl)) pif_nil (fun _=>rfl) (Chain.more rfl (pi_listK (K:=K) rfl (pv 5)) (pg_name (i:=3) (show List.Nodup (["a", "c", "b", "d", "one", "other"] : List Str) from by decide +kernel) rfl (Or.inl rfl)) pif_nil (fun _=>rfl) (Chain.last rfl (pe_chain3 op_lt op_lt op_lt (pv 0) (pv 2) (pv 1) (pv 3)))))))) pa_nil)))),?_⟩
  have big:(10000000:Nat)≤sizeLine:=by decide
  have Ll:(L.map V.int).length=L.length:=List.length_map ..
  have Ml:(M.map V.int).length=M.length:=List.length_map ..
  refine ⟨_,rfl,l,rfl,⟨_,SqL.of hl⟩,wl_list (K:=K) (a:=l) (xs:=L.map V.int) (fun i ys σ' H'=>(∃ v0 v1 v2 v3,σ'=[v0,v1,v2,v3,some (.ref l),some (.ref m)])∧(∃ bs:List Bool,ys=bs.map V.bl∧bs.length≤i * 1728∧(bs.any id=true↔∃ a∈L.take i,∃ c∈L,∃ b∈M,∃ d∈M,a<b∧b<c∧c<d))∧H'=H) ⟨⟨_,_,_,_,rfl⟩,⟨[],rfl,Nat.zero_le _,by rw [ex0I]; simp⟩,rfl⟩ (fun i ys σ' H' _ z=>by rw [z.2.2]; exact SqL.of hl) ?_ ?_⟩
  ·rintro i ys σ' H' x S hx ⟨⟨v0,v1,v2,v3,rfl⟩,⟨b0,rfl,cl0,an0⟩,rfl⟩ done
   obtain ⟨a,rfl,ha⟩:=mem_int hx
   have il:=(List.getElem?_eq_some_iff.mp ha).1
   dsimp only [gName,tTrue]
   rw [if_pos rfl]
   refine ⟨_,rfl,l,rfl,⟨_,SqL.of hl⟩,wl_list (K:=K) (a:=l) (xs:=L.map V.int) (fun j ys σ' H2=>(∃ v1 v2 v3,σ'=[some (.int a),v1,v2,v3,some (.ref l),some (.ref m)])∧(∃ bs:List Bool,ys=bs.map V.bl∧bs.length≤i * 1728+j * 144∧(bs.any id=true↔b0.any id=true∨∃ c∈L.take j,∃ b∈M,∃ d∈M,a<b∧b<c∧c<d))∧H2=H') ⟨⟨_,_,_,rfl⟩,⟨b0,rfl,by omega,by rw [ex0I,or_false]⟩,rfl⟩ (fun j ys σ' H2 _ z=>by rw [z.2.2]; exact SqL.of hl) ?_ ?_⟩
   ·rintro j ys σ' H2 x S2 hx2 ⟨⟨v1,v2,v3,rfl⟩,⟨b1,rfl,cl1,an1⟩,rfl⟩ done2
    obtain ⟨c,rfl,hc⟩:=mem_int hx2
    have jl:=(List.getElem?_eq_some_iff.mp hc).1
    dsimp only [gName,tTrue]
    rw [if_pos rfl]
    refine ⟨_,rfl,m,rfl,⟨_,SqL.of hm⟩,wl_list (K:=K) (a:=m) (xs:=M.map V.int) (fun p ys σ' H3=>(∃ v2 v3,σ'=[some (.int a),some (.int c),v2,v3,some (.ref l),some (.ref m)])∧(∃ bs:List Bool,ys=bs.map V.bl∧bs.length≤i * 1728+j * 144+p * 12∧(bs.any id=true↔b1.any id=true∨∃ b∈M.take p,∃ d∈M,a<b∧b<c∧c<d))∧H3=H2) ⟨⟨_,_,rfl⟩,⟨b1,rfl,by omega,by rw [ex0I,or_false]⟩,rfl⟩ (fun p ys σ' H3 _ z=>by rw [z.2.2]; exact SqL.of hm) ?_ ?_⟩
    ·rintro p ys σ' H3 x S3 hx3 ⟨⟨v2,v3,rfl⟩,⟨b2,rfl,cl2,an2⟩,rfl⟩ done3
     obtain ⟨b,rfl,hb⟩:=mem_int hx3
     have pl:=(List.getElem?_eq_some_iff.mp hb).1
     dsimp only [gName,tTrue]
     rw [if_pos rfl]
     refine ⟨_,rfl,m,rfl,⟨_,SqL.of hm⟩,wl_list (K:=K) (a:=m) (xs:=M.map V.int) (fun t ys σ' H4=>(∃ v3,σ'=[some (.int a),some (.int c),some (.int b),v3,some (.ref l),some (.ref m)])∧(∃ bs:List Bool,ys=bs.map V.bl∧bs.length≤i * 1728+j * 144+p * 12+t∧(bs.any id=true↔b2.any id=true∨∃ d∈M.take t,a<b∧b<c∧c<d))∧H4=H3) ⟨⟨_,rfl⟩,⟨b2,rfl,by omega,by rw [ex0I,or_false]⟩,rfl⟩ (fun t ys σ' H4 _ z=>by rw [z.2.2]; exact SqL.of hm) ?_ ?_⟩
     ·rintro t ys σ' H4 x S4 hx4 ⟨⟨v3,rfl⟩,⟨b3,rfl,cl3,an3⟩,rfl⟩ done4
      obtain ⟨d,rfl,hd⟩:=mem_int hx4
      have tl:=(List.getElem?_eq_some_iff.mp hd).1
      dsimp only [gName,tTrue]
      rw [if_pos rfl]
      have fin : ∀ q:Bool,(q=true↔a<b∧b<c∧c<d)→S4 (b3.map V.bl++[V.bl q]) [some (.int a),some (.int c),some (.int b),some (.int d),some (.ref l),some (.ref m)] H4:=fun q hq=>by
       refine done4 _ _ _ ⟨⟨_,rfl⟩,⟨b3++[q],by rw [List.map_append]; rfl,by rw [List.length_append]; show _+1≤_; omega,?_⟩,rfl⟩
       rw [exTI hd,List.any_append,Bool.or_eq_true,an3,or_assoc,← hq]
       simp
      refine ⟨by rw [List.length_map]; omega,_,rfl,_,rfl,_,_,rfl,rfl,_,rfl,?_⟩
      by_cases q1:a<b
      ·refine iteP (decide_eq_true q1) ⟨_,rfl,_,_,rfl,rfl,_,rfl,?_⟩
       by_cases q2:b<c
       ·refine iteP (decide_eq_true q2) ⟨_,rfl,_,_,rfl,rfl,?_⟩
        exact fin (decide (c<d)) (by rw [decide_eq_true_eq]; exact ⟨fun z=>⟨q1,q2,z⟩,fun z=>z.2.2⟩)
       ·exact iteE (decide_eq_false q2) (fin false ⟨fun z=>(by cases z),fun z=>absurd z.2.1 q2⟩)
      ·exact iteE (decide_eq_false q1) (fin false ⟨fun z=>(by cases z),fun z=>absurd z.1 q1⟩)
     ·rintro ys σ' H4 ⟨⟨v3,rfl⟩,⟨b3,rfl,cl3,an3⟩,rfl⟩
      rw [exAI (by omega)] at an3
      exact done3 _ _ _ ⟨⟨_,_,rfl⟩,⟨b3,rfl,by omega,by rw [exTI hb,an3,an2,or_assoc]⟩,rfl⟩
    ·rintro ys σ' H3 ⟨⟨v2,v3,rfl⟩,⟨b2,rfl,cl2,an2⟩,rfl⟩
     rw [exAI (by omega)] at an2
     exact done2 _ _ _ ⟨⟨_,_,_,rfl⟩,⟨b2,rfl,by omega,by rw [exTI hc,an2,an1,or_assoc]⟩,rfl⟩
   ·rintro ys σ' H2 ⟨⟨v1,v2,v3,rfl⟩,⟨b1,rfl,cl1,an1⟩,rfl⟩
    rw [exAI (by omega)] at an1
    exact done _ _ _ ⟨⟨_,_,_,_,rfl⟩,⟨b1,rfl,by omega,by rw [exTI ha,an1,an0]⟩,rfl⟩
  ·rintro ys σ' H' ⟨_,⟨bs,rfl,cl,an⟩,rfl⟩
   rw [exAI (by omega)] at an
   refine ⟨by rw [List.length_map]; omega,fun p fp=>?_⟩
   refine ⟨p,bs,rfl,SqL.of upd_same,?_⟩
   exact k _ _ an (Same.new fp)
theorem sc_is_crossed:FnScope ["sharing"] ["sharing"] (defScope (top 42)):=⟨rfl,rfl,rfl,by decide +kernel,rfl,by decide +kernel,by decide +kernel⟩
theorem ok_icrD {f:Addr} {fd:FuncData} (F:Fun K "is_crossed" "is_crossed" (top 42) f fd) (T:TIcrD P w K mg base) : FnOk P w K mg base CX0 2 f fd ["sharing"] spIcrD:=by
 refine F.ok sc_is_crossed (fun vs H Q E h=>?_) (fun cdv A outer s H vs Q E hr h=>?_)
 ·obtain ⟨l,ws,Ls,rfl,_⟩:=h
  rfl
 ·obtain ⟨l,ws,Ls,rfl,hl,xl,ll,lb,k⟩:=h
  refine ⟨_,(pss_one (ps_ret (pe_callB (call_any (K:=K) rfl rfl) rfl T.b_any (by decide +kernel) (pa_cons (pe_compN (N:=(["one", "other", "sharing"] : List Str)) (ix:=([none,none,some 0] : List (Option Nat))) (comp_ok rfl rfl) rfl (pi_listK (K:=K) rfl (pv 0)) (fun _ _ _ _=>(pg_name (i:=0) (show List.Nodup (["one", "other", "sharing"] : List Str) from by decide +kernel) rfl (Or.inl rfl))) (fun _ _ _ _=>pif_nil) (fun _ _ _ _=>(Chain.more rfl (pi_listK (K:=K) rfl (pv 2)) (pg_name (i:=1) (show List.Nodup (["one", "other", "sharing"] : List Str) from by decide +kernel) rfl (Or.inl rfl)) (pif_one (pt_cmpR (op_neDI (K:=K) rfl hr.units) (pv 0) (pv 1) (nomark _))) (fun _=>rfl) (Chain.last rfl (pe_callF T.f_crosses (hr.mono (by first | decide | omega)) rfl (pa_cons (pv 0) (pa_cons (pv 1) pa_nil))))))) pa_nil)))),?_⟩
  have big:(10000000:Nat)≤sizeLine:=by decide
  have wl:=xl.length
  refine ⟨_,rfl,l,rfl,⟨_,SqL.of hl⟩,wl_list (K:=K) (a:=l) (xs:=ws) (fun i ys σ' H'=>(∃ v0 v1,σ'=[v0,v1,some (.ref l)])∧(∃ bs:List Bool,ys=bs.map V.bl∧bs.length≤i * 12∧(bs.any id=true↔∃ L∈Ls.take i,∃ M∈Ls,L≠M∧Crs L M))∧Same H H') ⟨⟨_,_,rfl⟩,⟨[],rfl,Nat.zero_le _,by rw [ex0I]; simp⟩,Same.refl _⟩ (fun i ys σ' H' _ z=>SqL.of (z.2.2 _ _ hl)) ?_ ?_⟩
  ·rintro i ys σ' H1 x S hx ⟨⟨v0,v1,rfl⟩,⟨b0,rfl,cl0,an0⟩,s1⟩ done
   obtain ⟨b,L,rfl,hb,hL⟩:=(xl.keep s1).get hx
   have il:=(List.getElem?_eq_some_iff.mp hx).1
   dsimp only [gName,tTrue]
   rw [if_pos rfl]
   refine ⟨_,rfl,l,rfl,⟨_,SqL.of (s1 _ _ hl)⟩,wl_list (K:=K) (a:=l) (xs:=ws) (fun j ys σ' H2=>(∃ v1,σ'=[some (.ref b),v1,some (.ref l)])∧(∃ bs:List Bool,ys=bs.map V.bl∧bs.length≤i * 12+j∧(bs.any id=true↔b0.any id=true∨∃ M∈Ls.take j,L≠M∧Crs L M))∧Same H1 H2) ⟨⟨_,rfl⟩,⟨b0,rfl,by omega,by rw [ex0I,or_false]⟩,Same.refl _⟩ (fun j ys σ' H2 _ z=>SqL.of (z.2.2 _ _ (s1 _ _ hl))) ?_ ?_⟩
   ·rintro j ys σ' H2 x S2 hx2 ⟨⟨v1,rfl⟩,⟨b1,rfl,cl1,an1⟩,s2⟩ done2
    obtain ⟨b2,M,rfl,hb2,hM⟩:=((xl.keep s1).keep s2).get hx2
    have jl:=(List.getElem?_eq_some_iff.mp hx2).1
    refine ⟨_,rfl,_,rfl,neLI (s2 _ _ hb) hb2 ⟨_,rfl,?_⟩⟩
    by_cases e:L=M
    ·refine iteE (by rw [decide_eq_true e]; rfl) (done2 _ _ _ ⟨⟨_,rfl⟩,⟨b1,rfl,by omega,?_⟩,s2⟩)
     rw [exTI hM,an1]
     constructor
     ·rintro (h | h)
      ·exact .inl h
      ·exact .inr (.inl h)
     ·rintro (h | h | h)
      ·exact .inl h
      ·exact .inr h
      ·exact absurd e h.1
    ·refine iteP (by rw [decide_eq_false e]; rfl) ⟨by rw [List.length_map]; omega,_,rfl,_,rfl,b,b2,L,M,rfl,s2 _ _ hb,hb2,lb L (List.mem_of_getElem? hL),lb M (List.mem_of_getElem? hM),fun q H3 hq s3=>done2 _ _ _ ⟨⟨_,rfl⟩,⟨b1++[q],by rw [List.map_append]; rfl,by rw [List.length_append]; show _+1≤_; omega,?_⟩,s2.trans s3⟩⟩
     rw [exTI hM,List.any_append,Bool.or_eq_true,an1,or_assoc]
     have:([q].any id=true)↔(L≠M∧Crs L M):=by
      rw [← show Crs L M↔(L≠M∧Crs L M) from ⟨fun z=>⟨e,z⟩,fun z=>z.2⟩,← hq]; simp
     rw [this]
   ·rintro ys σ' H2 ⟨⟨v1,rfl⟩,⟨b1,rfl,cl1,an1⟩,s2⟩
    rw [exAI (by omega)] at an1
    exact done _ _ _ ⟨⟨_,_,rfl⟩,⟨b1,rfl,by omega,by rw [exTI hL,an1,an0]⟩,s1.trans s2⟩
  ·rintro ys σ' H' ⟨_,⟨bs,rfl,cl,an⟩,s1⟩
   rw [exAI (by omega)] at an
   refine ⟨by rw [List.length_map]; omega,fun p fp=>?_⟩
   refine ⟨p,bs,rfl,SqL.of upd_same,?_⟩
   refine k _ _ ?_ (s1.trans (Same.new fp))
   rw [an]
   constructor
   ·rintro ⟨L,hL,M,hM,ne,a,ha,c,hc,b,hb,d,hd,q1,q2,q3⟩ nx
    exact ne (nx L hL M hM a b c d ha hc hb hd q1 q2 q3)
   ·intro nx
    apply Classical.byContradiction
    intro no
    refine nx fun L hL M hM a b c d ha hc hb hd q1 q2 q3=>?_
    apply Classical.byContradiction
    intro e
    exact no ⟨L,hL,M,hM,e,a,ha,c,hc,b,hb,d,hd,q1,q2,q3⟩
theorem sc_is_sharing:FnScope ["n", "thing"] ["n", "thing"] (defScope (top 43)):=⟨rfl,rfl,rfl,by decide +kernel,rfl,by decide +kernel,by decide +kernel⟩
theorem ok_issD {f:Addr} {fd:FuncData} (F:Fun K "is_sharing" "is_sharing" (top 43) f fd) (T:TIssD P w K mg base) : FnOk P w K mg base CX0 4 f fd ["n", "thing"] spIssD:=by
 refine F.ok sc_is_sharing (fun vs H Q E h=>?_) (fun cdv A outer s H vs Q E hr h=>?_)
 ·obtain ⟨v,P,d,n,rfl,_⟩:=h
  rfl
 ·obtain ⟨v,P,d,n,rfl,hd,few,n1,n12,k⟩:=h
  refine ⟨_,(pss_cons (ps_if (PW.pt (pw_or (pt_not (pt_val (pe_callB (call_isiK (K:=K) rfl) rfl T.b_isinstance (by decide +kernel) (pa_cons (pv 1) (pa_cons (pe_bltn (v:=.ty "list") rfl T.b_list (by decide +kernel) rfl) pa_nil))))) (pw_or1 (pt_not (pt_val (pe_callB (call_allK (K:=K) rfl rfl) rfl T.b_all (by decide +kernel) (pa_cons (pe_comp (N:=(["part", "n"] : List Str)) (ix:=([none,some 0] : List (Option Nat))) (comp_ok rfl rfl) rfl (pi_listK (K:=K) rfl (pv 1)) (fun _ _ _ _=>(pg_name (i:=0) (show List.Nodup (["part", "n"] : List Str) from by decide +kernel) rfl (Or.inl rfl))) (fun _ _ _ _=>pif_nil) (fun _ _ _ _=>(pe_callF T.f_is_part (hr.mono (by first | decide | omega)) rfl (pa_cons (pv 1) (pa_cons (pv 0) pa_nil))))) pa_nil))))))) (pss_one (ps_ret pe_bl)) pss_nil)
   (pss_cons (ps_if (pt_cmpR (op_neD hr.units) (pe_callB (call_sorted (K:=K) rfl) rfl T.b_sorted (by decide +kernel) (pa_cons (pe_comp2 (N:=(["part", "number"] : List Str)) (ix:=([none,none] : List (Option Nat))) (comp_ok rfl rfl) rfl (pi_listK (K:=K) rfl (pv 1)) (fun _ _ _ _=>(pg_name (i:=0) (show List.Nodup (["part", "number"] : List Str) from by decide +kernel) rfl (Or.inl rfl))) (fun _ _ _ _=>(pi_listK (K:=K) rfl (pv 0))) (fun _ _ _ _=>(pg_name (i:=1) (show List.Nodup (["part", "number"] : List Str) from by decide +kernel) rfl (Or.inl rfl))) (fun _ _ _ _=>(pv 1))) pa_nil)) (pe_callTy (call_list_rng rfl) rfl T.b_list (by decide +kernel) (pa_cons (pe_callTy call_range rfl T.b_range (by decide +kernel) (pa_cons pe_int (pa_cons (pe_op op_add (pv 0) pe_int) pa_nil))) pa_nil)) (nomark _)) (pss_one (ps_ret pe_bl)) pss_nil)
   (pss_one (ps_ret (pe_and (pe_cmpR (op_eqD hr.units) (pv 1) (pe_callB (call_sortedLL (K:=K) rfl hr.units) rfl T.b_sorted (by decide +kernel) (pa_cons (pv 1) pa_nil)) (nomark _)) (pe_one (pe_not (pe_callF T.f_is_crossed (hr.mono (by first | decide | omega)) rfl (pa_cons (pv 1) pa_nil))))))))),?_⟩
  have big:(10000000:Nat)≤sizeLine:=by decide
  have z200:(1000:Int)<2 ^ 200:=by decide
  have no : ∀ H',¬ IsSh n d→Same H H'→Q (.bl false) H':=fun H' z s=>k false H' ⟨fun q=>(by cases q),fun q=>absurd q z⟩ s
  refine ⟨_,rfl,_,_, "list", _,rfl,hd.ty,kit_list K hd,_,rfl,?_⟩
  cases hd with
  | @lst l ws ds hl pl rs =>
   refine iteF ?_
   obtain ⟨dl,dl2⟩:=few ds rfl
   have wl:=rs.length
   refine ⟨_,rfl,l,rfl,⟨_,SqL.of hl⟩,compL (K:=K) (a:=l) (xs:=ws) (k:=0) (fun i ys σ' H'=>ys=((ds.take i).map (ispt n)).map V.bl∧(∃ v,σ'=[v,some (.int n)])∧Same H H') (by omega) ⟨rfl,⟨none,rfl⟩,Same.refl _⟩ (fun i ys σ' H' _ q=>SqL.of (q.2.2 _ _ hl)) (fun i ys σ' H' q=>by rw [q.1,List.length_map,List.length_map,List.length_take]; omega) ?_ ?_⟩
   ·rintro i ys σ' H1 z R hz ⟨rfl,⟨v,rfl⟩,s1⟩ done
    obtain ⟨e,he,hez⟩:=rs.get hz
    refine ⟨_,rfl,_,rfl,z,P,e,n,rfl,DT.same hez s1,fun es hes=>by have:=mem_sumI (List.mem_of_getElem? he); rw [hes] at this; have:es.length≤_:=this; omega,fun H2 s2=>done _ _ _ ⟨?_,⟨_,rfl⟩,s1.trans s2⟩⟩
    rw [all_take he,List.map_append]
    rfl
   rintro ys σ' H1 r ⟨rfl,_,s1⟩ fr
   rw [List.take_of_length_le (by omega)]
   have s2:=s1.trans (Same.new (o:=.lst ((ds.map (ispt n)).map V.bl)) fr)
   refine ⟨r,ds.map (ispt n),rfl,SqL.of upd_same,_,rfl,?_⟩
   have ea:(ds.map (ispt n)).all id=ds.all (ispt n):=by rw [List.all_map]; rfl
   rw [ea]
   generalize upd H1 r (.lst ((ds.map (ispt n)).map V.bl))=H2 at s2 ⊢
   cases hw:ds.all (ispt n) with
   | false =>
    refine iteT (no H2 (fun ⟨Ls,e,g⟩=>?_) s2)
    injection e with e
    rw [e,List.all_map] at hw
    have:Ls.all ((ispt n) ∘ fun L=>PyData.list (L.map PyData.int))=true:=List.all_eq_true.mpr fun L hL=>ispt_of (g.cv.1 L hL) (g.rise L hL) fun x hx=>by
     have:=mem_ivl.mp (g.cv.2.mem_iff.mp (List.mem_flatten.mpr ⟨L,hL,hx⟩))
     omega
    rw [this] at hw
    cases hw
   | true =>
    refine iteF ?_
    obtain ⟨Ls,e,xl0,pr⟩:=shs_of rs hw
    have Ll:Ls.length=ds.length:=by rw [e,List.length_map]
    have uniq : ∀ Ms,PyData.list ds=shD Ms→Ms=Ls:=fun Ms h=>by
     injection h with h
     rw [e] at h
     have inj : ∀ a b:List Int,PyData.list (a.map PyData.int)=PyData.list (b.map PyData.int)→a=b:=fun a b h=>by
      injection h with h
      have:=congrArg (List.map intI) h
      rwa [map_intI,map_intI] at this
     exact ((List.map_inj_right inj).mp h).symm
    have yes:Gsd n Ls→IsSh n (.list ds):=fun g=>⟨Ls,by rw [e]; rfl,g⟩
    have neg : ¬ Gsd n Ls→¬ IsSh n (.list ds):=fun z ⟨Ms,h,g⟩=>z (by rw [← uniq Ms h]; exact g)
    have bd : ∀ L∈Ls,L.length≤12:=fun L hL=>by
     have:=rise_len (by omega) (pr L hL).2.1 (pr L hL).2.2
     omega
    have flb : ∀ k,((Ls.take k).flatten).length≤12 * k:=fun k=>by
     rw [List.length_flatten]
     have : ∀ Ms:List (List Int),(∀ L∈Ms,L.length≤12)→(Ms.map List.length).sum≤12 * Ms.length:=by
      intro Ms
      induction Ms with
      | nil=>intro _; exact Nat.zero_le _
      | cons M Ms ih =>
       intro h
       have:=ih fun L hL=>h L (List.mem_cons_of_mem _ hL)
       have:=h M List.mem_cons_self
       rw [List.map_cons,List.sum_cons,List.length_cons]; omega
     have h1:=this (Ls.take k) fun L hL=>bd L (List.mem_of_mem_take hL)
     have h2:(Ls.take k).length≤k:=by rw [List.length_take]; omega
     omega
    have hl2:=s2 _ _ hl
    have xl2:=xl0.keep s2
    refine ⟨_,rfl,l,rfl,⟨_,SqL.of hl2⟩,comp2L (K:=K) (a:=l) (xs:=ws) (k:=0) (fun i ys σ' H'=>(∃ v0 v1,σ'=[v0,v1])∧H'=H2∧ys=(Ls.take i).flatten.map V.int∧i≤60) ⟨⟨none,none,rfl⟩,rfl,rfl,Nat.zero_le _⟩ (fun i ys σ' H' _ q=>by rw [q.2.1]; exact SqL.of hl2) (fun i ys σ' H' q=>by rw [q.2.2.1,List.length_map]; have:=flb i; have:=q.2.2.2; omega) ?_ ?_⟩
    ·rintro i ys σ' H' x R hx ⟨⟨v0,v1,rfl⟩,rfl,rfl,l2⟩ done
     obtain ⟨a,L,rfl,ha,hL⟩:=xl2.get hx
     have il:=(List.getElem?_eq_some_iff.mp hx).1
     have et:(Ls.take (i+1)).flatten=(Ls.take i).flatten++L:=by rw [take_snoc hL,List.flatten_append,List.flatten_cons,List.flatten_nil,List.append_nil]
     have bL:=bd L (List.mem_of_getElem? hL)
     have bi:=flb i
     refine ⟨_,rfl,a,rfl,⟨_,SqL.of ha⟩,?_⟩
     refine inner2L (K:=K) (a:=a) (xs:=L.map V.int) (k:=1) (fun j ys' σ'' H''=>(∃ v1,σ''=[some (.ref a),v1])∧H''=H'∧ys'=((Ls.take i).flatten++L.take j).map V.int) ⟨⟨_,rfl⟩,rfl,by rw [List.take_zero,List.append_nil]⟩ (fun j ys' σ'' H'' _ q=>by rw [q.2.1]; exact SqL.of ha) (fun j ys' σ'' H'' q=>by rw [q.2.2,List.length_map,List.length_append,List.length_take]; omega) ?_ ?_
     ·rintro j ys' σ'' H'' y S hy ⟨⟨v1,rfl⟩,rfl,rfl⟩ fin
      obtain ⟨z,rfl,hz⟩:=mem_int hy
      refine ⟨_,rfl,fin _ _ _ ⟨⟨_,rfl⟩,rfl,?_⟩⟩
      rw [take_snoc hz,← List.append_assoc,List.map_append (l₂:=[z])]
      rfl
     ·rintro ys' σ'' H'' ⟨⟨v1,rfl⟩,rfl,rfl⟩
      rw [List.length_map,List.take_length,← et]
      exact done _ _ _ ⟨⟨_,_,rfl⟩,rfl,rfl,by omega⟩
    rintro ys σ' H' q ⟨_,rfl,rfl,_⟩ fq
    rw [List.take_of_length_le (by omega)]
    have fl:Ls.flatten.length≤60:=by
     rw [e,List.map_map] at dl2
     have e2:(lenI ∘ fun L:List Int=>PyData.list (L.map PyData.int))=List.length:=funext fun L=>List.length_map ..
     rw [e2,← List.length_flatten] at dl2
     exact dl2
    have s3:Same H' (upd H' q (.lst (Ls.flatten.map V.int))):=Same.new fq
    have h3:upd H' q (.lst (Ls.flatten.map V.int)) q=some (.lst (Ls.flatten.map V.int)):=upd_same
    generalize upd H' q (.lst (Ls.flatten.map V.int))=H3 at s3 h3 ⊢
    refine ⟨q,Ls.flatten,rfl,SqL.of h3,by omega,fun lc r' flc pm pw=>?_⟩
    have s4:Same H3 (upd H3 lc (.lst (r'.map V.int))):=Same.new flc
    have h4:upd H3 lc (.lst (r'.map V.int)) lc=some (.lst (r'.map V.int)):=upd_same
    generalize upd H3 lc (.lst (r'.map V.int))=H4 at s4 h4 ⊢
    refine ⟨_,rfl,_,_,rfl,rfl,.inr ⟨_,_,rfl,fun rg hrg=>⟨rg,_,_,rfl,upd_same,by omega,by omega,by omega,by omega,fun ll hll=>?_⟩⟩⟩
    have s5:=(Same.new (o:=.rng 1 (n+1)) hrg).trans (Same.new (o:=.lst ((ivl 1 (n+1)).map V.int)) hll)
    refine eqL (s5 _ _ h4) upd_same ⟨_,rfl,?_⟩
    have a5:=s2.trans (s3.trans (s4.trans s5))
    generalize upd (upd H4 rg (.rng 1 (n+1))) ll (.lst ((ivl 1 (n+1)).map V.int))=H5 at s5 a5 ⊢
    by_cases er:r'=ivl 1 (n+1)
    ·refine iteE (by rw [decide_eq_true er]; rfl) ?_
     have cv:Cov n Ls:=⟨fun L hL=>(pr L hL).1,by rw [← er]; exact pm.symm⟩
     have hl5:=a5 _ _ hl
     have xl5:=xl0.keep a5
     refine ⟨_,rfl,_,rfl,?_⟩
     dsimp only [tNil]
     refine sortLB hl5 xl5 (by omega) fun l9 us Ms H9 f9 h9 x9 p9 s9 uq so _ _=>?_
     refine eqLq9 (s9 _ _ hl5) (xl5.keep s9) h9 x9 ⟨_,rfl,?_⟩
     have a9:=a5.trans s9
     by_cases em:Ls=Ms
     ·refine iteP (decide_eq_true em) ?_
      have sz:Ls.length≤12:=by
       have h1:Ls.flatten.length=n.toNat:=by rw [cv.2.length_eq,ivl_length]; omega
       have : ∀ Ms:List (List Int),(∀ L∈Ms,L≠[])→Ms.length≤Ms.flatten.length:=by
        intro Ms
        induction Ms with
        | nil=>intro _; exact Nat.zero_le _
        | cons M Ms ih =>
         intro h
         have:=ih fun L hL=>h L (List.mem_cons_of_mem _ hL)
         have:=List.length_pos_iff.mpr (h M List.mem_cons_self)
         rw [List.flatten_cons,List.length_append,List.length_cons]; omega
       have:=this Ls cv.1
       omega
      refine ⟨_,rfl,l,ws,Ls,rfl,a9 _ _ hl,xl0.keep a9,sz,bd,fun b H10 hb s10=>⟨_,rfl,k _ H10 ?_ (a9.trans s10)⟩⟩
      cases b with
      | true=>exact ⟨fun z=>(by cases z),fun z=>absurd z (neg fun g=>(hb.mp rfl) g.nx)⟩
      | false =>
       refine ⟨fun _=>yes ⟨cv,fun L hL=>(pr L hL).2.1,?_,by rw [em]; exact so⟩,fun _=>rfl⟩
       apply Classical.byContradiction
       intro z
       exact absurd (hb.mpr z) Bool.false_ne_true
     ·refine iteE (decide_eq_false em) ?_
      exact no H9 (neg fun g=>em (uq Ls (List.Perm.refl _) g.srt).symm) a9
    ·refine iteP (by rw [decide_eq_false er]; rfl) ?_
     refine no H5 (neg fun g=>er ?_) a5
     have p2:r'.Perm (ivl 1 (n+1)):=pm.trans g.cv.2
     have nd:r'.Nodup:=p2.nodup_iff.mpr (ivl_nodup3 n)
     exact rise_uniq ((pw.and nd).imp fun ⟨a,b⟩=>by omega) (ivl_riseS 1 (n+1)) fun x=>p2.mem_iff
  | _=>exact iteT (no H (fun ⟨Ls,e,_⟩=>by cases e) (Same.refl H))
end
end Sw
namespace L2
open PySem PySem.Spec PyProof.Rows
section
variable {prog:Program} {w:World} {A:Around} {R:Result→Shared→Prop} {I:Addr} {fp wr:List Addr} {n:Nat} {P:Nat→Value→Prop} {St:Nat→Heap→Prop}
theorem sum2_loop (W:Walks prog w A.in1 I fp wr n P St) (ads:Nat→Addr) (its acc:Nat→List Value) (hacc : ∀ i,i<n→acc (i+1)=acc i++its i) (hval : ∀ i v,P i v→v=.ref (ads i)) (S:Addr) (hSf:S∉fp) (hb : ∀ i,i<n→ads i∉wr∧ads i≠S) (hsz : ∀ i,i≤n→(acc i).length≤sizeLine) (alive : ∀ i h,St i h→∀ b∈fp,b<h.objs.size) (z:Nat) (zS:z≤S) :
  ∀ (k i:Nat) (s:Shared) (T:Addr) (c cT:Nat),n - i=k→i≤n→St i s.heap→s.heap.get? S=some { cls:=.type "list", dict:=none,data:=.seq #[.ref T] c,slots:=#[] }→T∉wr→T≠S→s.heap.get? T=some { cls:=.type "list", data:=.seq (acc i).toArray cT } →
  (∀ j,j<n→∃ c,s.heap.get? (ads j)=some { cls:=.type "list", data:=.seq (its j).toArray c }) →
  (∀ h' tk T' c',(∀ b o,b∉wr→b≠S→s.heap.get? b=some o→h'.get? b=some o)→(T'=T∨z≤T')→h'.get? T'=some { cls:=.type "list", data:=.seq (acc n).toArray c' }→R (.ok (.ret (.ref T'))) { s with heap:=h',toks:=tk }) →
  codeAny (model prog w) A (.builtin "sum.loop" ⟨[.ref I,.ref S,rawInt 2,rawInt 0],[]⟩) R s:=by
 have hSw:S∉wr:=fun h=>hSf (W.sub _ h)
 intro k
 induction k with
 | zero =>
  intro i s T c cT hk hi hst hS hTw hTS hT hB hR
  have hin:i=n:=by omega
  subst hin
  refine codeAny_builtin F.entry_sum_loop ?_
  rw [Around.under_plainId F.plain_sum_loop _]
  show wpAny _ A.in1 (seqItems? (.ref S) >>= _) _ _ s
  refine wpAny_bind (wpAny_seqItems hS rfl ?_)
  show wpAny _ A.in1 (tryCatch (pyNext (.ref I)) _ >>= _) _ _ s
  refine wpAny_bind (wpAny_tryCatch (W.done s _ _ hst fun h' tk hk'=>?_))
  exact wpAny_pure (hR h' tk T cT (fun b o hbw _ e=>hk' b o hbw e) (.inl rfl) (hk' T _ hTw hT))
 | succ k ih =>
  intro i s T c cT hk hi hst hS hTw hTS hT hB hR
  have hlt:i<n:=by omega
  refine codeAny_builtin F.entry_sum_loop ?_
  rw [Around.under_plainId F.plain_sum_loop _]
  show wpAny _ A.in1 (seqItems? (.ref S) >>= _) _ _ s
  refine wpAny_bind (wpAny_seqItems hS rfl ?_)
  show wpAny _ A.in1 (tryCatch (pyNext (.ref I)) _ >>= _) _ _ s
  refine wpAny_bind (wpAny_tryCatch (W.item i s _ _ hlt hst fun v h' tk hP hst' hk'=>?_))
  obtain rfl:=hval i v hP
  have hS':=hk' S _ hSw hS
  have hT':=hk' T _ hTw hT
  obtain ⟨cb,hBi⟩:=hB i hlt
  have hBi':=hk' _ _ (hb i hlt).1 hBi
  have len:=hsz (i+1) hlt
  rw [hacc i hlt,List.length_append] at len
  show wpAny _ A.in1 ((holding [Value.ref (ads i)] (binaryOp .Add (.ref T) (.ref (ads i)))).attempt >>= _) _ _ _
  refine wpAny_bind (wpAny_attempt (wpAny_holding (PySem.P.add_list hT' hBi' ?_ (by rw [List.size_toArray,List.size_toArray]; omega))))
  have ea:(acc i).toArray++(its i).toArray=(acc (i+1)).toArray:=by rw [hacc i hlt]; simp
  rw [ea]
  have nS:S<h'.objs.size:=Heap.lt_size hS'
  have nT : ∀ b o,h'.get? b=some o→b≠h'.objs.size:=fun b o e=>Nat.ne_of_lt (Heap.lt_size e)
  show wpAny _ A.in1 (updateSeq S (fun _=>#[.ref h'.objs.size]) >>= _) _ _ _
  refine wpAny_bind ?_
  have hS2:(h'.push { cls:=.type "list", data:=.seq (acc (i+1)).toArray }).get? S=_:=Heap.get?_push_of_some _ hS'
  refine wpAny_updateSeq hS2 rfl ?_
  have hS3:=Heap.get?_update_self (Obj.mapSeq fun _=>#[Value.ref h'.objs.size]) hS2 rfl
  refine wpAny_bind (wpAny_letGo ?_)
  refine wpAny_bind ?_
  have kp : ∀ b o,b≠S→h'.get? b=some o→(((h'.push { cls:=.type "list", data:=.seq (acc (i+1)).toArray }).update S (Obj.mapSeq fun _=>#[Value.ref h'.objs.size])).update S (Obj.mapSeq fun _=>#[Value.ref h'.objs.size])).get? b=some o:=fun b o hbS e =>
   (Heap.get?_update_other _ _ (Ne.symm hbS)).trans ((Heap.get?_update_other _ _ (Ne.symm hbS)).trans (Heap.get?_push_of_some _ e))
  have hN:(((h'.push { cls:=.type "list", data:=.seq (acc (i+1)).toArray }).update S (Obj.mapSeq fun _=>#[Value.ref h'.objs.size])).update S (Obj.mapSeq fun _=>#[Value.ref h'.objs.size])).get? h'.objs.size=some { cls:=.type "list", data:=.seq (acc (i+1)).toArray } :=
   (Heap.get?_update_other _ _ (Nat.ne_of_lt nS)).trans ((Heap.get?_update_other _ _ (Nat.ne_of_lt nS)).trans (Heap.get?_push_size _ rfl))
  refine wpAny_updateSeq hS3 rfl (wpAny_pure ⟨plainId_quiet F.plain_sum_loop _,ih (i+1) _ h'.objs.size _ 0 (by omega) hlt (W.frame _ _ _ hst' fun b hb' o e=>?_) (Heap.get?_update_self _ hS3 rfl) ?_ (Nat.ne_of_gt nS) hN ?_ fun h'' tk'' T' c' hk'' hT'' hl''=>?_⟩)
  ·exact kp b o (fun h=>hSf (by rw [← h]; exact hb')) e
  ·intro hw
   exact absurd (alive _ _ hst' _ (W.sub _ hw)) (Nat.lt_irrefl _)
  ·intro j hj
   obtain ⟨cj,hj'⟩:=hB j hj
   exact ⟨cj,kp _ _ (hb j hj).2 (hk' _ _ (hb j hj).1 hj')⟩
  ·refine hR h'' tk'' T' c' (fun b o hbw hbS e=>hk'' b o hbw hbS (kp b o hbS (hk' b o hbw e))) ?_ hl''
   rcases hT'' with rfl | h
   ·exact .inr (Nat.le_of_lt (Nat.lt_of_le_of_lt zS nS))
   ·exact .inr h
theorem ls_str:isSubtype (.type "list") (.type "str")=pure false:=by rw [isSubtype_type]; kernel_rfl
theorem ls_bytes:isSubtype (.type "list") (.type "bytes")=pure false:=by rw [isSubtype_type]; kernel_rfl
theorem ls_ba:isSubtype (.type "list") (.type "bytearray")=pure false:=by rw [isSubtype_type]; kernel_rfl
theorem args_sum2 (a b:Value) : argsOk "sum" ⟨[a,b],[]⟩:=by unfold argsOk; kernel_rfl
end
section
variable {X:Cx} {K:PySem.W.Frag}
def LofL (H:Hp) : List V→List (List V)→Prop
 | [],[]=>True
 | v :: vs,u :: us=>(∃ b,v=.ref b∧H b=some (.lst u))∧LofL H vs us
 | _,_=>False
theorem LofL.length {H:Hp} : ∀ {vs:List V} {us:List (List V)},LofL H vs us→vs.length=us.length
 | [],[],_=>rfl
 | _ :: _,_ :: _,h=>by rw [List.length_cons,List.length_cons,h.2.length]
theorem LofL.get {H:Hp} : ∀ {vs:List V} {us:List (List V)} {i:Nat} {v:V},LofL H vs us→vs[i]?=some v→∃ b u,v=.ref b∧H b=some (.lst u)∧us[i]?=some u
 | _ :: _,u :: _,0,_,h,e=>by
  obtain ⟨⟨b,h1,h2⟩,_⟩:=h
  injection e with e
  exact ⟨b,u,by rw [← e,h1],h2,rfl⟩
 | _ :: _,_ :: _,i+1,_,h,e=>h.2.get e
def rSum2 (K:PySem.W.Frag) : List V→Hp→VK→Prop:=fun xs H Q=>∃ (p q:Addr) (ws:List V) (us:List (List V)),xs=[.ref p,.ref q]∧H p=some (.lst ws)∧H q=some (.lst [])∧LofL H ws us∧us.flatten.length≤1000000∧(us.flatten=[]→Q (.ref q) H)∧∀ r,H r=none→Q (.ref r) (upd H r (.lst us.flatten))
theorem call_sum2 (hK:X.K=K) (hc:X.calm=true) : CallR X (.builtin "sum") (rSum2 K):=by
 subst hK
 intro pins s σ H xs vals Q I r h
 obtain ⟨p,q,ws,us,rfl,hp,hq,xl,len,k0,k⟩:=h
 obtain ⟨v1,v2,rfl,r1,r2⟩:=vals2 r
 cases r1
 cases r2
 have big:(10000000:Nat)≤sizeLine:=by decide
 obtain ⟨zp,its,cp,rv,il,ep⟩:=I.lstM hp
 obtain ⟨zq,itq,cq,rq,iq,eq⟩:=I.lstM hq
 have hq0:itq=[]:=by cases rq; rfl
 subst hq0
 have hl:s.heap.IsList p its.toArray:=⟨_,ep,rfl,_,rfl⟩
 have ltp:p<s.heap.objs.size:=Heap.lt_size ep
 have ltq:q<s.heap.objs.size:=Heap.lt_size eq
 -- the lists, one by one
 have each : ∃ (ads:Nat→Addr) (ii:Nat→List Value),∀ j,j<its.length→its[j]?=some (.ref (ads j))∧(∃ c,s.heap.get? (ads j)=some { cls:=.type "list", data:=.seq (ii j).toArray c })∧∃ u,us[j]?=some u∧Vals u (ii j):=by
  have one : ∀ j,∃ (a:Addr) (i:List Value),j<its.length→its[j]?=some (.ref a)∧(∃ c,s.heap.get? a=some { cls:=.type "list", data:=.seq i.toArray c })∧∃ u,us[j]?=some u∧Vals u i:=fun j=>by
   by_cases hj:j<its.length
   ·obtain ⟨v,hv⟩ : ∃ v,ws[j]?=some v:=⟨_,List.getElem?_eq_getElem (by omega)⟩
    obtain ⟨b,u,rfl,hb,hu⟩:=xl.get hv
    obtain ⟨_,ib,cb,rb,_,eb⟩:=I.lstM hb
    obtain ⟨w',hw',rw'⟩:=rv.get hv
    cases rw'
    exact ⟨b,ib,fun _=>⟨hw',⟨cb,eb⟩,u,hu,rb⟩⟩
   ·exact ⟨0,[],fun z=>absurd z hj⟩
  exact ⟨fun j=>(one j).choose,fun j=>(one j).choose_spec.choose,fun j hj=>(one j).choose_spec.choose_spec hj⟩
 obtain ⟨ads,ii,hads⟩:=each
 have usl:us.length=its.length:=by rw [← xl.length]; exact il
 -- what has come together
 let acc:Nat→List Value:=fun j=>((List.range j).map ii).flatten
 have hacc : ∀ j,j<its.length→acc (j+1)=acc j++ii j:=fun j _=>by
  show ((List.range (j+1)).map ii).flatten=_
  rw [List.range_succ,List.map_append,List.flatten_append]
  simp [acc]
 have hvals : ∀ j,j≤its.length→Vals (us.take j).flatten (acc j):=fun j=>by
  induction j with
  | zero=>intro _; exact .nil
  | succ j ih =>
   intro hj
   obtain ⟨_,_,u,hu,ru⟩:=hads j (by omega)
   rw [hacc j (by omega),show us.take (j+1)=us.take j++[u] by rw [List.take_succ,hu]; rfl,List.flatten_append,List.flatten_cons,List.flatten_nil,List.append_nil]
   exact (ih (by omega)).append ru
 have hsz : ∀ j,j≤its.length→(acc j).length≤sizeLine:=fun j hj=>by
  rw [← (hvals j hj).length]
  have:(us.take j).flatten.length≤us.flatten.length:=by
   conv=>rhs; rw [← List.take_append_drop j us,List.flatten_append,List.length_append]
   omega
  omega
 refine call_function_tree F.kind_sum F.plain_sum F.entry_sum (args_sum2 _ _) ?_
 unfold Builtin.«sum»
 simp only [List.length_cons,List.length_nil]
 rw [if_neg (by decide)]
 refine wpAny_bind (wpAny_of_eq (show Builtin.Builtins.bindParams "sum" ["start"] 0 { pos:=[Value.ref q] }=pure [some (.ref q)] from rfl) ?_)
 refine wpAny_bind (wpAny_pyIter_list hl ?_)
 refine wpAny_bind (wpAny_pure ?_)
 simp only [List.forIn_cons,List.forIn_nil]
 have eq2:(s.heap.push { cls:=.type "list_iterator", data:=.fields #[.ref p,.int 0 0] }).get? q=some { cls:=.type "list", data:=.seq #[] cq }:=Heap.get?_push_of_some _ eq
 refine wpAny_bind (wpAny_bind (wpAny_bind (wpAny_isInstance (T := "list") (b:=false) ⟨_,eq2,rfl⟩ ls_str ?_)))
 simp only [Bool.false_eq_true,if_false]
 refine wpAny_pure (wpAny_bind (wpAny_bind (wpAny_isInstance (T := "list") (b:=false) ⟨_,eq2,rfl⟩ ls_bytes ?_)))
 simp only [Bool.false_eq_true,if_false]
 refine wpAny_pure (wpAny_bind (wpAny_bind (wpAny_isInstance (T := "list") (b:=false) ⟨_,eq2,rfl⟩ ls_ba ?_)))
 simp only [Bool.false_eq_true,if_false]
 refine wpAny_pure (wpAny_pure ?_)
 refine wpAny_bind (wpAny_newObj_type ?_)
 have kp : ∀ b o,s.heap.get? b=some o→((s.heap.push { cls:=.type "list_iterator", data:=.fields #[.ref p,.int 0 0] }).push { cls:=.type "list", data:=.seq #[.ref q] }).get? b=some o:=fun b o e=>Heap.get?_push_of_some _ (Heap.get?_push_of_some _ e)
 have lt1:s.heap.objs.size<(s.heap.push { cls:=.type "list_iterator", data:=.fields #[.ref p,.int 0 0] }).objs.size:=by rw [Heap.size_push]; exact Nat.lt_succ_self _
 have nS : ∀ b o,s.heap.get? b=some o→b≠s.heap.objs.size∧b≠(s.heap.push { cls:=.type "list_iterator", data:=.fields #[.ref p,.int 0 0] }).objs.size:=fun b o e=>⟨Nat.ne_of_lt (Heap.lt_size e),Nat.ne_of_lt (Nat.lt_trans (Heap.lt_size e) lt1)⟩
 refine wpAny_pure ⟨plainId_quiet F.plain_sum_loop _,sum2_loop (A:=X.A) (Walks.list (A:=X.A.in1) (show X.A.in1.handled=none from I.ok.hd hc) s.heap.objs.size p (Nat.ne_of_lt ltp) its.toArray) ads ii acc (by simpa using hacc) (fun i v hP=>?_) (s.heap.push { cls:=.type "list_iterator", data:=.fields #[.ref p,.int 0 0] }).objs.size ?_ (fun i hi=>?_) (by simpa using hsz) (fun i h st b hb=>?_) s.heap.objs.size (Nat.le_of_lt lt1) its.toArray.size 0 _ q _ cq (by simp) (Nat.zero_le _) ⟨?_,hl.at fun o e=>kp _ _ e⟩ (Heap.get?_push_size _ rfl) ?_ (nS _ _ eq).2 (kp _ _ eq) (fun j hj=>?_) fun h' tk T' c' k1 k2 k3=>?_⟩
 ·have hP:its[i]?=some v:=by simpa using hP
  have hi:=(List.getElem?_eq_some_iff.mp hP).1
  have:=(hads i hi).1
  rw [hP] at this
  exact Option.some.inj this
 ·intro hm
  rcases List.mem_cons.mp hm with e | e
  ·exact absurd e (Nat.ne_of_gt lt1)
  ·exact (nS _ _ ep).2 (List.mem_singleton.mp e).symm
 ·obtain ⟨_,⟨c,e⟩,_⟩:=hads i (by simpa using hi)
  exact ⟨fun hm=>(nS _ _ e).1 (List.mem_singleton.mp hm),(nS _ _ e).2⟩
 ·obtain ⟨⟨o1,e1,_⟩,o2,e2,_⟩:=st
  rcases List.mem_cons.mp hb with e | e
  ·rw [e]; exact Heap.lt_size e1
  ·rw [List.mem_singleton.mp e]; exact Heap.lt_size e2
 ·exact ⟨_,Heap.get?_push_of_some _ (Heap.get?_push_size _ rfl),rfl,rfl⟩
 ·exact fun hm=>(nS _ _ eq).1 (List.mem_singleton.mp hm)
 ·obtain ⟨_,⟨c,e⟩,_⟩:=hads j (by simpa using hj)
  exact ⟨c,kp _ _ e⟩
 ·have keep : ∀ b o,s.heap.get? b=some o→h'.get? b=some o:=fun b o e=>k1 b o (fun hm=>(nS _ _ e).1 (List.mem_singleton.mp hm)) (nS _ _ e).2 (kp _ _ e)
  have vl:=hvals its.length (Nat.le_refl _)
  rw [List.take_of_length_le (by omega)] at vl
  have sz:its.toArray.size=its.length:=by simp
  rw [sz] at k3
  rcases k2 with rfl | k2
  ·have e:=keep _ _ eq
   rw [k3] at e
   injection e with e
   injection e with _ _ e
   injection e with e
   have e0:acc its.length=[]:=by simpa using e
   rw [e0] at vl
   have fl:us.flatten=[]:=by
    generalize us.flatten=z at vl
    cases vl; rfl
   exact ⟨.ref T',H,I.kept keep,rfl,k0 fl⟩
  ·exact ⟨.ref T',_,I.laid (o:=.lst us.flatten) keep k2 ⟨by omega,_,c',vl,k3⟩,rfl,k T' (I.hok.fresh k2)⟩
end
end L2
namespace Sw
open PySem L2
structure FitW (B k:Nat) (ds:List PyData) : Prop where
 sh:PyData.showableAll ds=true
 nd:PyData.hasDictAll ds=false
 dp:PyData.depthAll ds≤k
 ls:PyData.leavesShortAll 40 ds=true
 wt:PyData.weightAll ds≤B
theorem FitW.nil {k:Nat} : FitW 0 k []:=⟨rfl,rfl,Nat.zero_le _,rfl,Nat.zero_le _⟩
theorem FitW.mono {B B' k k':Nat} {ds:List PyData} (f:FitW B k ds) (h:B≤B') (hk:k≤k') : FitW B' k' ds:=⟨f.sh,f.nd,Nat.le_trans f.dp hk,f.ls,Nat.le_trans f.wt h⟩
theorem FitW.cons {b B k:Nat} {d:PyData} {ds:List PyData} (f:Fit b d) (hd:d.depth≤k) (r:FitW B k ds) : FitW (b+1+B) k (d :: ds):=by
 refine ⟨?_,?_,?_,?_,?_⟩
 ·unfold PyData.showableAll; rw [f.sh,r.sh]; rfl
 ·unfold PyData.hasDictAll; rw [f.nd,r.nd]; rfl
 ·unfold PyData.depthAll; have:=r.dp; omega
 ·unfold PyData.leavesShortAll; rw [f.ls,r.ls]; rfl
 ·unfold PyData.weightAll
  have a:=f.wt
  have b:=r.wt
  omega
theorem FitW.set {b B k:Nat} {d:PyData} (hk:k≤20) (f:Fit b d) (hd:d.depth≤k) : ∀ {ds:List PyData} (i:Nat),FitW B k ds→FitW (B+b+1) k (ds.set i d)
 | [],i,r=>r.mono (by omega) (Nat.le_refl _)
 | e :: ds,i,r=>by
  have h1:=r.sh
  have h2:=r.nd
  have h3:=r.dp
  have h4:=r.ls
  have h5:=r.wt
  unfold PyData.showableAll at h1
  unfold PyData.hasDictAll at h2
  unfold PyData.depthAll at h3
  unfold PyData.leavesShortAll at h4
  unfold PyData.weightAll at h5
  rw [Bool.and_eq_true] at h1 h4
  rw [Bool.or_eq_false_iff] at h2
  have fe:Fit e.weight e:=⟨h1.1,h2.1,by omega,h4.1,Nat.le_refl _⟩
  have fr:FitW (PyData.weightAll ds) k ds:=⟨h1.2,h2.2,by omega,h4.2,Nat.le_refl _⟩
  cases i with
  | zero=>rw [List.set_cons_zero]; exact (FitW.cons f hd fr).mono (by omega) (Nat.le_refl _)
  | succ i=>rw [List.set_cons_succ]; exact (FitW.cons fe (by omega) (FitW.set hk f hd i fr)).mono (by omega) (Nat.le_refl _)
theorem FitW.lst {B k:Nat} {ds:List PyData} (hk:k<20) (r:FitW B k ds) : Fit B (.list ds)∧(PyData.list ds).depth≤k+1:=by
 have dd:=r.dp
 refine ⟨⟨?_,?_,?_,?_,?_⟩,?_⟩
 ·unfold PyData.showable; exact r.sh
 ·unfold PyData.hasDict; exact r.nd
 ·unfold PyData.depth; omega
 ·unfold PyData.leavesShort; exact r.ls
 ·unfold PyData.weight; exact r.wt
 ·unfold PyData.depth; omega
theorem FitW.tup {B k:Nat} {ds:List PyData} (hk:k<20) (r:FitW B k ds) : Fit B (.tuple ds)∧(PyData.tuple ds).depth≤k+1:=by
 have dd:=r.dp
 refine ⟨⟨?_,?_,?_,?_,?_⟩,?_⟩
 ·unfold PyData.showable; exact r.sh
 ·unfold PyData.hasDict; exact r.nd
 ·unfold PyData.depth; omega
 ·unfold PyData.leavesShort; exact r.ls
 ·unfold PyData.weight; exact r.wt
 ·unfold PyData.depth; omega
theorem fw_ints {ns:List Int} (h : ∀ x∈ns,x.natAbs<1000) : ∀ d∈ns.map PyData.int,Fit 10 d∧d.depth≤0:=fun d hd=>by
 obtain ⟨x,hx,rfl⟩:=List.mem_map.mp hd
 exact f0_int (h x hx)
theorem fw_lst {ns:List Int} (h : ∀ x∈ns,x.natAbs<1000) : Fit (11 * ns.length) (.list (ns.map PyData.int))∧(PyData.list (ns.map PyData.int)).depth≤1:=by
 have:=fit_list (k:=0) (by decide) (fw_ints h)
 rw [List.length_map] at this
 exact this
theorem fw_tup {ns:List Int} (h : ∀ x∈ns,x.natAbs<1000) : Fit (11 * ns.length) (.tuple (ns.map PyData.int))∧(PyData.tuple (ns.map PyData.int)).depth≤1:=by
 have:=fit_tuple (k:=0) (by decide) (fw_ints h)
 rw [List.length_map] at this
 exact this
theorem fw_sh : ∀ {Ls:List (List Int)},(∀ x∈Ls.flatten,x.natAbs<1000)→FitW (11 * Ls.flatten.length+Ls.length) 1 (Ls.map fun L=>PyData.list (L.map PyData.int))
 | [],_=>FitW.nil
 | L :: Ls,h=>by
  rw [List.flatten_cons] at h
  have a:=fw_lst fun x hx=>h x (List.mem_append_left _ hx)
  have b:=fw_sh fun x hx=>h x (List.mem_append_right _ hx)
  refine (FitW.cons a.1 a.2 b).mono ?_ (Nat.le_refl _)
  rw [List.flatten_cons,List.length_append,List.length_cons]
  omega
end Sw
namespace Sw
open PySem L2
theorem Lsts.off6 {H:Hp} {a:Addr} {o:HO} : ∀ {vs:List V} {Ls:List (List Int)},Lsts H vs Ls→V.ref a∉vs→Lsts (upd H a o) vs Ls
 | _,_,.nil,_=>.nil
 | _,_,.cons (a:=b) h x,n=>by
  have:b≠a:=fun z=>n (by rw [z]; exact List.mem_cons_self)
  exact .cons (by rw [upd_ne this]; exact h) (x.off6 fun z=>n (List.mem_cons_of_mem _ z))
theorem Lsts.put6 {H:Hp} {a:Addr} {M:List Int} : ∀ {vs:List V} {Ls:List (List Int)} (i:Nat),Lsts H vs Ls→vs.Nodup→vs[i]?=some (.ref a)→Lsts (upd H a (.lst (M.map V.int))) vs (Ls.set i M)
 | _,_,i,.nil,_,h=>by simp at h
 | _,_,0,.cons h x,nd,e=>by
  injection e with e
  injection e with e
  subst e
  exact .cons upd_same (x.off6 (List.nodup_cons.mp nd).1)
 | _,_,i+1,.cons (a:=b) h x,nd,e=>by
  have nd':=List.nodup_cons.mp nd
  have:b≠a:=fun z=>nd'.1 (by rw [z]; exact List.mem_of_getElem? e)
  exact .cons (by rw [upd_ne this]; exact h) (Lsts.put6 i x nd'.2 e)
theorem Lsts.set6 {H:Hp} {a:Addr} {M:List Int} (h:H a=some (.lst (M.map V.int))) : ∀ {vs:List V} {Ls:List (List Int)} (i:Nat),Lsts H vs Ls→Lsts H (vs.set i (.ref a)) (Ls.set i M)
 | _,_,_,.nil=>.nil
 | _,_,0,.cons _ x=>.cons h x
 | _,_,i+1,.cons g x=>.cons g (Lsts.set6 h i x)
theorem Lsts.erase6 {H:Hp} : ∀ {vs:List V} {Ls:List (List Int)} (i:Nat),Lsts H vs Ls→Lsts H (vs.eraseIdx i) (Ls.eraseIdx i)
 | _,_,_,.nil=>.nil
 | _,_,0,.cons _ x=>x
 | _,_,i+1,.cons g x=>.cons g (Lsts.erase6 i x)
theorem Lsts.rev6 {H:Hp} : ∀ {vs:List V} {Ls:List (List Int)},Lsts H vs Ls→Lsts H vs.reverse Ls.reverse
 | _,_,.nil=>.nil
 | _,_,.cons h x=>by rw [List.reverse_cons,List.reverse_cons]; exact (x.rev6).snoc h
theorem Lsts.take6 {H:Hp} : ∀ {vs:List V} {Ls:List (List Int)} (k:Nat),Lsts H vs Ls→Lsts H (vs.take k) (Ls.take k)
 | _,_,_,.nil=>by simp; exact .nil
 | _,_,0,.cons _ x=>.nil
 | _,_,k+1,.cons g x=>.cons g (Lsts.take6 k x)
theorem Lsts.drop6 {H:Hp} : ∀ {vs:List V} {Ls:List (List Int)} (k:Nat),Lsts H vs Ls→Lsts H (vs.drop k) (Ls.drop k)
 | _,_,_,.nil=>by simp; exact .nil
 | _,_,0,.cons g x=>.cons g x
 | _,_,k+1,.cons g x=>Lsts.drop6 k x
theorem Lsts.app6 {H:Hp} : ∀ {vs us:List V} {Ls Ms:List (List Int)},Lsts H vs Ls→Lsts H us Ms→Lsts H (vs++us) (Ls++Ms)
 | _,_,_,_,.nil,y=>y
 | _,_,_,_,.cons g x,y=>.cons g (x.app6 y)
theorem Lsts.dtsF {H:Hp} {P:Addr→Prop} : ∀ {vs:List V} {Ls:List (List Int)},Lsts H vs Ls→(∀ a,V.ref a∈vs→P a)→DTs H P vs (Ls.map fun L=>PyData.list (L.map PyData.int))
 | _,_,.nil,_=>.nil
 | _,_,.cons h x,hP=>.cons (.lst h (hP _ List.mem_cons_self) (DTs.ints _)) (x.dtsF fun a ha=>hP a (List.mem_cons_of_mem _ ha))
theorem Lsts.putD {H:Hp} {P:Addr→Prop} {a:Addr} {us:List V} {e:PyData} (d:DT (upd H a (.lst us)) P (.ref a) e) : ∀ {vs:List V} {Ls:List (List Int)} (i:Nat),Lsts H vs Ls→vs.Nodup→vs[i]?=some (.ref a)→(∀ b,V.ref b∈vs→P b)→DTs (upd H a (.lst us)) P vs ((Ls.map fun L=>PyData.list (L.map PyData.int)).set i e)
 | _,_,i,.nil,_,h,_=>by simp at h
 | _,_,0,.cons h x,nd,z,hP=>by
  injection z with z
  injection z with z
  subst z
  exact .cons d ((x.off6 (List.nodup_cons.mp nd).1).dtsF fun b hb=>hP b (List.mem_cons_of_mem _ hb))
 | _,_,i+1,.cons (a:=b) h x,nd,z,hP=>by
  have nd':=List.nodup_cons.mp nd
  have:b≠a:=fun z'=>nd'.1 (by rw [z']; exact List.mem_of_getElem? z)
  exact .cons (.lst (by rw [upd_ne this]; exact h) (hP _ List.mem_cons_self) (DTs.ints _)) (Lsts.putD d i x nd'.2 z fun b hb=>hP b (List.mem_cons_of_mem _ hb))
theorem set_flat6 (M:List Int) : ∀ (Ls:List (List Int)) (i:Nat),(Ls.set i M).flatten.length≤Ls.flatten.length+M.length
 | [],i=>by simp
 | L :: Ls,0=>by rw [List.set_cons_zero,List.flatten_cons,List.flatten_cons,List.length_append,List.length_append]; omega
 | L :: Ls,i+1=>by
  have:=set_flat6 M Ls i
  rw [List.set_cons_succ,List.flatten_cons,List.flatten_cons,List.length_append,List.length_append]; omega
theorem mem_flat6 {L:List Int} : ∀ {Ls:List (List Int)},L∈Ls→L.length≤Ls.flatten.length
 | M :: Ls,h=>by
  rw [List.flatten_cons,List.length_append]
  rcases List.mem_cons.mp h with rfl | h
  ·omega
  ·have:=mem_flat6 h; omega
theorem mem_set_flat {M:List Int} {Ls:List (List Int)} {i:Nat} {x:Int} (h:x∈(Ls.set i M).flatten) : x∈Ls.flatten∨x∈M:=by
 obtain ⟨L,hL,hx⟩:=List.mem_flatten.mp h
 rcases List.mem_or_eq_of_mem_set hL with hL | rfl
 ·exact .inl (List.mem_flatten.mpr ⟨L,hL,hx⟩)
 ·exact .inr hx
theorem sub_flat6 {Ls Ms:List (List Int)} (h:Ls.Sublist Ms) : Ls.flatten.Sublist Ms.flatten:=by
 induction h with
 | slnil=>exact .slnil
 | cons a _ ih=>rw [List.flatten_cons]; exact ih.trans (List.sublist_append_right ..)
 | cons_cons a _ ih=>rw [List.flatten_cons,List.flatten_cons]; exact (List.Sublist.refl a).append ih
theorem sum_set6 (d:PyData) : ∀ (ds:List PyData) (i:Nat),((ds.set i d).map lenI).sum≤(ds.map lenI).sum+lenI d
 | [],i=>by simp
 | e :: ds,0=>by rw [List.set_cons_zero,List.map_cons,List.map_cons,List.sum_cons,List.sum_cons]; omega
 | e :: ds,i+1=>by
  have:=sum_set6 d ds i
  rw [List.set_cons_succ,List.map_cons,List.map_cons,List.sum_cons,List.sum_cons]; omega
theorem fw_listW {ns:List Int} (h : ∀ x∈ns,x.natAbs<1000) : FitW (11 * ns.length) 1 (ns.map PyData.int):=by
 have r:=fits_of (k:=0) (by decide) (fw_ints h)
 have:=r.wt
 rw [List.length_map] at this
 exact ⟨r.sh,r.nd,Nat.le_trans r.dp (by decide),r.ls,this⟩
theorem mem_take_flat {Ls:List (List Int)} {k:Nat} {x:Int} (h:x∈(Ls.take k).flatten) : x∈Ls.flatten:=by
 obtain ⟨L,hL,hx⟩:=List.mem_flatten.mp h
 exact List.mem_flatten.mpr ⟨L,List.mem_of_mem_take hL,hx⟩
theorem mem_drop_flat {Ls:List (List Int)} {k:Nat} {x:Int} (h:x∈(Ls.drop k).flatten) : x∈Ls.flatten:=by
 obtain ⟨L,hL,hx⟩:=List.mem_flatten.mp h
 exact List.mem_flatten.mpr ⟨L,List.mem_of_mem_drop hL,hx⟩
theorem take_drop_flat (Ls:List (List Int)) (k:Nat) : (Ls.take k).flatten.length+(Ls.drop k).flatten.length=Ls.flatten.length:=by
 conv=>rhs; rw [← List.take_append_drop k Ls,List.flatten_append,List.length_append]
structure Sm6 (Ls:List (List Int)) : Prop where
 len:Ls.length≤14
 tot:Ls.flatten.length≤55
 sml : ∀ x∈Ls.flatten,0≤x∧x≤60
def OkS (d:PyData) : Prop:=Few2 d∧Nice 10 d∧Fit 1000 d∧d.depth≤3
theorem few_sh6 {Ls:List (List Int)} (h1:Ls.length≤60) (h2:Ls.flatten.length≤60) : Few2 (shD Ls):=fun ds e=>by
 injection e with e
 subst e
 rw [List.length_map,List.map_map]
 have e2:(lenI ∘ fun L:List Int=>PyData.list (L.map PyData.int))=List.length:=funext fun L=>List.length_map ..
 rw [e2,← List.length_flatten]
 exact ⟨h1,h2⟩
theorem nice_sh6 (Ls:List (List Int)) : Nice 2 (shD Ls):=nice_list fun d hd=>by
 obtain ⟨L,_,rfl⟩:=List.mem_map.mp hd
 exact nice_list (nice_ints L)
theorem Sm6.ok {Ls:List (List Int)} (h:Sm6 Ls) : OkS (shD Ls):=by
 have f:=(fw_sh (Ls:=Ls) fun x hx=>by have:=h.sml x hx; omega).lst (by decide)
 have:=h.len
 have:=h.tot
 exact ⟨few_sh6 (by omega) (by omega),(nice_sh6 Ls).mono (by decide),f.1.mono (by omega),Nat.le_trans f.2 (by decide)⟩
theorem oks_flat {d:PyData} (h:Fit 10 d∧d.depth≤0) (n:Nice 10 d) (n2 : ∀ ds,d≠.list ds) : OkS d:=⟨fun ds z=>absurd z (n2 ds),n,h.1.mono (by decide),by omega⟩
def SmL6 (Ls:List (List Int)) : Prop:=Ls≠[]∧(∀ L∈Ls,L≠[])∧Ls.length≤12∧Ls.flatten.length≤12∧∀ x∈Ls.flatten,1≤x∧x≤12
theorem lofL6 {H:Hp} : ∀ {vs:List V} {Ls:List (List Int)},Lsts H vs Ls→LofL H vs (Ls.map fun L=>L.map V.int)
 | _,_,.nil=>True.intro
 | _,_,.cons h x=>⟨⟨_,rfl,h⟩,lofL6 x⟩
theorem flat_V6 : ∀ Ls:List (List Int),(Ls.map fun L=>L.map V.int).flatten=Ls.flatten.map V.int
 | []=>rfl
 | L :: Ls=>by rw [List.map_cons,List.flatten_cons,flat_V6 Ls,List.flatten_cons,List.map_append]
theorem sum2_at6 {K:PySem.W.Frag} {H:Hp} {p q:Addr} {ws:List V} {Ls:List (List Int)} {Q:VK} (hp:H p=some (.lst ws)) (x:Lsts H ws Ls) (hq:H q=some (.lst [])) (len:Ls.flatten.length≤100000) (k : ∀ r H',H' r=some (.lst (Ls.flatten.map V.int))→Same H H'→Q (.ref r) H') : rSum2 K [.ref p,.ref q] H Q:=by
 refine ⟨p,q,ws,_,rfl,hp,hq,lofL6 x,?_,fun e=>?_,fun r hr=>?_⟩
 ·rw [flat_V6,List.length_map]; omega
 ·rw [flat_V6] at e
  refine k q H ?_ (Same.refl H)
  rw [e]; exact hq
 ·rw [flat_V6]; exact k r _ upd_same (Same.new hr)
def spSpS:Sp:=fun vs H Q _=>∃ (p l:Addr) (ws:List V) (Ls:List (List Int)),vs=[.ref p,.ref l]∧Pool H p∧H l=some (.lst ws)∧l≠p∧Lsts H ws Ls∧V.ref p∉ws∧SmL6 Ls∧∀ v d H',DT H' (fun b=>H b=none) v d→OkS d→Pool H' p→SameX p H H'→Q v H'
structure TSpS (P:Program) (w:World) (K:PySem.W.Frag) (mg:Str→Option Value) (base:Heap) : Prop extends T1 mg K where
 b_sorted:mg "sorted" = none
 b_sum:mg "sum" = none
 f__law_take:FnAt P w K mg base "_law_take" 1 ["_law_pool_here", "_law_many"] spTk
section
variable {P:Program} {w:World} {K:PySem.W.Frag} {mg:Str→Option Value} {base:Heap}
theorem sc__law_spoilt_sharing:FnScope ["_law_pool_here", "_law_sharing", "_law_way", "_law_at", "_law_place", "_law_other", "_law_odd", "_law_built", "_law_thing"] ["_law_pool_here", "_law_sharing"] (defScope (top 73)):=⟨rfl,rfl,rfl,by decide +kernel,rfl,by decide +kernel,by decide +kernel⟩
theorem ok_sps {f:Addr} {fd:FuncData} (F:Fun K "_law_spoilt_sharing" "_law_spoilt_sharing" (top 73) f fd) (T:TSpS P w K mg base) : FnOk P w K mg base CX0 2 f fd ["_law_pool_here", "_law_sharing"] spSpS:=by
 refine F.ok sc__law_spoilt_sharing (fun vs H Q E h=>?_) (fun cdv A outer s H vs Q E hr h=>?_)
 ·obtain ⟨p,l,ws,Ls,rfl,_⟩:=h
  rfl
 ·obtain ⟨p,l,ws,Ls,rfl,pu,hl,nlp,xl,npw,⟨ne,nes,lb,fb,bd⟩,k⟩:=h
  refine ⟨_,(@pss_cons _ _ _ _ _ (ps_set (i:=2) sc__law_spoilt_sharing.nd rfl (Or.inl rfl) (pe_callF T.f__law_take (hr.mono (by first | decide | omega)) rfl (pa_cons (pv 0) (pa_cons pe_int pa_nil))))
   (@pss_cons _ _ _ _ _ (ps_set (i:=3) sc__law_spoilt_sharing.nd rfl (Or.inl rfl) (pe_callF T.f__law_take (hr.mono (by first | decide | omega)) rfl (pa_cons (pv 0) (pa_cons (pe_callB (call_lenK (K:=K) rfl) rfl T.b_len (by decide +kernel) (pa_cons (pv 1) pa_nil)) pa_nil))))
   (@pss_cons _ _ _ _ _ (ps_set (i:=4) sc__law_spoilt_sharing.nd rfl (Or.inl rfl) (pe_callF T.f__law_take (hr.mono (by first | decide | omega)) rfl (pa_cons (pv 0) (pa_cons (pe_callB (call_lenK (K:=K) rfl) rfl T.b_len (by decide +kernel) (pa_cons (pe_ix (ix_listK (K:=K) rfl) (pv 1) (pv 3) (fun _ _=>rfl)) pa_nil)) pa_nil))))
   (@pss_cons _ _ _ _ _ (ps_set (i:=5) sc__law_spoilt_sharing.nd rfl (Or.inl rfl) (pe_callF T.f__law_take (hr.mono (by first | decide | omega)) rfl (pa_cons (pv 0) (pa_cons (pe_callB (call_lenK (K:=K) rfl) rfl T.b_len (by decide +kernel) (pa_cons (pv 1) pa_nil)) pa_nil))))
   (@pss_cons _ _ _ _ _ (@ps_set _ _ 6 _ _ _ _ sc__law_spoilt_sharing.nd rfl (Or.inl rfl) (@pe_ix _ _ _ _ _ _ _ (ix_listK (K:=K) rfl) (@pe_lst _ _ _ _ (@pa_cons _ _ _ _ _ pe_bl (@pa_cons _ _ _ _ _ pe_non (@pa_cons _ _ _ _ _ pe_int (@pa_cons _ _ _ _ _ pe_str (@pa_cons _ _ _ _ _ pe_int (@pa_cons _ _ _ _ _ (pe_lst (pa_cons pe_int pa_nil)) (@pa_cons _ _ _ _ _ (pe_un un_neg pe_int) pa_nil st_un) st_list) st_con) st_con) st_con) st_con) st_con)) (pe_callF T.f__law_take (hr.mono (by first | decide | omega)) rfl (pa_cons (pv 0) (pa_cons pe_int pa_nil))) (fun _ _=>rfl)) (by rfl) (by first | exact .inl rfl | exact .inr rfl))
   (@pss_cons _ _ _ _ _ (ps_comp (i:=7) sc__law_spoilt_sharing.nd rfl rfl (N:=(["_law_part"] : List Str)) (ix:=([none] : List (Option Nat))) (comp_ok rfl rfl) rfl (pi_listK (K:=K) rfl (pv 1)) (fun _ _ _ _=>(pg_name (i:=0) (show List.Nodup (["_law_part"] : List Str) from by decide +kernel) rfl (Or.inl rfl))) (fun _ _ _ _=>pif_nil) (fun _ _ _ _=>(pe_callTy (call_list_ofK (K:=K) rfl) rfl T.b_list (by decide +kernel) (pa_cons (pv 0) pa_nil))))
   (@pss_cons _ _ _ _ _ (ps_set (i:=8) sc__law_spoilt_sharing.nd rfl (Or.inl rfl) (pe_ix (ix_listK (K:=K) rfl) (pe_ix (ix_listK (K:=K) rfl) (pv 7) (pv 3) (fun _ _=>rfl)) (pv 4) (fun _ _=>rfl)))
   (@pss_cons _ _ _ _ _ (@ps_if _ _ _ _ _ _ _ _ (pt_cmpR op_eq (pv 2) pe_int (nomark _)) (pss_one (ps_asg (pv 6) (pg_sub (pe_ix (ix_listK (K:=K) rfl) (pv 7) (pv 3) (fun _ _=>rfl)) (pv 4) set_list))) (@pss_one _ _ _ (@ps_if _ _ _ _ _ _ _ _ (pt_cmpR op_eq (pv 2) pe_int (nomark _)) (pss_one (ps_expr (pe_bmK (K:=K) rfl PySem.F.plainAttrs_list PySem.F.slot_list_append PySem.F.type_list_append mt_append (pe_ix (ix_listK (K:=K) rfl) (pv 7) (pv 5) (fun _ _=>rfl)) (pa_cons (pv 8) pa_nil)))) (@pss_one _ _ _ (@ps_if _ _ _ _ _ _ _ _ (pt_cmpR op_eq (pv 2) pe_int (nomark _)) (pss_one (ps_expr (pe_bmK (K:=K) rfl PySem.F.plainAttrs_list PySem.F.slot_list_pop PySem.F.type_list_pop mt_popAt (pe_ix (ix_listK (K:=K) rfl) (pv 7) (pv 3) (fun _ _=>rfl)) (pa_cons (pv 4) pa_nil)))) (@pss_one _ _ _ (@ps_if _ _ _ _ _ _ _ _ (pt_cmpR op_eq (pv 2) pe_int (nomark _)) (pss_cons (ps_asg (pe_callB (call_sorted (K:=K) rfl) rfl T.b_sorted (by decide +kernel) (pa_cons (pe_op op_cat (pe_ix (ix_listK (K:=K) rfl) (pv 7) (pv 5) (fun _ _=>rfl)) (pe_lst (pa_cons (pe_bmK (K:=K) rfl PySem.F.plainAttrs_list PySem.F.slot_list_pop PySem.F.type_list_pop mt_popAt (pe_ix (ix_listK (K:=K) rfl) (pv 7) (pv 3) (fun _ _=>rfl)) (pa_cons (pv 4) pa_nil)) pa_nil))) pa_nil)) (pg_sub (pv 7) (pv 5) set_list))
   (pss_one (ps_set (i:=7) sc__law_spoilt_sharing.nd rfl (Or.inl rfl) (pe_callB (call_sortedLL (K:=K) rfl hr.units) rfl T.b_sorted (by decide +kernel) (pa_cons (pe_comp (N:=(["_law_part"] : List Str)) (ix:=([none] : List (Option Nat))) (comp_ok rfl rfl) rfl (pi_listK (K:=K) rfl (pv 7)) (fun _ _ _ _=>(pg_name (i:=0) (show List.Nodup (["_law_part"] : List Str) from by decide +kernel) rfl (Or.inl rfl))) (fun _ _ _ _=>(pif_one (pt_cmpR (op_neDI (K:=K) rfl hr.units) (pv 0) (pe_lst pa_nil) (nomark _)))) (fun _ _ _ _=>(pv 0))) pa_nil))))) (@pss_one _ _ _ (@ps_if _ _ _ _ _ _ _ _ (PW.pt (pw_and (pt_cmpR op_eq (pv 2) pe_int (nomark _)) (pw_and1 (pt_cmpR op_ne (pv 3) (pv 5) (nomark _))))) (pss_cons (ps_asg (pe_callB (call_sorted (K:=K) rfl) rfl T.b_sorted (by decide +kernel) (pa_cons (pe_op op_cat (pe_ix (ix_listK (K:=K) rfl) (pv 7) (pv 5) (fun _ _=>rfl)) (pe_ix (ix_listK (K:=K) rfl) (pv 7) (pv 3) (fun _ _=>rfl))) pa_nil)) (pg_sub (pv 7) (pv 5) set_list))
   (pss_cons (ps_expr (pe_bmK (K:=K) rfl PySem.F.plainAttrs_list PySem.F.slot_list_pop PySem.F.type_list_pop mt_popAt (pv 7) (pa_cons (pv 3) pa_nil)))
   (pss_one (ps_set (i:=7) sc__law_spoilt_sharing.nd rfl (Or.inl rfl) (pe_callB (call_sortedLL (K:=K) rfl hr.units) rfl T.b_sorted (by decide +kernel) (pa_cons (pv 7) pa_nil)))))) (@pss_one _ _ _ (@ps_if _ _ _ _ _ _ _ _ (pt_cmpR op_eq (pv 2) pe_int (nomark _)) (pss_one (ps_asg (pe_revL (pe_ix (ix_listK (K:=K) rfl) (pv 7) (pv 3) (fun _ _=>rfl))) (pg_sub (pv 7) (pv 3) set_list))) (@pss_one _ _ _ (@ps_if _ _ _ _ _ _ _ _ (pt_cmpR op_eq (pv 2) pe_int (nomark _)) (pss_one (ps_set (i:=7) sc__law_spoilt_sharing.nd rfl (Or.inl rfl) (pe_revL (pv 7)))) (@pss_one _ _ _ (@ps_if _ _ _ _ _ _ _ _ (pt_cmpR op_eq (pv 2) pe_int (nomark _)) (@pss_one _ _ _ (ps_asg (@pe_ix _ _ _ _ _ _ _ (ix_listK (K:=K) rfl) (@pe_lst _ _ _ _ (@pa_cons _ _ _ _ _ (pe_callTy (call_tuple_ofK (K:=K) rfl) rfl T.b_tuple (by decide +kernel) (pa_cons (pe_ix (ix_listK (K:=K) rfl) (pv 7) (pv 3) (fun _ _=>rfl)) pa_nil)) (@pa_cons _ _ _ _ _ pe_non (@pa_cons _ _ _ _ _ pe_str (@pa_cons _ _ _ _ _ pe_int (@pa_cons _ _ _ _ _ (pe_lst pa_nil) pa_nil st_list) st_con) st_con) st_con) st_call)) (pe_op op_mod (pv 4) pe_int) (fun _ _=>rfl)) (pg_sub (pv 7) (pv 3) set_list))) (@pss_one _ _ _ (@ps_if _ _ _ _ _ _ _ _ (pt_cmpR op_eq (pv 2) pe_int (nomark _)) (pss_one (ps_expr (pe_bmK (K:=K) rfl PySem.F.plainAttrs_list PySem.F.slot_list_append PySem.F.type_list_append mt_append (pv 7) (pa_cons (pe_lst (pa_cons (pe_op op_add (pe_callB (call_lenK (K:=K) rfl) rfl T.b_len (by decide +kernel) (pa_cons (pe_callB (call_sum2 (K:=K) rfl rfl) rfl T.b_sum (by decide +kernel) (pa_cons (pv 7) (pa_cons (pe_lst pa_nil) pa_nil))) pa_nil)) pe_int) pa_nil)) pa_nil)))) (@pss_one _ _ _ (@ps_if _ _ _ _ _ _ _ _ (pt_cmpR op_eq (pv 2) pe_int (nomark _)) (@pss_one _ _ _ (@ps_set _ _ 7 _ _ _ _ sc__law_spoilt_sharing.nd rfl (Or.inl rfl) (@pe_ix _ _ _ _ _ _ _ (ix_listK (K:=K) rfl) (@pe_lst _ _ _ _ (@pa_cons _ _ _ _ _ (pe_callTy (call_tuple_ofK (K:=K) rfl) rfl T.b_tuple (by decide +kernel) (pa_cons (pv 7) pa_nil)) (@pa_cons _ _ _ _ _ pe_non (@pa_cons _ _ _ _ _ pe_str (@pa_cons _ _ _ _ _ (pe_lst pa_nil) (@pa_cons _ _ _ _ _ pe_int pa_nil st_con) st_list) st_con) st_con) st_call)) (pe_op op_mod (pv 4) pe_int) (fun _ _=>rfl)) (by rfl) (by first | exact .inl rfl | exact .inr rfl))) (pss_one (ps_if (pt_cmpR op_eq (pv 2) pe_int (nomark _)) (pss_one (ps_set (i:=7) sc__law_spoilt_sharing.nd rfl (Or.inl rfl) (pe_op op_cat (pe_slice (sl_listK (K:=K) rfl) (pv 7) po_none (po_some (pv 3))) (pe_slice (sl_listK (K:=K) rfl) (pv 7) (po_some (pe_op op_add (pv 3) pe_int)) po_none)))) (pss_one (ps_if (pt_cmpR op_eq (pv 2) pe_int (nomark _)) (pss_one (ps_set (i:=7) sc__law_spoilt_sharing.nd rfl (Or.inl rfl) (pe_callB (call_sortedLL (K:=K) rfl hr.units) rfl T.b_sorted (by decide +kernel) (pa_cons (pe_op op_cat (pe_op op_cat (pe_lst (pa_cons (pe_slice (sl_listK (K:=K) rfl) (pe_ix (ix_listK (K:=K) rfl) (pv 7) (pv 3) (fun _ _=>rfl)) po_none (po_some (pv 4))) (pa_cons (pe_slice (sl_listK (K:=K) rfl) (pe_ix (ix_listK (K:=K) rfl) (pv 7) (pv 3) (fun _ _=>rfl)) (po_some (pv 4)) po_none) pa_nil))) (pe_slice (sl_listK (K:=K) rfl) (pv 7) po_none (po_some (pv 3)))) (pe_slice (sl_listK (K:=K) rfl) (pv 7) (po_some (pe_op op_add (pv 3) pe_int)) po_none)) pa_nil)))) pss_nil)))))))))))))))))))))))
   (pss_one (ps_ret (pv 7))))))))))),?_⟩
  have big:(10000000:Nat)≤sizeLine:=by decide
  have one : 1≤sizeLine:=by decide
  have two : 2≤sizeLine:=by decide
  have wl:=xl.length
  have lpos:=List.length_pos_iff.mpr ne
  refine ⟨_,rfl,p,13,rfl,pu,by decide,by decide,fun wy H1 w0 w1 pu1 s1=>?_⟩
  have hl1:=s1 _ _ nlp hl
  refine ⟨_,rfl,_,rfl,l,_,rfl,.inl (SqL.of hl1),p,_,rfl,pu1,by omega,by omega,fun at' H2 a0 a1 pu2 s2=>?_⟩
  have hl2:=s2 _ _ nlp hl1
  have s02:=s1.trans s2
  have xl2:=xl.keepX s02 npw
  obtain ⟨u,hu⟩ : ∃ u,ws[at'.toNat]?=some u:=⟨_,List.getElem?_eq_getElem (by omega)⟩
  obtain ⟨b0,L,rfl,hb0,hL⟩:=xl2.get hu
  have Lm:=List.mem_of_getElem? hL
  have Lb:=mem_flat6 Lm
  have Ln:=List.length_pos_iff.mpr (nes L Lm)
  have LV:(L.map V.int).length=L.length:=List.length_map ..
  refine ⟨_,rfl,_,rfl,_,rfl,l,_,_,_,rfl,rfl,SqL.of hl2,at_refI a0 hu,b0,_,rfl,.inl (SqL.of hb0),p,_,rfl,pu2,by omega,by omega,fun pl H3 p0 p1 pu3 s3=>?_⟩
  have hl3:=s3 _ _ nlp hl2
  refine ⟨_,rfl,_,rfl,l,_,rfl,.inl (SqL.of hl3),p,_,rfl,pu3,by omega,by omega,fun ot H4 o0 o1 pu4 s4=>?_⟩
  have s04:=s02.trans (s3.trans s4)
  -- an odd thing
  refine ⟨one,fun r1 f1=>?_⟩
  have z5:Same H4 (upd H4 r1 (.lst [.int 1])):=Same.new f1
  have h5:upd H4 r1 (.lst [.int 1]) r1=some (.lst ([(1:Int)].map V.int)):=upd_same
  generalize upd H4 r1 (.lst [.int 1])=H5 at z5 h5 ⊢
  refine ⟨_,rfl,(by show 7≤sizeLine; decide),fun l6 f6=>?_⟩
  have z6:Same H5 (upd H5 l6 (.lst [.bl true,.non,.int 0,.str "1", .int 13,.ref r1,.int (-1)])):=Same.new f6
  have h6:upd H5 l6 (.lst [.bl true,.non,.int 0,.str "1", .int 13,.ref r1,.int (-1)]) l6=some (.lst [.bl true,.non,.int 0,.str "1", .int 13,.ref r1,.int (-1)]):=upd_same
  generalize upd H5 l6 (.lst [.bl true,.non,.int 0,.str "1", .int 13,.ref r1,.int (-1)])=H6 at z6 h6 ⊢
  have pu6:=pu4.keep (z5.trans z6)
  have n6:l6≠p:=((pu4.keep z5).ne f6).symm
  have nr1:r1≠p:=(pu4.ne f1).symm
  refine ⟨_,rfl,p,7,rfl,pu6,by decide,by decide,fun r7 H7 r70 r71 pu7 s7=>?_⟩
  have s07:SameX p H H7:=s04.trans (z5.x.trans (z6.x.trans s7))
  have fr0 : ∀ b,H7 b=none→H b=none:=fun b hb=>by
   cases e:H b with
   | none=>rfl
   | some o =>
    have nb:b≠p:=fun z=>(pu7.ne hb) z.symm
    rw [s07 _ _ nb e] at hb; cases hb
  have fr1:H r1=none:=by
   cases e:H r1 with
   | none=>rfl
   | some o=>rw [s04 _ _ nr1 e] at f1; cases f1
  have hr7:=s7 _ _ nr1 (z6 _ _ h5)
  obtain ⟨xv,xd,hxv,dX,oX⟩ : ∃ xv xd,([.bl true,.non,.int 0,.str "1", .int 13,.ref r1,.int (-1)] : List V)[r7.toNat]?=some xv∧DT H7 (fun b=>H b=none) xv xd∧(Nice 2 xd∧Fit 11 xd∧xd.depth≤1):=by
   have fl : ∀ {d:PyData},Fit 10 d∧d.depth≤0→Nice 2 d→Nice 2 d∧Fit 11 d∧d.depth≤1:=fun h n=>⟨n,h.1.mono (by decide),by omega⟩
   have:r7.toNat=0∨r7.toNat=1∨r7.toNat=2∨r7.toNat=3∨r7.toNat=4∨r7.toNat=5∨r7.toNat=6:=by omega
   rcases this with e | e | e | e | e | e | e <;> rw [e]
   ·exact ⟨_,_,rfl,.bl _,fl (f0_bool _) (nice_bool _)⟩
   ·exact ⟨_,_,rfl,.non,fl f0_none nice_none⟩
   ·exact ⟨_,_,rfl,.int _,fl (f0_int (by decide)) (nice_int _)⟩
   ·exact ⟨_,_,rfl,.str _,fl (f0_str (by decide +kernel)) (nice_str (by decide +kernel))⟩
   ·exact ⟨_,_,rfl,.int _,fl (f0_int (by decide)) (nice_int _)⟩
   ·exact ⟨_,_,rfl,.lst hr7 fr1 (DTs.ints [1]),(nice_list (k:=1) (nice_ints [1])),(fw_lst (ns:=[1]) (by simp)).1.mono (by decide),(fw_lst (ns:=[1]) (by simp)).2⟩
   ·exact ⟨_,_,rfl,.int _,fl (f0_int (by decide)) (nice_int _)⟩
  refine ⟨l6,_,r7,xv,rfl,rfl,SqL.of (s7 _ _ n6 h6),at_refI r70 hxv,?_⟩
  clear h6 hr7 z6 h5 z5
  -- the copy
  have hl7:=s07 _ _ nlp hl
  have xl7:=xl.keepX s07 npw
  refine ⟨_,rfl,l,rfl,⟨_,SqL.of hl7⟩,compL (K:=K) (a:=l) (xs:=ws) (k:=0) (fun j ys σ' H'=>(∃ v,σ'=[v])∧Same H7 H'∧Lsts H' ys (Ls.take j)∧ys.length=j∧Fresh H7 ys) (by omega) ⟨⟨none,rfl⟩,Same.refl _,.nil,rfl,Fresh.nil⟩ (fun j ys σ' H' _ q=>SqL.of (q.2.1 _ _ hl7)) (fun j ys σ' H' q=>Nat.le_of_eq q.2.2.2.1) ?_ ?_⟩
  ·rintro j ys σ' H8 x R hx ⟨⟨v,rfl⟩,s8,x8,l8,f8⟩ done
   obtain ⟨b,L,rfl,hb,hL⟩:=(xl7.keep s8).get hx
   refine ⟨_,rfl,b,_,rfl,.inl (SqL.of hb),fun q fq=>done _ _ _ ⟨⟨_,rfl⟩,s8.trans (Same.new fq),?_,by rw [List.length_append,l8]; rfl,f8.snoc x8 fq (s8.free fq)⟩⟩
   rw [take_snoc hL]
   exact (x8.keep (Same.new fq)).snoc upd_same
  rintro ps σ' H8 lq ⟨_,s8,x8,l8,fr⟩ flq
  rw [List.take_of_length_le (by omega)] at x8
  have s9:Same H8 (upd H8 lq (.lst ps)):=Same.new flq
  have hp:upd H8 lq (.lst ps) lq=some (.lst ps):=upd_same
  have x2:=x8.keep s9
  have nqp:V.ref lq∉ps:=fun z=>by
   obtain ⟨ns,e⟩:=x8.mem z
   rw [flq] at e; cases e
  have fq7:H7 lq=none:=s8.free flq
  generalize upd H8 lq (.lst ps)=H9 at s9 hp x2 ⊢
  have S2:=s8.trans s9
  have pl':ps.length=Ls.length:=x2.length
  have frO : ∀ a,V.ref a∈ps→H7 a=none:=fun a h=>by
   obtain ⟨a',e,h'⟩:=fr.2 _ h
   injection e with e
   rw [e]; exact h'
  have frP : ∀ a,V.ref a∈ps→H a=none:=fun a h=>fr0 a (frO a h)
  have frq:H lq=none:=fr0 lq fq7
  clear hb0 hu xl2
  obtain ⟨u,hu⟩ : ∃ u,ps[at'.toNat]?=some u:=⟨_,List.getElem?_eq_getElem (by omega)⟩
  obtain ⟨b,L',rfl,hb,hL'⟩:=x2.get hu
  have eL:L'=L:=by rw [hL] at hL'; exact (Option.some.inj hL').symm
  subst eL
  obtain ⟨u2,hu2⟩ : ∃ u,ps[ot.toNat]?=some u:=⟨_,List.getElem?_eq_getElem (by omega)⟩
  obtain ⟨b2,M,rfl,hb2,hM⟩:=x2.get hu2
  have Mm:=List.mem_of_getElem? hM
  have Mb:=mem_flat6 Mm
  have MV:(M.map V.int).length=M.length:=List.length_map ..
  have hbm:=List.mem_of_getElem? hu
  have hbm2:=List.mem_of_getElem? hu2
  have nbq:b≠lq:=fun z=>nqp (by rw [← z]; exact hbm)
  have nbq2:b2≠lq:=fun z=>nqp (by rw [← z]; exact hbm2)
  have smL : ∀ x∈L',0≤x∧x≤60:=fun x hx=>by have:=bd x (List.mem_flatten.mpr ⟨_,Lm,hx⟩); omega
  have smM : ∀ x∈M,0≤x∧x≤60:=fun x hx=>by have:=bd x (List.mem_flatten.mpr ⟨_,Mm,hx⟩); omega
  have smA : ∀ x∈Ls.flatten,0≤x∧x≤60:=fun x hx=>by have:=bd x hx; omega
  obtain ⟨y,hy⟩:=get_lt (ns:=L') (k:=pl.toNat) (by omega)
  have yb:=smL y (List.mem_of_getElem? hy)
  refine ⟨_,rfl,_,rfl,lq,_,_,_,rfl,rfl,SqL.of hp,at_refI a0 hu,_,rfl,b,_,_,_,rfl,rfl,SqL.of hb,at_int p0 hy,?_⟩
  have dX9 : ∀ {G:Hp},Same H7 G→DT G (fun b=>H b=none) xv xd:=fun s=>DT.same dX s
  have setSm : ∀ (i:Nat) (N:List Int),N.length≤26→(∀ x∈N,0≤x∧x≤60)→Sm6 (Ls.set i N):=fun i N h1 h2=>⟨by rw [List.length_set]; omega,by have:=set_flat6 N Ls i; omega,fun x hx=>by
   rcases mem_set_flat hx with h | h
   ·exact smA x h
   ·exact h2 x h⟩
  refine gNJ ?_
  dsimp only
  refine seq_byJ (t:=tIfS _ _ _) (fun σ' H'=>∃ v d,σ'=[some (.ref p),some (.ref l),some (.int wy),some (.int at'),some (.int pl),some (.int ot),some xv,some v,some (.int y)]∧DT H' (fun b=>H b=none) v d∧OkS d∧Same H7 H') (fun D' hD=>?_) ?_
  ·have fin : ∀ (v:V) (d:PyData) (G:Hp),DT G (fun b=>H b=none) v d→OkS d→Same H7 G→D'.nx [some (.ref p),some (.ref l),some (.int wy),some (.int at'),some (.int pl),some (.int ot),some xv,some v,some (.int y)] G:=fun v d G h1 h2 h3=>hD _ _ ⟨v,d,rfl,h1,h2,h3⟩
   have finL : ∀ (c:Addr) (us:List V) (Ms:List (List Int)) (G:Hp),G c=some (.lst us)→H c=none→Lsts G us Ms→(∀ a,V.ref a∈us→H a=none)→Sm6 Ms→Same H7 G→D'.nx [some (.ref p),some (.ref l),some (.int wy),some (.int at'),some (.int pl),some (.int ot),some xv,some (.ref c),some (.int y)] G:=fun c us Ms G h1 h2 h3 h4 h5 h6=>fin _ (shD Ms) G (.lst h1 h2 (h3.dtsF h4)) h5.ok h6
   refine ⟨_,rfl,rfl,_,rfl,ite2 (fun c=>?_) (fun _=>?_)⟩
   ·-- an odd thing put there
    refine ⟨_,rfl,_,rfl,_,rfl,lq,_,_,_,rfl,rfl,SqL.of hp,at_refI a0 hu,_,rfl,b,_,_,pl.toNat,rfl,rfl,hb,ixN_lt p0 (by omega),?_⟩
    have sb:Same H7 (upd H9 b (.lst ((L'.map V.int).set pl.toNat xv))):=Same.put S2 (frO b hbm)
    have db:DT (upd H9 b (.lst ((L'.map V.int).set pl.toNat xv))) (fun b=>H b=none) (.ref b) (.list ((L'.map PyData.int).set pl.toNat xd)):=.lst upd_same (frP b hbm) (DTs.setP _ (DTs.ints L') (dX9 sb))
    refine fin _ (.list ((Ls.map fun L=>PyData.list (L.map PyData.int)).set at'.toNat (.list ((L'.map PyData.int).set pl.toNat xd)))) _ (.lst (by rw [upd_ne nbq.symm]; exact hp) frq (Lsts.putD db at'.toNat x2 fr.1 hu frP)) ?_ sb
    have fe:Fit (11 * L'.length+12) (.list ((L'.map PyData.int).set pl.toNat xd))∧_:=(FitW.lst (k:=1) (by decide) ((FitW.set (B:=11 * L'.length) (k:=1) (by decide) oX.2.1 oX.2.2 pl.toNat (fw_listW fun x hx=>by have:=smL x hx; omega)).mono (by omega) (Nat.le_refl _)))
    have fa:=FitW.lst (k:=2) (by decide) (FitW.set (k:=2) (by decide) fe.1 fe.2 at'.toNat ((fw_sh (Ls:=Ls) fun x hx=>by have:=smA x hx; omega).mono (Nat.le_refl _) (by decide)))
    refine ⟨fun ds e=>?_,?_,fa.1.mono (by omega),Nat.le_trans fa.2 (by decide)⟩
    ·injection e with e
     subst e
     refine ⟨by rw [List.length_set,List.length_map]; omega,?_⟩
     have:=sum_set6 (.list ((L'.map PyData.int).set pl.toNat xd)) (Ls.map fun L=>PyData.list (L.map PyData.int)) at'.toNat
     have e1:lenI (.list ((L'.map PyData.int).set pl.toNat xd))=L'.length:=by show ((L'.map PyData.int).set pl.toNat xd).length=_; rw [List.length_set,List.length_map]
     have e2:((Ls.map fun L=>PyData.list (L.map PyData.int)).map lenI).sum=Ls.flatten.length:=by
      rw [List.map_map]
      have e2:(lenI ∘ fun L:List Int=>PyData.list (L.map PyData.int))=List.length:=funext fun L=>List.length_map ..
      rw [e2,← List.length_flatten]
     omega
    ·refine (nice_list (k:=4) fun d hd=>?_).mono (by decide)
     rcases List.mem_or_eq_of_mem_set hd with hd | rfl
     ·obtain ⟨N,_,rfl⟩:=List.mem_map.mp hd
      exact (nice_list (k:=0) (nice_ints N)).mono (by decide)
     ·refine (nice_list (k:=2) fun d hd=>?_).mono (by decide)
      rcases List.mem_or_eq_of_mem_set hd with hd | rfl
      ·exact nice_ints L' d hd
      ·exact oX.1
   refine ⟨_,rfl,rfl,_,rfl,ite2 (fun c=>?_) (fun _=>?_)⟩
   ·-- a thing put to another part too
    refine ⟨_,rfl,_,rfl,lq,_,_,_,rfl,rfl,SqL.of hp,at_refI o0 hu2,.inl ⟨rfl,_,SqL.of hb2⟩,_,rfl,b2,_,_,rfl,rfl,hb2,by omega,?_⟩
    have e5:M.map V.int++[.int y]=(M++[y]).map V.int:=by rw [List.map_append]; rfl
    rw [e5]
    have x5:=x2.put6 (M:=M++[y]) ot.toNat fr.1 hu2
    refine finL lq ps _ _ (by rw [upd_ne nbq2.symm]; exact hp) frq x5 frP (setSm _ _ (by rw [List.length_append]; show _+1≤26; omega) fun x hx=>?_) (Same.put S2 (frO b2 hbm2))
    rcases List.mem_append.mp hx with hx | hx
    ·exact smM x hx
    ·rw [List.mem_singleton.mp hx]; exact yb
   have erS : ∀ x∈L'.eraseIdx pl.toNat,0≤x∧x≤60:=fun x hx=>smL x (List.mem_of_mem_eraseIdx hx)
   have erL:(L'.eraseIdx pl.toNat).length≤L'.length:=List.length_eraseIdx_le ..
   refine ⟨_,rfl,rfl,_,rfl,ite2 (fun c=>?_) (fun _=>?_)⟩
   ·-- a thing left out
    refine ⟨_,rfl,_,rfl,lq,_,_,_,rfl,rfl,SqL.of hp,at_refI a0 hu,.inl ⟨rfl,_,SqL.of hb⟩,_,rfl,b,_,pl,pl.toNat,_,rfl,rfl,hb,by omega,by omega,(ixN_seq (ixN_lt p0 (by omega))).1,map_get hy,?_⟩
    rw [eraseIdx_map]
    exact finL lq ps _ _ (by rw [upd_ne nbq.symm]; exact hp) frq (x2.put6 (M:=L'.eraseIdx pl.toNat) at'.toNat fr.1 hu) frP (setSm _ _ (by omega) erS) (Same.put S2 (frO b hbm))
   refine ⟨_,rfl,rfl,_,rfl,ite2 (fun c=>?_) (fun _=>?_)⟩
   ·-- a thing put to another part
    refine ⟨_,rfl,_,rfl,lq,_,_,_,rfl,rfl,SqL.of hp,at_refI o0 hu2,_,rfl,_,rfl,lq,_,_,_,rfl,rfl,SqL.of hp,at_refI a0 hu,.inl ⟨rfl,_,SqL.of hb⟩,_,rfl,b,_,pl,pl.toNat,_,rfl,rfl,hb,by omega,by omega,(ixN_seq (ixN_lt p0 (by omega))).1,map_get hy,?_⟩
    rw [eraseIdx_map]
    have x3:=x2.put6 (M:=L'.eraseIdx pl.toNat) at'.toNat fr.1 hu
    have hp3:upd H9 b (.lst ((L'.eraseIdx pl.toNat).map V.int)) lq=some (.lst ps):=by rw [upd_ne nbq.symm]; exact hp
    have S3:Same H7 (upd H9 b (.lst ((L'.eraseIdx pl.toNat).map V.int))):=Same.put S2 (frO b hbm)
    generalize upd H9 b (.lst ((L'.eraseIdx pl.toNat).map V.int))=G1 at x3 hp3 S3 ⊢
    have sm3:=setSm at'.toNat _ (by omega) erS
    have f3l:(Ls.set at'.toNat (L'.eraseIdx pl.toNat)).flatten.length≤24:=by have:=set_flat6 (L'.eraseIdx pl.toNat) Ls at'.toNat; omega
    have l3:(Ls.set at'.toNat (L'.eraseIdx pl.toNat)).length≤12:=by rw [List.length_set]; omega
    generalize Ls.set at'.toNat (L'.eraseIdx pl.toNat)=Ls3 at x3 sm3 f3l l3
    obtain ⟨b3,N,e3,hb3,hN⟩:=x3.get hu2
    injection e3 with e3
    subst e3
    have Nb:=mem_flat6 (List.mem_of_getElem? hN)
    have NV:(N.map V.int).length=N.length:=List.length_map ..
    refine ⟨one,fun q1 f1=>?_⟩
    have z1:Same G1 (upd G1 q1 (.lst [.int y])):=Same.new f1
    have h1:upd G1 q1 (.lst [.int y]) q1=some (.lst [.int y]):=upd_same
    generalize upd G1 q1 (.lst [.int y])=G2 at z1 h1 ⊢
    refine ⟨b2,q1,_,_,rfl,rfl,z1 _ _ hb3,h1,by rw [NV]; show _+1≤_; omega,fun q2 f2=>?_⟩
    have e2:N.map V.int++[.int y]=(N++[y]).map V.int:=by rw [List.map_append]; rfl
    rw [e2]
    have z2:Same G2 (upd G2 q2 (.lst ((N++[y]).map V.int))):=Same.new f2
    have h2:upd G2 q2 (.lst ((N++[y]).map V.int)) q2=some (.lst ((N++[y]).map V.int)):=upd_same
    generalize upd G2 q2 (.lst ((N++[y]).map V.int))=G3 at z2 h2 ⊢
    have nyl:(N++[y]).length=N.length+1:=by rw [List.length_append]; rfl
    refine ⟨q2,N++[y],rfl,SqL.of h2,by omega,fun q3 ns f3 pm pw=>?_⟩
    have nsl:ns.length=N.length+1:=by rw [pm.length_eq,List.length_append]; rfl
    have z3:Same G3 (upd G3 q3 (.lst (ns.map V.int))):=Same.new f3
    have h3:upd G3 q3 (.lst (ns.map V.int)) q3=some (.lst (ns.map V.int)):=upd_same
    have y3:=z1.trans (z2.trans z3)
    have fq3:H7 q3=none:=S3.free ((z1.trans z2).free f3)
    generalize upd G3 q3 (.lst (ns.map V.int))=G4 at z3 h3 y3 ⊢
    have hp4:=y3 _ _ hp3
    have x4:=x3.keep y3
    have S4:=S3.trans y3
    refine ⟨_,rfl,_,rfl,lq,_,_,ot.toNat,rfl,rfl,hp4,ixN_lt o0 (by omega),?_⟩
    have nq3:q3≠lq:=fun z=>by rw [z] at f3; rw [(z1.trans z2) _ _ hp3] at f3; cases f3
    have mem5 : ∀ a,V.ref a∈ps.set ot.toNat (.ref q3)→H7 a=none:=fun a ha=>by
     rcases List.mem_or_eq_of_mem_set ha with ha | ha
     ·exact frO a ha
     ·injection ha with ha; rw [ha]; exact fq3
    have nq5:V.ref lq∉ps.set ot.toNat (.ref q3):=fun z=>by
     rcases List.mem_or_eq_of_mem_set z with ha | ha
     ·exact nqp ha
     ·injection ha with ha; exact nq3 ha.symm
    have x5:=(x4.set6 h3 ot.toNat).off6 (o:=.lst (ps.set ot.toNat (.ref q3))) nq5
    have h5:upd G4 lq (.lst (ps.set ot.toNat (.ref q3))) lq=some (.lst (ps.set ot.toNat (.ref q3))):=upd_same
    have S5:Same H7 (upd G4 lq (.lst (ps.set ot.toNat (.ref q3)))):=Same.put S4 fq7
    have psl:(ps.set ot.toNat (.ref q3)).length≤12:=by rw [List.length_set]; omega
    have sm5 : ∀ x∈(Ls3.set ot.toNat ns).flatten,0≤x∧x≤60:=fun x hx=>by
     rcases mem_set_flat hx with h | h
     ·exact sm3.sml x h
     ·rcases List.mem_append.mp (pm.mem_iff.mp h) with h | h
      ·exact sm3.sml x (List.mem_flatten.mpr ⟨N,List.mem_of_getElem? hN,h⟩)
      ·rw [List.mem_singleton.mp h]; exact yb
    have t5:(Ls3.set ot.toNat ns).flatten.length≤55:=by
     have:=set_flat6 ns Ls3 ot.toNat
     omega
    generalize upd G4 lq (.lst (ps.set ot.toNat (.ref q3)))=G5 at x5 h5 S5 ⊢
    generalize Ls3.set ot.toNat ns=Ls5 at x5 sm5 t5
    generalize ps.set ot.toNat (.ref q3)=ps5 at x5 h5 mem5 psl
    have pl5:=x5.length
    refine ⟨_,rfl,lq,rfl,⟨_,SqL.of h5⟩,compLif (K:=K) (a:=lq) (xs:=ps5) (k:=0) (fun i zs σ' H'=>(∃ v,σ'=[v])∧Same G5 H'∧zs.length≤i∧(∀ v∈zs,v∈ps5)∧∃ Ms:List (List Int),Lsts H' zs Ms∧Ms.flatten.length≤(Ls5.take i).flatten.length∧∀ x∈Ms.flatten,x∈Ls5.flatten) (by omega) ⟨⟨none,rfl⟩,Same.refl _,Nat.zero_le _,(fun v hv=>by cases hv),[],.nil,Nat.zero_le _,fun x hx=>by cases hx⟩ (fun i zs σ' H' _ q=>SqL.of (q.2.1 _ _ h5)) (fun i zs σ' H' q=>q.2.2.1) ?_ ?_⟩
    ·rintro i zs σ' H6 x R hx ⟨⟨v,rfl⟩,s6,zl,zm,Ms,xm,fm,mm⟩ done
     obtain ⟨c,N',rfl,hc,hN'⟩:=(x5.keep s6).get hx
     have tk:(Ls5.take (i+1)).flatten.length=(Ls5.take i).flatten.length+N'.length:=by rw [take_snoc hN',List.flatten_append,List.length_append,List.flatten_cons,List.flatten_nil,List.append_nil]
     refine ⟨_,rfl,Nat.zero_le _,fun le fle=>?_⟩
     have z7:Same H6 (upd H6 le (.lst [])):=Same.new fle
     have h7:upd H6 le (.lst []) le=some (.lst (([] : List Int).map V.int)):=upd_same
     generalize upd H6 le (.lst [])=G7 at z7 h7 ⊢
     refine neLI (z7 _ _ hc) h7 ⟨_,rfl,ite2 (fun cc=>?_) (fun cc=>?_)⟩
     ·refine ⟨_,rfl,done _ _ _ ⟨⟨_,rfl⟩,s6.trans z7,by rw [List.length_append]; show _+1≤_; omega,fun v hv=>?_,Ms++[N'],(xm.keep z7).snoc (z7 _ _ hc),?_,fun x hx=>?_⟩⟩
      ·rcases List.mem_append.mp hv with hv | hv
       ·exact zm v hv
       ·rw [List.mem_singleton.mp hv]; exact List.mem_of_getElem? hx
      ·rw [List.flatten_append,List.length_append,List.flatten_cons,List.flatten_nil,List.append_nil,tk]; omega
      ·rw [List.flatten_append,List.flatten_cons,List.flatten_nil,List.append_nil] at hx
       rcases List.mem_append.mp hx with hx | hx
       ·exact mm x hx
       ·exact List.mem_flatten.mpr ⟨N',List.mem_of_getElem? hN',hx⟩
     ·exact done _ _ _ ⟨⟨_,rfl⟩,s6.trans z7,by omega,zm,Ms,xm.keep z7,by omega,mm⟩
    rintro zs σ' H6 lz ⟨_,s6,zl,zm,Ms,xm,fm,mm⟩ flz
    rw [List.take_of_length_le (by omega)] at fm
    have z7:Same H6 (upd H6 lz (.lst zs)):=Same.new flz
    have ml:=xm.length
    dsimp only [tNil]
    refine sortLB upd_same (xm.keep z7) (by omega) fun l9 us Ns G9 f9 h9 x9 p9 s9 _ _ um _=>?_
    have S9:=S5.trans (s6.trans (z7.trans s9))
    have f97:H7 l9=none:=(S5.trans (s6.trans z7)).free f9
    refine finL l9 us Ns G9 h9 (fr0 _ f97) x9 (fun a ha=>fr0 a (mem5 a (zm _ (um _ ha)))) ⟨by rw [p9.length_eq]; omega,by rw [p9.flatten.length_eq]; omega,fun x hx=>sm5 x (mm x (p9.flatten.mem_iff.mp hx))⟩ S9
   refine ifB (decide (wy=4) && !decide (at'=ot)) (fun kk hk=>?_) (fun c=>?_) (fun _=>?_)
   ·refine ⟨_,rfl,rfl,_,rfl,?_⟩
    have ew:decide (V.int wy=V.int 4)=decide (wy=4):=by rw [Bool.eq_iff_iff,decide_eq_true_eq,decide_eq_true_eq]; exact ⟨fun z=>V.int.inj z,fun z=>by rw [z]⟩
    have eo:decide (V.int at'=V.int ot)=decide (at'=ot):=by rw [Bool.eq_iff_iff,decide_eq_true_eq,decide_eq_true_eq]; exact ⟨fun z=>V.int.inj z,fun z=>by rw [z]⟩
    rw [ew]
    cases c1:decide (wy=4) with
    | false=>rw [c1] at hk; exact iteF hk
    | true =>
     rw [c1,Bool.true_and,← eo] at hk
     exact iteT ⟨_,rfl,_,rfl,rfl,_,rfl,hk⟩
   ·-- two parts joined
    refine ⟨_,rfl,_,rfl,lq,_,_,_,rfl,rfl,SqL.of hp,at_refI o0 hu2,_,rfl,_,rfl,lq,_,_,_,rfl,rfl,SqL.of hp,at_refI a0 hu,b2,b,_,_,rfl,rfl,hb2,hb,by omega,fun q2 f2=>?_⟩
    have e2:M.map V.int++L'.map V.int=(M++L').map V.int:=by rw [List.map_append]
    rw [e2]
    have z2:Same H9 (upd H9 q2 (.lst ((M++L').map V.int))):=Same.new f2
    have h2:upd H9 q2 (.lst ((M++L').map V.int)) q2=some (.lst ((M++L').map V.int)):=upd_same
    generalize upd H9 q2 (.lst ((M++L').map V.int))=G3 at z2 h2 ⊢
    have mll:(M++L').length=M.length+L'.length:=List.length_append
    refine ⟨q2,M++L',rfl,SqL.of h2,by omega,fun q3 ns f3 pm pw=>?_⟩
    have nsl:ns.length=M.length+L'.length:=by rw [pm.length_eq,mll]
    have z3:Same G3 (upd G3 q3 (.lst (ns.map V.int))):=Same.new f3
    have h3:upd G3 q3 (.lst (ns.map V.int)) q3=some (.lst (ns.map V.int)):=upd_same
    have y3:=z2.trans z3
    have fq3:H7 q3=none:=S2.free (z2.free f3)
    have nq3:q3≠lq:=fun z=>by rw [z,z2 _ _ hp] at f3; cases f3
    generalize upd G3 q3 (.lst (ns.map V.int))=G4 at z3 h3 y3 ⊢
    have hp4:=y3 _ _ hp
    have x4:=x2.keep y3
    have S4:=S2.trans y3
    refine ⟨_,rfl,_,rfl,lq,_,_,ot.toNat,rfl,rfl,hp4,ixN_lt o0 (by omega),?_⟩
    have mem5 : ∀ a,V.ref a∈ps.set ot.toNat (.ref q3)→H7 a=none:=fun a ha=>by
     rcases List.mem_or_eq_of_mem_set ha with ha | ha
     ·exact frO a ha
     ·injection ha with ha; rw [ha]; exact fq3
    have nq5:V.ref lq∉ps.set ot.toNat (.ref q3):=fun z=>by
     rcases List.mem_or_eq_of_mem_set z with ha | ha
     ·exact nqp ha
     ·injection ha with ha; exact nq3 ha.symm
    have x5:=(x4.set6 h3 ot.toNat).off6 (o:=.lst (ps.set ot.toNat (.ref q3))) nq5
    have h5:upd G4 lq (.lst (ps.set ot.toNat (.ref q3))) lq=some (.lst (ps.set ot.toNat (.ref q3))):=upd_same
    have S5:Same H7 (upd G4 lq (.lst (ps.set ot.toNat (.ref q3)))):=Same.put S4 fq7
    have psl:(ps.set ot.toNat (.ref q3)).length=ps.length:=by rw [List.length_set]
    have sm5:=setSm ot.toNat ns (by omega) fun x hx=>by
     rcases List.mem_append.mp (pm.mem_iff.mp hx) with h | h
     ·exact smM x h
     ·exact smL x h
    generalize upd G4 lq (.lst (ps.set ot.toNat (.ref q3)))=G5 at x5 h5 S5 ⊢
    generalize Ls.set ot.toNat ns=Ls5 at x5 sm5
    generalize ps.set ot.toNat (.ref q3)=ps5 at x5 h5 mem5 psl nq5
    have pl5:=x5.length
    obtain ⟨u6,hu6⟩ : ∃ u,ps5[at'.toNat]?=some u:=⟨_,List.getElem?_eq_getElem (by omega)⟩
    refine ⟨_,rfl,.inl ⟨rfl,_,SqL.of h5⟩,_,rfl,lq,_,at',at'.toNat,_,rfl,rfl,h5,by omega,by omega,(ixN_seq (ixN_lt a0 (by omega))).1,hu6,?_⟩
    have nq6:V.ref lq∉ps5.eraseIdx at'.toNat:=fun z=>nq5 (List.mem_of_mem_eraseIdx z)
    have x6:=(x5.erase6 at'.toNat).off6 (o:=.lst (ps5.eraseIdx at'.toNat)) nq6
    have h6:upd G5 lq (.lst (ps5.eraseIdx at'.toNat)) lq=some (.lst (ps5.eraseIdx at'.toNat)):=upd_same
    have S6:Same H7 (upd G5 lq (.lst (ps5.eraseIdx at'.toNat))):=Same.put S5 fq7
    generalize upd G5 lq (.lst (ps5.eraseIdx at'.toNat))=G6 at x6 h6 S6 ⊢
    have el:(Ls5.eraseIdx at'.toNat).length≤Ls5.length:=List.length_eraseIdx_le ..
    have ml:=x6.length
    refine ⟨_,rfl,?_⟩
    dsimp only [tNil]
    refine sortLB h6 x6 (by have:=sm5.len; omega) fun l9 us Ns G9 f9 h9 x9 p9 s9 _ _ um _=>?_
    have S9:=S6.trans s9
    have f97:H7 l9=none:=S6.free f9
    have erf:(Ls5.eraseIdx at'.toNat).flatten.Sublist Ls5.flatten:=sub_flat6 (List.eraseIdx_sublist ..)
    refine finL l9 us Ns G9 h9 (fr0 _ f97) x9 (fun a ha=>fr0 a (mem5 a (List.mem_of_mem_eraseIdx (um _ ha)))) ⟨by rw [p9.length_eq]; have:=sm5.len; omega,by rw [p9.flatten.length_eq]; have:=sm5.tot; have:=erf.length_le; omega,fun x hx=>sm5.sml x (erf.subset (p9.flatten.mem_iff.mp hx))⟩ S9
   refine ⟨_,rfl,rfl,_,rfl,ite2 (fun c=>?_) (fun _=>?_)⟩
   ·-- a part turned about
    refine ⟨_,rfl,_,rfl,lq,_,_,_,rfl,rfl,SqL.of hp,at_refI a0 hu,b,_,rfl,SqL.of hb,fun q1 f1=>?_⟩
    rw [← List.map_reverse]
    have z1:Same H9 (upd H9 q1 (.lst (L'.reverse.map V.int))):=Same.new f1
    have h1:upd H9 q1 (.lst (L'.reverse.map V.int)) q1=some (.lst (L'.reverse.map V.int)):=upd_same
    have nq1:q1≠lq:=(ne_of_none hp f1).symm
    have fq1:H7 q1=none:=S2.free f1
    generalize upd H9 q1 (.lst (L'.reverse.map V.int))=G1 at z1 h1 ⊢
    refine ⟨_,rfl,_,rfl,lq,_,_,at'.toNat,rfl,rfl,z1 _ _ hp,ixN_lt a0 (by omega),?_⟩
    have mem5 : ∀ a,V.ref a∈ps.set at'.toNat (.ref q1)→H7 a=none:=fun a ha=>by
     rcases List.mem_or_eq_of_mem_set ha with ha | ha
     ·exact frO a ha
     ·injection ha with ha; rw [ha]; exact fq1
    have nq5:V.ref lq∉ps.set at'.toNat (.ref q1):=fun z=>by
     rcases List.mem_or_eq_of_mem_set z with ha | ha
     ·exact nqp ha
     ·injection ha with ha; exact nq1 ha.symm
    exact finL lq _ _ _ upd_same frq (((x2.keep z1).set6 h1 at'.toNat).off6 nq5) (fun a ha=>fr0 a (mem5 a ha)) (setSm _ _ (by rw [List.length_reverse]; omega) fun x hx=>smL x (List.mem_reverse.mp hx)) (Same.put (S2.trans z1) fq7)
   refine ⟨_,rfl,rfl,_,rfl,ite2 (fun c=>?_) (fun _=>?_)⟩
   ·-- the parts turned about
    refine ⟨_,rfl,lq,_,rfl,SqL.of hp,fun q1 f1=>?_⟩
    have z1:=Same.new (o:=.lst ps.reverse) f1
    exact finL q1 _ _ _ upd_same (fr0 _ (S2.free f1)) ((x2.rev6).keep z1) (fun a ha=>frP a (List.mem_reverse.mp ha)) ⟨by rw [List.length_reverse]; omega,by rw [(List.reverse_perm Ls).flatten.length_eq]; omega,fun x hx=>smA x ((List.reverse_perm Ls).flatten.mem_iff.mp hx)⟩ (S2.trans z1)
   have hP9 : ∀ x,H9 x=none→H x=none:=fun x hx=>fr0 x (S2.free hx)
   have pm0:=Int.emod_nonneg pl (show (5:Int)≠0 by decide)
   have pm1:=Int.emod_lt_of_pos pl (show (0:Int)<5 by decide)
   refine ⟨_,rfl,rfl,_,rfl,ite2 (fun c=>?_) (fun _=>?_)⟩
   ·-- another thing in the place of a part
    refine ⟨_,rfl,_,rfl,lq,_,_,_,rfl,rfl,SqL.of hp,at_refI a0 hu,b,_,rfl,.inl ⟨SqL.of hb,fun t1 f1=>?_⟩⟩
    obtain ⟨A1,S1⟩:=acc_tup (P:=fun b=>H9 b=none) (fun _ h=>h) (Same.refl _) .nil f1 (DTs.ints L')
    generalize upd H9 t1 (.tup (L'.map V.int))=J1 at A1 S1 ⊢
    have A2:=((A1.snoc .non).snoc (.str "1")).snoc (.int 1)
    refine ⟨Nat.zero_le _,fun t2 f2=>?_⟩
    obtain ⟨A3,S3⟩:=acc_lst (P:=fun b=>H9 b=none) (fun _ h=>h) S1 A2 f2 .nil
    generalize upd J1 t2 (.lst [])=J2 at A3 S3 ⊢
    refine ⟨(by show 5≤sizeLine; decide),fun t3 f3=>?_⟩
    have z4:Same J2 (upd J2 t3 (.lst [.ref t1,.non,.str "1", .int 1,.ref t2])):=Same.new f3
    have h4:upd J2 t3 (.lst [.ref t1,.non,.str "1", .int 1,.ref t2]) t3=some (.lst [.ref t1,.non,.str "1", .int 1,.ref t2]):=upd_same
    have A4:=DTs.same A3 z4
    have S4:=S3.trans z4
    generalize upd J2 t3 (.lst [.ref t1,.non,.str "1", .int 1,.ref t2])=J3 at A4 S4 h4 ⊢
    obtain ⟨zv,hzv⟩ : ∃ v,([.ref t1,.non,.str "1", .int 1,.ref t2] : List V)[(pl % 5).toNat]?=some v:=⟨_,List.getElem?_eq_getElem (by show (pl % 5).toNat<5; omega)⟩
    refine ⟨_,rfl,_,_,rfl,rfl,(show (0:Int)<5 by decide),t3,_,_,zv,rfl,rfl,SqL.of h4,at_refI pm0 hzv,?_⟩
    obtain ⟨zd,hzd,dZ⟩:=A4.get hzv
    have oZ:lenI zd=0∧Nice 2 zd∧Fit 150 zd∧zd.depth≤1:=by
     have fl : ∀ {d:PyData},Fit 10 d∧d.depth≤0→lenI d=0→Nice 2 d→lenI d=0∧Nice 2 d∧Fit 150 d∧d.depth≤1:=fun h e n=>⟨e,n,h.1.mono (by decide),by omega⟩
     have:(pl % 5).toNat=0∨(pl % 5).toNat=1∨(pl % 5).toNat=2∨(pl % 5).toNat=3∨(pl % 5).toNat=4:=by omega
     rcases this with e | e | e | e | e <;> rw [e] at hzd <;> injection hzd with hzd <;> subst hzd
     ·have f:=fw_tup (ns:=L') fun x hx=>by have:=smL x hx; omega
      exact ⟨rfl,nice_tuple (k:=1) (nice_ints L'),f.1.mono (by omega),f.2⟩
     ·exact fl f0_none rfl nice_none
     ·exact fl (f0_str (by decide +kernel)) rfl (nice_str (by decide +kernel))
     ·exact fl (f0_int (by decide)) rfl (nice_int _)
     ·have f:=fw_lst (ns:=[]) fun x hx=>by cases hx
      exact ⟨rfl,nice_list (k:=1) (nice_ints []),f.1.mono (by decide),f.2⟩
    refine ⟨_,rfl,_,rfl,lq,_,_,at'.toNat,rfl,rfl,S4 _ _ hp,ixN_lt a0 (by omega),?_⟩
    have dps:DTs H9 (fun b=>H b=none) ps (Ls.map fun L=>PyData.list (L.map PyData.int)):=x2.dtsF frP
    have frA : ∀ c,H c=none∧c≠lq→H c=none:=fun c h=>h.1
    have dpsA:DTs J3 (fun b=>H b=none∧b≠lq) ps (Ls.map fun L=>PyData.list (L.map PyData.int)):=(x2.keep S4).dtsF fun a ha=>⟨frP a ha,fun z=>nqp (by rw [← z]; exact ha)⟩
    have dZA:DT J3 (fun b=>H b=none∧b≠lq) zv zd:=by
     exact dZ.imp fun c h=>⟨fr0 c (S2.free h),fun z=>by rw [z,hp] at h; cases h⟩
    refine fin _ (.list ((Ls.map fun L=>PyData.list (L.map PyData.int)).set at'.toNat zd)) _ (.lst upd_same frq (((dpsA.setP at'.toNat dZA).keep fun c ob hc e=>by rw [upd_ne hc.2]; exact e).imp frA)) ?_ (Same.put (S2.trans S4) fq7)
    have fa:=FitW.lst (k:=1) (by decide) (FitW.set (k:=1) (by decide) oZ.2.2.1 oZ.2.2.2 at'.toNat (fw_sh (Ls:=Ls) fun x hx=>by have:=smA x hx; omega))
    refine ⟨fun ds e=>?_,?_,fa.1.mono (by omega),Nat.le_trans fa.2 (by decide)⟩
    ·injection e with e
     subst e
     refine ⟨by rw [List.length_set,List.length_map]; omega,?_⟩
     have:=sum_set6 zd (Ls.map fun L=>PyData.list (L.map PyData.int)) at'.toNat
     have e2:((Ls.map fun L=>PyData.list (L.map PyData.int)).map lenI).sum=Ls.flatten.length:=by
      rw [List.map_map]
      have e2:(lenI ∘ fun L:List Int=>PyData.list (L.map PyData.int))=List.length:=funext fun L=>List.length_map ..
      rw [e2,← List.length_flatten]
     omega
    ·refine (nice_list (k:=4) fun d hd=>?_).mono (by decide)
     rcases List.mem_or_eq_of_mem_set hd with hd | rfl
     ·obtain ⟨N,_,rfl⟩:=List.mem_map.mp hd
      exact (nice_list (k:=0) (nice_ints N)).mono (by decide)
     ·exact oZ.2.1.mono (by decide)
   refine ⟨_,rfl,rfl,_,rfl,ite2 (fun c=>?_) (fun _=>?_)⟩
   ·-- one part more
    refine ⟨_,rfl,.inl ⟨rfl,_,SqL.of hp⟩,_,rfl,Nat.zero_le _,fun q1 f1=>?_⟩
    have z1:Same H9 (upd H9 q1 (.lst [])):=Same.new f1
    have h1:upd H9 q1 (.lst []) q1=some (.lst []):=upd_same
    generalize upd H9 q1 (.lst [])=G1 at z1 h1 ⊢
    dsimp only [tNil]
    refine sum2_at6 (z1 _ _ hp) (x2.keep z1) h1 (by omega) fun r G2 hr2 z2=>?_
    refine ⟨r,_,rfl,.inl (SqL.of hr2),_,_,rfl,rfl,one,fun q3 f3=>?_⟩
    rw [List.length_map]
    have z3:Same G2 (upd G2 q3 (.lst [.int ((Ls.flatten.length:Int)+1)])):=Same.new f3
    have h3:upd G2 q3 (.lst [.int ((Ls.flatten.length:Int)+1)]) q3=some (.lst ([(Ls.flatten.length:Int)+1].map V.int)):=upd_same
    have y2:=z1.trans z2
    have nq3:q3≠lq:=(ne_of_none (y2 _ _ hp) f3).symm
    have fq3:H7 q3=none:=S2.free (y2.free f3)
    have y3:=y2.trans z3
    generalize upd G2 q3 (.lst [.int ((Ls.flatten.length:Int)+1)])=G3 at h3 y3 ⊢
    refine ⟨lq,_,_,rfl,rfl,y3 _ _ hp,by omega,?_⟩
    have nq5:V.ref lq∉ps++[.ref q3]:=fun z=>by
     rcases List.mem_append.mp z with ha | ha
     ·exact nqp ha
     ·have:=List.mem_singleton.mp ha
      injection this with this
      exact nq3 this.symm
    refine finL lq _ _ _ upd_same frq (((x2.keep y3).snoc h3).off6 nq5) (fun a ha=>?_) ⟨by rw [List.length_append]; show _+1≤14; omega,by rw [List.flatten_append,List.length_append]; show _+1≤55; omega,fun x hx=>?_⟩ (Same.put (S2.trans y3) fq7)
    ·rcases List.mem_append.mp ha with ha | ha
     ·exact frP a ha
     ·have:=List.mem_singleton.mp ha
      injection this with this
      rw [this]; exact fr0 _ fq3
    ·rw [List.flatten_append] at hx
     rcases List.mem_append.mp hx with hx | hx
     ·exact smA x hx
     ·have:x∈[(Ls.flatten.length:Int)+1]:=by simpa using hx
      rw [List.mem_singleton.mp this]; omega
   refine ⟨_,rfl,rfl,_,rfl,ite2 (fun c=>?_) (fun _=>?_)⟩
   ·-- no list
    refine ⟨_,rfl,lq,_,rfl,.inl ⟨SqL.of hp,fun t1 f1=>?_⟩⟩
    obtain ⟨A1,S1⟩:=acc_tup hP9 (Same.refl _) .nil f1 (x2.dtsF frP)
    generalize upd H9 t1 (.tup ps)=J1 at A1 S1 ⊢
    have A2:=(A1.snoc .non).snoc (.str "none")
    refine ⟨Nat.zero_le _,fun t2 f2=>?_⟩
    obtain ⟨A3,S3⟩:=acc_lst hP9 S1 A2 f2 .nil
    generalize upd J1 t2 (.lst [])=J2 at A3 S3 ⊢
    have A3':=A3.snoc (.int 1)
    refine ⟨(by show 5≤sizeLine; decide),fun t3 f3=>?_⟩
    have z4:Same J2 (upd J2 t3 (.lst [.ref t1,.non,.str "none", .ref t2,.int 1])):=Same.new f3
    have h4:upd J2 t3 (.lst [.ref t1,.non,.str "none", .ref t2,.int 1]) t3=some (.lst [.ref t1,.non,.str "none", .ref t2,.int 1]):=upd_same
    have A4:=DTs.same A3' z4
    have S4:=S3.trans z4
    generalize upd J2 t3 (.lst [.ref t1,.non,.str "none", .ref t2,.int 1])=J3 at A4 S4 h4 ⊢
    obtain ⟨zv,hzv⟩ : ∃ v,([.ref t1,.non,.str "none", .ref t2,.int 1] : List V)[(pl % 5).toNat]?=some v:=⟨_,List.getElem?_eq_getElem (by show (pl % 5).toNat<5; omega)⟩
    refine ⟨_,rfl,_,_,rfl,rfl,(show (0:Int)<5 by decide),t3,_,_,zv,rfl,rfl,SqL.of h4,at_refI pm0 hzv,?_⟩
    obtain ⟨zd,hzd,dZ⟩:=A4.get hzv
    refine fin _ zd _ dZ ?_ (S2.trans S4)
    have:(pl % 5).toNat=0∨(pl % 5).toNat=1∨(pl % 5).toNat=2∨(pl % 5).toNat=3∨(pl % 5).toNat=4:=by omega
    rcases this with e | e | e | e | e <;> rw [e] at hzd <;> injection hzd with hzd <;> subst hzd
    ·have f:=(fw_sh (Ls:=Ls) fun x hx=>by have:=smA x hx; omega).tup (by decide)
     refine ⟨fun _ z=>(by cases z),(nice_tuple (k:=1) fun d hd=>?_).mono (by decide),f.1.mono (by omega),Nat.le_trans f.2 (by decide)⟩
     obtain ⟨N,_,rfl⟩:=List.mem_map.mp hd
     exact nice_list (nice_ints N)
    ·exact oks_flat f0_none nice_none (fun _ z=>by cases z)
    ·exact oks_flat (f0_str (by decide +kernel)) (nice_str (by decide +kernel)) (fun _ z=>by cases z)
    ·exact (Sm6.ok (Ls:=[]) ⟨by decide,by decide,fun x hx=>by cases hx⟩)
    ·exact oks_flat (f0_int (by decide)) (nice_int _) (fun _ z=>by cases z)
   refine ⟨_,rfl,rfl,_,rfl,ite2 (fun c=>?_) (fun _=>?_)⟩
   ·-- a part left out
    refine ⟨_,rfl,_,rfl,at',rfl,lq,ps,rfl,SqL.of hp,fun q1 e1=>?_⟩
    rw [cutT9 a0 (by omega)]
    have z1:Same H9 (upd H9 q1 (.lst (ps.take at'.toNat))):=Same.new e1
    have h1:upd H9 q1 (.lst (ps.take at'.toNat)) q1=some (.lst (ps.take at'.toNat)):=upd_same
    generalize upd H9 q1 (.lst (ps.take at'.toNat))=G1 at z1 h1 ⊢
    refine ⟨_,rfl,_,rfl,_,_,rfl,rfl,_,rfl,?_⟩
    try unfold tNoPart
    refine ⟨lq,ps,rfl,SqL.of (z1 _ _ hp),fun q2 e2=>?_⟩
    rw [cutDg (by omega)]
    have z2:Same G1 (upd G1 q2 (.lst (ps.drop (at'+1).toNat))):=Same.new e2
    have h2:upd G1 q2 (.lst (ps.drop (at'+1).toNat)) q2=some (.lst (ps.drop (at'+1).toNat)):=upd_same
    generalize upd G1 q2 (.lst (ps.drop (at'+1).toNat))=G2 at z2 h2 ⊢
    refine ⟨q1,q2,_,_,rfl,rfl,z2 _ _ h1,h2,by rw [List.length_take,List.length_drop]; omega,fun q3 e3=>?_⟩
    have y2:=z1.trans z2
    have z3:=Same.new (o:=.lst (ps.take at'.toNat++ps.drop (at'+1).toNat)) e3
    have y3:=y2.trans z3
    refine finL q3 _ _ _ upd_same (fr0 _ (S2.free (y2.free e3))) (((x2.take6 _).app6 (x2.drop6 _)).keep y3) (fun a ha=>?_) ⟨by rw [List.length_append,List.length_take,List.length_drop]; omega,?_,fun x hx=>?_⟩ (S2.trans y3)
    ·rcases List.mem_append.mp ha with ha | ha
     ·exact frP a (List.mem_of_mem_take ha)
     ·exact frP a (List.mem_of_mem_drop ha)
    ·have:=take_drop_flat Ls at'.toNat
     have:=take_drop_flat Ls (at'+1).toNat
     rw [List.flatten_append,List.length_append]
     omega
    ·rw [List.flatten_append] at hx
     rcases List.mem_append.mp hx with hx | hx
     ·exact smA x (mem_take_flat hx)
     ·exact smA x (mem_drop_flat hx)
   refine ⟨_,rfl,rfl,_,rfl,ite2 (fun c=>?_) (fun _=>?_)⟩
   ·-- a part cut
    refine ⟨_,rfl,_,rfl,lq,_,_,_,rfl,rfl,SqL.of hp,at_refI a0 hu,_,rfl,pl,rfl,b,_,rfl,SqL.of hb,fun q1 e1=>?_⟩
    rw [cutT9 p0 (by omega),← List.map_take]
    have z1:Same H9 (upd H9 q1 (.lst ((L'.take pl.toNat).map V.int))):=Same.new e1
    have h1:upd H9 q1 (.lst ((L'.take pl.toNat).map V.int)) q1=some (.lst ((L'.take pl.toNat).map V.int)):=upd_same
    have fq1:H7 q1=none:=S2.free e1
    generalize upd H9 q1 (.lst ((L'.take pl.toNat).map V.int))=G1 at z1 h1 ⊢
    refine ⟨_,rfl,_,rfl,lq,_,_,_,rfl,rfl,SqL.of (z1 _ _ hp),at_refI a0 hu,_,rfl,_,rfl,?_⟩
    try unfold tNoPart
    refine ⟨b,_,rfl,SqL.of (z1 _ _ hb),fun q2 e2=>?_⟩
    rw [cutDg p0,← List.map_drop]
    have z2:Same G1 (upd G1 q2 (.lst ((L'.drop pl.toNat).map V.int))):=Same.new e2
    have h2:upd G1 q2 (.lst ((L'.drop pl.toNat).map V.int)) q2=some (.lst ((L'.drop pl.toNat).map V.int)):=upd_same
    have fq2:H7 q2=none:=S2.free (z1.free e2)
    generalize upd G1 q2 (.lst ((L'.drop pl.toNat).map V.int))=G2 at z2 h2 ⊢
    have y2:=z1.trans z2
    refine ⟨two,fun q3 f3=>?_⟩
    have z3:Same G2 (upd G2 q3 (.lst [.ref q1,.ref q2])):=Same.new f3
    have h3:upd G2 q3 (.lst [.ref q1,.ref q2]) q3=some (.lst [.ref q1,.ref q2]):=upd_same
    generalize upd G2 q3 (.lst [.ref q1,.ref q2])=G3 at z3 h3 ⊢
    have y3:=y2.trans z3
    refine ⟨_,rfl,_,rfl,at',rfl,lq,ps,rfl,SqL.of (y3 _ _ hp),fun q4 f4=>?_⟩
    rw [cutT9 a0 (by omega)]
    have z4:Same G3 (upd G3 q4 (.lst (ps.take at'.toNat))):=Same.new f4
    have h4:upd G3 q4 (.lst (ps.take at'.toNat)) q4=some (.lst (ps.take at'.toNat)):=upd_same
    generalize upd G3 q4 (.lst (ps.take at'.toNat))=G4 at z4 h4 ⊢
    refine ⟨q3,q4,_,_,rfl,rfl,z4 _ _ h3,h4,by rw [List.length_take]; show 2+_≤_; omega,fun q5 f5=>?_⟩
    have z5:Same G4 (upd G4 q5 (.lst ([.ref q1,.ref q2]++ps.take at'.toNat))):=Same.new f5
    have h5:upd G4 q5 (.lst ([.ref q1,.ref q2]++ps.take at'.toNat)) q5=some (.lst ([.ref q1,.ref q2]++ps.take at'.toNat)):=upd_same
    generalize upd G4 q5 (.lst ([.ref q1,.ref q2]++ps.take at'.toNat))=G5 at z5 h5 ⊢
    have y5:=y3.trans (z4.trans z5)
    refine ⟨_,rfl,_,rfl,_,_,rfl,rfl,_,rfl,?_⟩
    try unfold tNoPart
    refine ⟨lq,ps,rfl,SqL.of (y5 _ _ hp),fun q6 f6=>?_⟩
    rw [cutDg (by omega)]
    have z6:Same G5 (upd G5 q6 (.lst (ps.drop (at'+1).toNat))):=Same.new f6
    have h6:upd G5 q6 (.lst (ps.drop (at'+1).toNat)) q6=some (.lst (ps.drop (at'+1).toNat)):=upd_same
    generalize upd G5 q6 (.lst (ps.drop (at'+1).toNat))=G6 at z6 h6 ⊢
    refine ⟨q5,q6,_,_,rfl,rfl,z6 _ _ h5,h6,by rw [List.length_append,List.length_take,List.length_drop]; show 2+_+_≤_; omega,fun q7 f7=>?_⟩
    have z7:Same G6 (upd G6 q7 (.lst ([.ref q1,.ref q2]++ps.take at'.toNat++ps.drop (at'+1).toNat))):=Same.new f7
    have h7:upd G6 q7 (.lst ([.ref q1,.ref q2]++ps.take at'.toNat++ps.drop (at'+1).toNat)) q7=some (.lst ([.ref q1,.ref q2]++ps.take at'.toNat++ps.drop (at'+1).toNat)):=upd_same
    generalize upd G6 q7 (.lst ([.ref q1,.ref q2]++ps.take at'.toNat++ps.drop (at'+1).toNat))=G7 at z7 h7 ⊢
    have y7:=y5.trans (z6.trans z7)
    have w27:=z3.trans (z4.trans (z5.trans (z6.trans z7)))
    have x7:Lsts G7 ([.ref q1,.ref q2]++ps.take at'.toNat++ps.drop (at'+1).toNat) ([L'.take pl.toNat,L'.drop pl.toNat]++Ls.take at'.toNat++Ls.drop (at'+1).toNat):=Lsts.app6 (Lsts.app6 (.cons (w27 _ _ (z2 _ _ h1)) (.cons (w27 _ _ h2) .nil)) ((x2.keep y7).take6 _)) ((x2.keep y7).drop6 _)
    have tl:([L'.take pl.toNat,L'.drop pl.toNat]++Ls.take at'.toNat++Ls.drop (at'+1).toNat).length≤14:=by rw [List.length_append,List.length_append,List.length_take,List.length_drop]; show 2+_+_≤14; omega
    dsimp only [tNil]
    refine sortLB h7 x7 (by omega) fun l9 us Ns G9 f9 h9 x9 p9 s9 _ _ um _=>?_
    have f97:H7 l9=none:=(S2.trans y7).free f9
    refine finL l9 us Ns G9 h9 (fr0 _ f97) x9 (fun a ha=>?_) ⟨by rw [p9.length_eq]; omega,?_,fun x hx=>?_⟩ (S2.trans (y7.trans s9))
    ·rcases List.mem_append.mp (um _ ha) with ha | ha
     ·rcases List.mem_append.mp ha with ha | ha
      ·rcases List.mem_cons.mp ha with ha | ha
       ·injection ha with ha; rw [ha]; exact fr0 _ fq1
       ·have:=List.mem_singleton.mp ha
        injection this with this
        rw [this]; exact fr0 _ fq2
      ·exact frP a (List.mem_of_mem_take ha)
     ·exact frP a (List.mem_of_mem_drop ha)
    ·have:=take_drop_flat Ls at'.toNat
     have:=take_drop_flat Ls (at'+1).toNat
     rw [p9.flatten.length_eq,List.flatten_append,List.flatten_append,List.length_append,List.length_append,List.flatten_cons,List.flatten_cons,List.flatten_nil,List.append_nil,List.take_append_drop]
     omega
    ·have hx:=p9.flatten.mem_iff.mp hx
     rw [List.flatten_append,List.flatten_append,List.flatten_cons,List.flatten_cons,List.flatten_nil,List.append_nil,List.take_append_drop] at hx
     rcases List.mem_append.mp hx with hx | hx
     ·rcases List.mem_append.mp hx with hx | hx
      ·exact smL x hx
      ·exact smA x (mem_take_flat hx)
     ·exact smA x (mem_drop_flat hx)
   exact finL lq ps Ls H9 hp frq x2 frP ⟨by omega,by omega,smA⟩ S2
  ·rintro σ G ⟨v,d,rfl,h1,h2,h3⟩
   exact ⟨_,rfl,k v d G h1 h2 (pu7.keep h3) (s07.trans h3.x)⟩
end
end Sw
namespace Sw
open PySem L2
section
variable {P:Program} {w:World} {K:PySem.W.Frag} {mg:Str→Option Value} {base:Heap}
theorem sc__law_whole:FnScope ["_law_thing"] ["_law_thing"] (defScope (top 66)):=⟨rfl,rfl,rfl,by decide +kernel,rfl,by decide +kernel,by decide +kernel⟩
theorem ok_lwE {f:Addr} {fd:FuncData} (F:Fun K "_law_whole" "_law_whole" (top 66) f fd) (T:T1 mg K) : FnOk P w K mg base CX0 1 f fd ["_law_thing"] spIwD:=by
 refine F.ok sc__law_whole (fun vs H Q E h=>?_) (fun cdv A outer s H vs Q E hr h=>?_)
 ·obtain ⟨v,P,d,rfl,_⟩:=h
  rfl
 ·obtain ⟨v,P,d,rfl,hd,k⟩:=h
  refine ⟨_,(pss_one (ps_ret (pe_and (pe_callB (call_isiK (K:=K) rfl) rfl T.b_isinstance (by decide +kernel) (pa_cons (pv 0) (pa_cons (pe_bltn (v:=.ty "int") rfl T.b_int (by decide +kernel) rfl) pa_nil))) (pe_one (pe_not (pe_callB (call_isiK (K:=K) rfl) rfl T.b_isinstance (by decide +kernel) (pa_cons (pv 0) (pa_cons (pe_bltn (v:=.ty "bool") rfl T.b_bool (by decide +kernel) rfl) pa_nil)))))))),?_⟩
  refine ⟨_,rfl,_,_, "int", _,rfl,hd.ty,kit_int K hd,_,rfl,ite2 (fun c=>?_) (fun c=>?_)⟩
  ·refine ⟨_,rfl,_,_, "bool", _,rfl,hd.ty,kit_bool K hd,_,rfl,?_⟩
   cases hd <;> first | exact k | exact absurd c Bool.false_ne_true
  ·cases hd <;> first | exact k | exact absurd rfl c
end
end Sw
namespace Sw
open PySem L2
def spSz6:Sp:=fun vs H Q _=>∃ (v:V) (P:Addr→Prop) (d:PyData),vs=[v]∧DT H P v d∧Q (.bl (btw 1 12 d)) H
structure TSz6 (P:Program) (w:World) (K:PySem.W.Frag) (mg:Str→Option Value) (base:Heap) : Prop extends T1 mg K where
 f__law_whole:FnAt P w K mg base "_law_whole" 1 ["_law_thing"] spIwD
section
variable {P:Program} {w:World} {K:PySem.W.Frag} {mg:Str→Option Value} {base:Heap}
theorem sc__law_is_size:FnScope ["_law_thing"] ["_law_thing"] (defScope (top 74)):=⟨rfl,rfl,rfl,by decide +kernel,rfl,by decide +kernel,by decide +kernel⟩
theorem ok_sz6 {f:Addr} {fd:FuncData} (F:Fun K "_law_is_size" "_law_is_size" (top 74) f fd) (T:TSz6 P w K mg base) : FnOk P w K mg base CX0 2 f fd ["_law_thing"] spSz6:=by
 refine F.ok sc__law_is_size (fun vs H Q E h=>?_) (fun cdv A outer s H vs Q E hr h=>?_)
 ·obtain ⟨v,P,d,rfl,_⟩:=h
  rfl
 ·obtain ⟨v,P,d,rfl,hd,k⟩:=h
  refine ⟨_,(pss_one (ps_ret (pe_and (pe_callF T.f__law_whole (hr.mono (by first | decide | omega)) rfl (pa_cons (pv 0) pa_nil)) (pe_one (pe_chain op_le op_le pe_int (pv 0) pe_int))))),?_⟩
  refine ⟨_,rfl,v,P,d,rfl,hd,_,rfl,?_⟩
  cases hd with
  | int x =>
   refine iteT ?_
   refine ⟨_,rfl,_,_,rfl,rfl,_,rfl,ite2 (fun c=>?_) (fun c=>?_)⟩
   ·have c : 1≤x:=of_decide_eq_true c
    have e:btw 1 12 (.int x)=decide (x≤12):=by show decide (1≤x∧x≤12)=_; rw [Bool.eq_iff_iff]; simp [c]
    rw [e] at k
    exact ⟨_,_,rfl,rfl,k⟩
   ·have c : ¬ 1≤x:=of_decide_eq_false (by simpa using c)
    have e:btw 1 12 (.int x)=false:=by show decide (1≤x∧x≤12)=_; simp [c]
    rw [e] at k
    exact k
  | _=>exact iteF k
end
end Sw
namespace L2
open PySem PySem.Spec PyProof.Rows
inductive One (x0:Str) : List (Str × NameKind)→Prop
 | here {r:List (Str × NameKind)} : (∀ y∈r,y.2≠.cell)→One x0 ((x0,.cell) :: r)
 | skip {n:Str} {k:NameKind} {r:List (Str × NameKind)} : k≠.cell→One x0 r→One x0 ((n,k) :: r)
theorem One.only {x0:Str} : ∀ {ns:List (Str × NameKind)},One x0 ns→∀ y∈ns,y.2=.cell→y.1=x0
 | _,.here h,y,hy,e=>by
  rcases List.mem_cons.mp hy with rfl | hy
  ·rfl
  ·exact absurd e (h y hy)
 | _,.skip h r,y,hy,e=>by
  rcases List.mem_cons.mp hy with rfl | hy
  ·exact absurd e h
  ·exact r.only y hy e
def cxK (X:Cx) (N:List Str) (scope:Scope) (x0:Str) (C:Addr) (fp:List Addr) (s:Shared) (H:Hp) : Cx :=
 { X with N:=N,s₀:=s,H₀:=H,env:=compEnvC scope ((x0,C+1) :: closL X.env.cells scope.names []) C X.env,outer:=X.stack,stack:=X.stack,ex:=fp,fn:=fun y=>y == x0,xe:=fun _ _=>False }
structure CompOkK (X:Cx) (scope:Scope) (N:List Str) (ix:List (Option Nat)) (x0:Str) : Prop where
 kind:scope.kind=.function
 own:One x0 scope.names
 nof:(x0,NameKind.free)∉scope.names
 len:ix.length=N.length
 names : ∀ y∈scope.names,y.2=.local→scope.names.lookup y.1=some .local
 fr : ∀ y∈scope.names,y.2=.free→X.env.kindOf y.1=some .cell∨X.env.kindOf y.1=some .free
 cap : ∀ (j i:Nat),ix[j]?=some (some i)→∃ x:Str,N[j]?=some x∧X.N[i]?=some x∧scope.names.lookup x=some .free∧(x,NameKind.free)∈scope.names
theorem nocells {s:Shared} {M:Model} {A:Around} {E:Value→Shared→Prop} {Q:List (Str × Addr)→Shared→Prop} : ∀ (ns:List (Str × NameKind)) (cells:List (Str × Addr)),(∀ y∈ns,y.2≠.cell)→Q cells s →
  wpAny M A (forIn ns cells fun x __s=>(match x with | (name,kind)=>if (kind == NameKind.cell)=true then (do let c ← alloc { cls:=.type "cell", data:=.cell none }; pure (ForInStep.yield ((name,c) :: __s))) else pure (ForInStep.yield __s)) : Sem (List (Str × Addr))) Q E s
 | [],cells,_,h=>by
  rw [List.forIn_nil]
  exact wpAny_pure h
 | (n,k) :: r,cells,hn,h=>by
  rw [List.forIn_cons]
  have hk:(k == NameKind.cell)=false:=by
   have:=hn (n,k) List.mem_cons_self
   cases k <;> first | rfl | exact absurd rfl this
  simp only [hk,Bool.false_eq_true,if_false,pure_bind]
  exact nocells r cells (fun y hy=>hn y (List.mem_cons_of_mem _ hy)) h
theorem onecell {x0:Str} {M:Model} {A:Around} {E:Value→Shared→Prop} {Q:List (Str × Addr)→Shared→Prop} : ∀ {s:Shared} (ns:List (Str × NameKind)) (cells:List (Str × Addr)),One x0 ns→Q ((x0,s.heap.objs.size) :: cells) { s with heap:=s.heap.push { cls:=.type "cell", data:=.cell none } } →
  wpAny M A (forIn ns cells fun x __s=>(match x with | (name,kind)=>if (kind == NameKind.cell)=true then (do let c ← alloc { cls:=.type "cell", data:=.cell none }; pure (ForInStep.yield ((name,c) :: __s))) else pure (ForInStep.yield __s)) : Sem (List (Str × Addr))) Q E s
 | s,_,cells,.here (r:=r) hn,h=>by
  rw [List.forIn_cons]
  simp only [show (NameKind.cell == NameKind.cell)=true from rfl,if_true,bind_assoc,pure_bind]
  exact wpAny_bind (wpAny_alloc (nocells r _ hn h))
 | s,_,cells,.skip (n:=n) (k:=k) (r:=r) hk o,h=>by
  rw [List.forIn_cons]
  have hk:(k == NameKind.cell)=false:=by cases k <;> first | rfl | exact absurd rfl hk
  simp only [hk,Bool.false_eq_true,if_false,pure_bind]
  exact onecell r cells o h
theorem newEnvK {M:Model} {A:Around} {E:Value→Shared→Prop} {s:Shared} {scope:Scope} {x0:Str} {globals:Addr} {cl:List (Str × Addr)} {qual:Str} {oe:Env} {Q:Env→Shared→Prop} (o:One x0 scope.names)
  (h:Q { scope:=scope,locals:=s.heap.objs.size,globals:=globals,cells:=(x0,s.heap.objs.size+1) :: cl,qual:=qual,func:=none,code:=oe.code,frame:=oe.frame,builtins:=oe.builtins } { s with heap:=(s.heap.push { cls:=.type "dict", data:=.dict #[] }).push { cls:=.type "cell", data:=.cell none } }) :
  wpAny M A (newFunctionEnv scope globals cl [] qual none .none (some oe)) Q E s:=by
 rw [newFunctionEnv.eq_1]
 refine wpAny_bind (wpAny_alloc ?_)
 refine wpAny_bind (onecell _ _ o ?_)
 simp only [List.forIn_nil,pure_bind]
 refine wpAny_pure ?_
 rw [← show (s.heap.push { cls:=.type "dict", data:=.dict #[] }).objs.size=s.heap.objs.size+1 from Heap.size_push _ _] at h
 exact h
theorem of_relabelK {env:Env} {x0:Str} : ∀ {names:List (Str × NameKind)} {x:Str} {q:NameKind},(names.map fun (n,k)=>if (k == NameKind.free && env.scope.kind == .function && env.kindOf n == some .cell) then (n,NameKind.cell) else (n,k)).lookup x=some q →
  (∀ y∈names,y.2=.cell→y.1=x0)→q=.cell∨q=.free→x=x0∨(x,NameKind.free)∈names
 | [],_,_,h,_,_=>by simp at h
 | (n,k) :: r,x,q,h,hn,hq=>by
  have ih:=@of_relabelK env x0 r x q
  have h:List.lookup x ((if (k == NameKind.free && env.scope.kind == .function && env.kindOf n == some .cell)=true then (n,NameKind.cell) else (n,k)) :: r.map fun (n,k)=>if (k == NameKind.free && env.scope.kind == .function && env.kindOf n == some .cell) then (n,NameKind.cell) else (n,k))=some q:=h
  have nk:k=.cell→n=x0:=hn (n,k) List.mem_cons_self
  have hn' : ∀ y∈r,y.2=.cell→y.1=x0:=fun y hy=>hn y (List.mem_cons_of_mem _ hy)
  cases hx:x == n with
  | true =>
   have e:x=n:=by simpa using hx
   subst e
   by_cases hc:(k == NameKind.free && env.scope.kind == .function && env.kindOf x == some .cell)=true
   ·have:k=.free:=by
     simp only [Bool.and_eq_true] at hc
     simpa using hc.1.1
    subst this
    exact .inr List.mem_cons_self
   ·rw [if_neg hc] at h
    simp only [List.lookup_cons,hx] at h
    cases h
    rcases hq with z | z
    ·exact .inl (nk z)
    ·rw [z]; exact .inr List.mem_cons_self
  | false =>
   by_cases hc:(k == NameKind.free && env.scope.kind == .function && env.kindOf n == some .cell)=true
   ·rw [if_pos hc] at h; simp only [List.lookup_cons,hx] at h; exact (ih h hn' hq).imp id fun z=>List.mem_cons_of_mem _ z
   ·rw [if_neg hc] at h; simp only [List.lookup_cons,hx] at h; exact (ih h hn' hq).imp id fun z=>List.mem_cons_of_mem _ z
theorem subK {cells:List (Str × Addr)} {ns:List (Str × NameKind)} {x0 x:Str} {a d:Addr} (e:List.lookup x ((x0,a) :: closL cells ns [])=some d) : (x=x0∧d=a)∨cells.lookup x=some d:=by
 rw [List.lookup_cons] at e
 cases h:x == x0 with
 | true =>
  rw [h] at e
  have:a=d:=by simpa using e
  exact .inl ⟨by simpa using h,this.symm⟩
 | false =>
  rw [h] at e
  rcases closL_sub e with z | z
  ·simp at z
  ·exact .inr z
theorem hasK {L:List (Str × Addr)} {x0 x:Str} {a d:Addr} (n:x≠x0) (e:L.lookup x=some d) : List.lookup x ((x0,a) :: L)=some d:=by
 rw [List.lookup_cons,show (x == x0)=false by simpa using n]
 exact e
section
variable {X:Cx} {pins:List (Addr × Obj)} {σ : St} {H:Hp} {s:Shared} {scope:Scope} {N:List Str} {ix:List (Option Nat)} {fp:List Addr} {x0:Str}
theorem CompOkK.ok (c:CompOkK X scope N ix x0) (I:Inv X pins σ H s) (hf : ∀ b∈fp,FpOk X pins H b) (hlt : ∀ b∈fp,b<s.heap.objs.size) {C:Nat} (hC:s.heap.objs.size≤C) : (cxK X N scope x0 C fp s H).Ok where
 mod:=I.ok.mod
 kind:=c.kind
 glob:=I.ok.glob
 blt:=I.ok.blt
 above:=hC
 inj:=fun x y d h1 h2=>by
  have h1:=subK h1
  have h2:=subK h2
  have lt : ∀ z,X.env.cells.lookup z=some d→d≠C+1:=fun z e=>by
   obtain ⟨v,o,ho,_⟩:=I.cell z d e
   have : @LT.lt Nat _ d s.heap.objs.size:=Heap.lt_size ho
   exact Nat.ne_of_lt (Nat.lt_of_lt_of_le this (Nat.le_succ_of_le hC))
  rcases h1 with ⟨e1,e2⟩ | z
  ·rcases h2 with ⟨e3,e4⟩ | z'
   ·rw [e1,e3]
   ·exact absurd e2 (lt y z')
  ·rcases h2 with ⟨e3,e4⟩ | z'
   ·exact absurd e4 (lt x z)
   ·exact I.ok.inj x y d z z'
 has:=fun x h=>by
  have hm:x=x0∨(x,NameKind.free)∈scope.names:=by
   rcases h with h | h
   ·exact of_relabelK h c.own.only (.inl rfl)
   ·exact of_relabelK h c.own.only (.inr rfl)
  rcases hm with rfl | hm
  ·exact ⟨C+1,by show List.lookup x ((x,C+1) :: _)=_; simp [List.lookup_cons]⟩
  ·obtain ⟨d,hd⟩:=I.ok.has x (c.fr _ hm rfl)
   exact ⟨d,hasK (fun z=>c.nof (z ▸ hm)) (closL_has hd (.inl hm))⟩
 cab:=fun x d h e=>by
  have h:x=x0:=by simpa [cxK] using h
  rcases subK e with ⟨_,e2⟩ | z
  ·rw [e2]; exact Nat.le_succ_of_le hC
  ·subst h
   have e:List.lookup x ((x,C+1) :: closL X.env.cells scope.names [])=some d:=e
   rw [List.lookup_cons,show (x == x)=true by simp] at e
   have e:C+1=d:=by simpa using e
   rw [← e]; exact Nat.le_succ_of_le hC
 hd:=I.ok.hd
 frames:=I.ok.frames
 stk:=.inl rfl
 exf:=fun b hb=>by
  refine ⟨fun z=>?_,fun x d e z=>?_⟩
  ·have z:b=C:=z
   have:=hlt b hb
   rw [z] at this
   exact absurd (Nat.lt_of_lt_of_le this hC) (Nat.lt_irrefl _)
  ·rcases subK e with ⟨_,q⟩ | q
   ·have:=hlt b hb
    rw [← z,q] at this
    exact absurd (Nat.lt_of_lt_of_le this (Nat.le_succ_of_le hC)) (Nat.lt_irrefl _)
   ·exact (hf b hb).2.2.2.2.1 x d q z
 bs:=fun b o e=>I.bs b o e
 bsz:=Nat.le_trans I.ok.bsz I.sz
 noex:=fun b o e hb=>by
  rcases (hf b hb).2.2.2.1 with z | z
  ·exact I.ok.noex b o e z
  ·exact absurd (Nat.lt_of_lt_of_le (Heap.lt_size (I.ok.bs b o e).1) z) (Nat.lt_irrefl _)
 exfs:=fun b hb z=>by
  rcases List.mem_cons.mp (I.stkSub b z) with e | e
  ·exact (hf b hb).2.1 e
  ·exact (hf b hb).2.2.1 e
 funs:=I.stack
 frf:=I.stkFree
theorem CompOkK.enter (c:CompOkK X scope N ix x0) (I:Inv X pins σ H s) (hf : ∀ b∈fp,FpOk X pins H b) (ho : ∀ b∈fp,∃ o,s.heap.get? b=some o∧∀ v,o.data≠.cell v) {C D:Nat} {h':Heap} {t':Nat} {m:Str→Option Value} {oD:Obj} (hC:C=s.heap.objs.size+1) (hD:D=s.heap.objs.size)
  (k : ∀ b o,s.heap.get? b=some o→h'.get? b=some o) (hn:h'.Ns C m) (hcl:h'.IsCell (C+1) none) (hoD:h'.get? D=some oD) (hdD : ∀ v,oD.data≠.cell v) :
  Inv (cxK X N scope x0 C fp s H) (pins++[(D,oD)]) (startC ix σ) H { s with heap:=h',toks:=t' }:=by
 have hlt : ∀ b∈fp,b<s.heap.objs.size:=fun b hb=>let ⟨o,e,_⟩:=ho b hb; Heap.lt_size e
 refine ⟨c.ok I hf hlt (by omega),rfl,I.bare,Un.kept k,⟨m,hn,fun j x v e1 e2 e3=>?_⟩,fun x d e=>?_,I.hok.fresh (by show s.heap.objs.size≤C; omega),fun x d e=>?_,fun p hp=>?_,I.hok.kept k,?_⟩
 ·have e2:(ix.map fun o=>o.bind fun i=>(σ[i]?).join)[j]?=some (some v):=e2
  rw [List.getElem?_map] at e2
  cases hj:ix[j]? with
  | none=>rw [hj] at e2; cases e2
  | some o =>
   rw [hj] at e2
   cases o with
   | none=>cases e2
   | some i =>
    have e2:some ((σ[i]?).join)=some (some v):=e2
    obtain ⟨x',a1,a2,a3,a4⟩:=c.cap j i hj
    have e1:N[j]?=some x:=e1
    rw [e1] at a1
    cases a1
    have hs : σ[i]?=some (some v):=by
     have z:=Option.some.inj e2
     cases q : σ[i]? with
     | none=>rw [q] at z; cases z
     | some w=>rw [q] at z; have z:w=some v:=z; rw [z]
    have kx:=c.fr _ a4 rfl
    obtain ⟨m0,hn0,hl0⟩:=I.loc
    obtain ⟨u,r,l⟩:=hl0 i x v a2 hs (kx.elim (fun z=>.inr (.inl z)) fun z=>.inr (.inr z))
    refine ⟨u,r,.inr ⟨?_,?_⟩⟩
    ·exact lookup_relabel_free (env:=X.env) a3
    ·rcases l with ⟨z,_⟩ | ⟨_,d,hd,hcell⟩
     ·rcases kx with q | q <;> rw [q] at z <;> cases z
     ·refine ⟨d,hasK (fun z=>c.nof (z ▸ a4)) (closL_has hd (.inl a4)),?_⟩
      obtain ⟨o,ho,hdt⟩:=hcell
      exact ⟨o,k d o ho,hdt⟩
 ·rcases subK e with ⟨_,rfl⟩ | e
  ·exact ⟨none,hcl⟩
  ·obtain ⟨v,o,ho,hdt⟩:=I.cell x d e
   exact ⟨v,o,k d o ho,hdt⟩
 ·rcases subK e with ⟨_,rfl⟩ | e
  ·exact I.hok.fresh (by show s.heap.objs.size≤C+1; omega)
  ·exact I.freeC x d e
 ·have nstk : ∀ b,b≠X.env.locals→b∉X.fs→b∉frs X.stack:=fun b h1 h2 z=>by
   rcases List.mem_cons.mp (I.stkSub b z) with e | e
   ·exact h1 e
   ·exact h2 e
  have old : ∀ p∈X.pn++pins,h'.get? p.1=some p.2∧H p.1=none∧p.1≠C∧p.1∉frs X.stack∧∀ v,p.2.data≠.cell v:=fun p hp=>by
   obtain ⟨a1,a2,a3,a4,a5⟩:=I.pin p hp
   have : @LT.lt Nat _ p.1 s.heap.objs.size:=Heap.lt_size a1
   exact ⟨k _ _ a1,a2,Nat.ne_of_lt (by rw [hC]; exact Nat.lt_succ_of_lt this),nstk _ a3 a4,a5⟩
  have hp:p∈X.pn++(pins++[(D,oD)]):=hp
  rcases List.mem_append.mp hp with z | z
  ·exact old p (List.mem_append_left _ z)
  ·rcases List.mem_append.mp z with z | z
   ·exact old p (List.mem_append_right _ z)
   ·have e:p=(D,oD):=by simpa using z
    subst e
    have lt : @LT.lt Nat _ X.env.locals s.heap.objs.size:=I.lt
    refine ⟨hoD,I.hok.fresh (by show s.heap.objs.size≤D; omega),(by show (D:Nat)≠C; omega),nstk D (Nat.ne_of_gt (by rw [hD]; exact lt)) (I.nofs (by omega)),hdD⟩
 ·show (ix.map _).length=N.length
  rw [List.length_map,c.len]
theorem CompOkK.leave (c:CompOkK X scope N ix x0) (I:Inv X pins σ H s) (hf : ∀ b∈fp,FpOk X pins H b) {C D:Nat} {σ':St} {H':Hp} {s':Shared} {ys:List V} {its:List Value} {n:Nat} {pl:List (Addr × Obj)} (hC:C=s.heap.objs.size+1) (hD:D=s.heap.objs.size)
  (I':Inv (cxK X N scope x0 C fp s H) (pl++[(D,{ cls:=.type "list", data:=.seq its.toArray n })]) σ' H' s') (rv:Vals ys its) (hz:ys.length≤sizeLine) :
  Inv X pins σ (upd H' D (.lst ys)) s':=by
 have pD:=I'.pin (D,_) (List.mem_append_right _ (List.mem_append_right _ List.mem_cons_self))
 have hDn:H' D=none:=pD.2.1
 have u:Un (frs X.stack) fp H H' s.heap s'.heap:=I'.base
 have hlt : ∀ b o,s.heap.get? b=some o→b≠D:=fun b o e=>Nat.ne_of_lt (by have : @LT.lt Nat _ b s.heap.objs.size:=Heap.lt_size e; rw [hD]; exact this)
 refine I.call' (ch:=fp) I'.os ?_ ?_ I'.bare fun b hb=>?_
 ·refine ⟨u.keep,u.slot,fun b o e n hx=>by rw [upd_ne (hlt b o e)]; exact u.free b o e n hx,u.there,fun b xs e=>?_,fun b o w e=>?_,fun b ps e=>?_⟩
  ·have e':=u.tups b xs e
   rw [upd_ne (ne_of_none e' hDn)]; exact e'
  ·have e':=u.frzs b o w e
   rw [upd_ne (ne_of_none e' hDn)]; exact e'
  ·obtain ⟨more,e'⟩:=u.tbls b ps e
   exact ⟨more,by rw [upd_ne (ne_of_none e' hDn)]; exact e'⟩
 ·intro b o e
  by_cases hb:b=D
  ·subst hb
   rw [upd_same] at e
   cases e
   exact ⟨hz,its,n,rv,pD.1⟩
  ·rw [upd_ne hb] at e
   refine (I'.hok b o e).stay (fun _ _ _ q=>q) (fun a q=>?_) fun a xs q=>?_
   ·rw [upd_ne (ne_of_none q hDn)]; exact q
   ·rw [upd_ne (ne_of_none q hDn)]; exact q
 ·obtain ⟨f0,f1,f2,f3,f4,f5⟩:=hf b hb
  exact ⟨f3,f1,f4,f5⟩
end
section
variable {X:Cx} {scope:Scope} {N:List Str} {ix:List (Option Nat)} {x0:Str} {elt tg iter:Expr} {ifs:List Expr} {g:TG} {tc:TT} {te:TE} {pos:Pos}
theorem comp_blockK {pins:List (Addr × Obj)} {σ : St} {s2:Shared} {Q:VK} {itv:Value} {RR:Value→Addr→Result→Shared→Prop} {E:Value→Shared→Prop} (c:CompOkK X scope N ix x0) (hc:X.calm=true)
  (hg : ∀ C fp s H,PG (cxK X N scope x0 C fp s H) tg g) (ht : ∀ C fp s H,PIf (cxK X N scope x0 C fp s H) ifs tc) (he : ∀ C fp s H,PE (cxK X N scope x0 C fp s H) elt te)
  (h2:PIE X pins σ tg (rComp ix g tc te σ Q) itv s2)
  (hR : ∀ (D C:Addr) (s':Shared) (H':Hp) (m:Str→Option Value),Inv X pins σ H' s'→s'.heap.Ns C m→H' C=none→X.s₀.heap.objs.size≤C→(∀ p∈X.pn++pins,p.1≠C)→C≠X.env.locals→(∀ x c,X.env.cells.lookup x=some c→c≠C)→Q (.ref D) H'→RR (.ref D) C (.ok .next) s') :
  wpAny (model X.prog X.w) X.A (newList []) (fun acc s₃=>wpAny (model X.prog X.w) X.A (newFunctionEnv scope X.env.globals (closL X.env.cells scope.names []) [] X.env.qual none .none (some X.env)) (fun cenv s₄ =>
   codeAny (model X.prog X.w) X.A (.compStart (.ListComp elt [⟨tg,iter,ifs,0⟩] scope pos) 0 itv acc { cenv with scope:=relabel scope X.env }) (RR acc cenv.locals) s₄) E s₃) E s2:=by
 obtain ⟨it,fp,tn,J,H2,rfl,I2,T,st2,f2,W,⟨m0,w0⟩,turn⟩:=h2
 refine wpAny_newObj_type (newEnvK c.own ?_)
 dsimp only
 generalize hH2:s2.heap.push { cls:=.type "list", dict:=none,data:=.seq ([] : List Value).toArray }=G2
 have hCs:G2.objs.size=s2.heap.objs.size+1:=by rw [← hH2,Heap.size_push]
 have hns₁ : ((G2.push { cls:=.type "dict", data:=.dict #[] }).push { cls:=.type "cell", data:=.cell none }).Ns G2.objs.size (fun _=>none):=(Heap.Ns.new G2 _).push _
 have oldG : ∀ b o,G2.get? b=some o→((G2.push { cls:=.type "dict", data:=.dict #[] }).push { cls:=.type "cell", data:=.cell none }).get? b=some o:=fun b o e=>Heap.get?_push_of_some _ (Heap.get?_push_of_some _ e)
 have hcl:((G2.push { cls:=.type "dict", data:=.dict #[] }).push { cls:=.type "cell", data:=.cell none }).IsCell (G2.objs.size+1) none:=⟨_,by rw [← Heap.size_push G2 { cls:=.type "dict", data:=.dict #[] }]; exact Heap.get?_push_size _ rfl,rfl⟩
 generalize (G2.push { cls:=.type "dict", data:=.dict #[] }).push { cls:=.type "cell", data:=.cell none }=h₁ at hns₁ oldG hcl ⊢
 generalize hCe:G2.objs.size=C at hns₁ hcl hCs ⊢
 generalize hDe:s2.heap.objs.size=D at hCs ⊢
 have ltC : ∀ b,@LT.lt Nat _ b D→b≠C:=fun b hb=>Nat.ne_of_lt (by rw [hCs]; exact Nat.lt_succ_of_lt hb)
 have ltS : ∀ b o,s2.heap.get? b=some o→@LT.lt Nat _ b D:=fun b o e=>by rw [← hDe]; exact Heap.lt_size e
 have hDC:D≠C:=Nat.ne_of_lt (by rw [hCs]; exact Nat.lt_succ_self _)
 have old : ∀ b o,s2.heap.get? b=some o→h₁.get? b=some o:=fun b o e=>oldG b o (hH2 ▸ Heap.get?_push_of_some _ e)
 have hoD:h₁.get? D=some { cls:=.type "list", dict:=none,data:=.seq ([] : List Value).toArray }:=by
  refine oldG _ _ ?_
  rw [← hH2,← hDe]
  exact Heap.get?_push_size _ rfl
 have I4:Inv (cxK X N scope x0 C fp s2 H2) (pins++[(D,{ cls:=.type "list", data:=.seq ([] : List Value).toArray })]) (startC ix σ) H2 { s2 with heap:=h₁ } :=
  c.enter (t':=s2.toks) I2 f2 (T.obj _ _ st2) (by rw [hCs,hDe]) hDe.symm old hns₁ hcl hoD fun v z=>by cases z
 have st4:tn 0 h₁:=T.keep _ _ _ st2 fun b _ o e=>old b o e
 have pinD : ∀ p∈X.pn++pins,p.1≠D:=fun p hp=>Nat.ne_of_lt (ltS _ _ (I2.pin p hp).1)
 have pinC : ∀ p∈X.pn++pins,p.1≠C:=fun p hp=>ltC _ (ltS _ _ (I2.pin p hp).1)
 have celD : ∀ x d,X.env.cells.lookup x=some d→@LT.lt Nat _ d D:=fun x d e=>by
  obtain ⟨v,o,ho,_⟩:=I2.cell x d e
  exact ltS d o ho
 have fpD : ∀ b∈fp,@LT.lt Nat _ b D:=fun b hb=>by
  obtain ⟨o,e,_⟩:=T.obj _ _ st2 b hb
  exact ltS b o e
 have stat : ∀ {H':Hp} {oD:Obj},(∀ b∈fp,H' b=none)→∀ b∈fp,FpOk (cxK X N scope x0 C fp s2 H2) (pins++[(D,oD)]) H' b:=fun {H' oD} hn b hb=>by
  obtain ⟨f0,f1,f2,f3,f4,f5⟩:=f2 b hb
  refine ⟨hn b hb,ltC b (fpD b hb),fun z=>?_,.inl hb,fun x d e=>?cc,fun p hp=>?_⟩
  case cc =>
   rcases subK e with ⟨_,q⟩ | e
   ·rw [q]
    have:=fpD b hb
    exact Nat.ne_of_gt (by rw [hCs]; exact Nat.lt_succ_of_lt (Nat.lt_succ_of_lt this))
   ·exact f4 x d e
  ·rcases List.mem_cons.mp (I2.stkSub b z) with e | e
   ·exact f1 e
   ·exact f2 e
  ·have hp:p∈X.pn++(pins++[(D,oD)]):=hp
   rw [← List.append_assoc] at hp
   rcases List.mem_append.mp hp with z | z
   ·exact f5 p z
   ·have e:p=(D,oD):=by simpa using z
    subst e
    exact Nat.ne_of_gt (fpD b hb)
 have loop : ∀ s3:Shared,s3={ s2 with heap:=h₁ } →
   codeAny (model X.prog X.w) X.A (.compLoop (.ListComp elt [⟨tg,iter,ifs,0⟩] scope pos) 0 (.ref it) (.ref D) (cxK X N scope x0 C fp s2 H2).env) (RR (.ref D) C) s3:=by
  rintro s3 rfl
  refine compLoop_any (fun n s'=>∃ i σ' H' ys its k,Inv (cxK X N scope x0 C fp s2 H2) (pins++[(D,{ cls:=.type "list", data:=.seq (List.toArray its) k })]) σ' H' s'∧tn i s'.heap∧(∀ b∈fp,H' b=none)∧Vals ys its∧W i n ys σ' H') ?_ m0
   ⟨0,_,H2,[],[],_,I4,st4,fun b hb=>(f2 b hb).1,.nil,w0⟩
  rintro n s3 ⟨i,σ3,H3,ys,its,k,I3,st3,fr3,rv,w3⟩
  rcases turn i n ys σ3 H3 w3 with ⟨stop,hz,qn⟩ | ⟨go,hz,step⟩
  ·refine thn (T.done (cxK X N scope x0 C fp s2 H2) rfl rfl rfl hc i _ s3 σ3 H3 _ I3 (stat fr3) st3 stop) fun r s4 ⟨hr,I4⟩=>?_
   subst hr
   have hDn:H3 D=none:=(I3.pin (D,_) (List.mem_append_right _ (List.mem_append_right _ List.mem_cons_self))).2.1
   obtain ⟨m4,hn4,_⟩:=id I4.loc
   refine hR D C s4 _ m4 (c.leave I2 f2 (by rw [hCs,hDe]) hDe.symm I4 rv hz) hn4 ?_ ?_ pinC ?_ (fun x d e=>ltC d (celD x d e)) (qn D hDn)
   ·rw [upd_ne hDC.symm]; exact I4.free
   ·refine Nat.le_trans I2.sz ?_
    rw [hDe,hCs]; exact Nat.le_succ _
   ·refine Nat.ne_of_gt (Nat.lt_of_lt_of_le I2.lt ?_)
    rw [hDe,hCs]; exact Nat.le_succ _
  ·refine thn (T.item (cxK X N scope x0 C fp s2 H2) rfl rfl rfl hc i _ s3 σ3 H3 _ I3 (stat fr3) st3 go) fun r s4 ⟨u,hr,h4⟩=>?_
   subst hr
   refine thn h4 fun _ s5 ⟨x,H5,I5,r5,y5,st5,fr5⟩=>?_
   have I5':=I5.pinned (stat fr5) (T.obj _ _ st5)
   refine thn (hg C fp s2 H2 _ s5 σ3 H5 x u _ I5' r5 (step x H5 y5)) fun _ s6 ⟨σ6,H6,I6,q6⟩=>?_
   refine thn (ht C fp s2 H2 _ s6 σ6 H6 _ I6 q6) fun ok s7 ⟨H7,I7,q7⟩=>?_
   have keep : ∀ {s':Shared} {σ':St} {H':Hp},Inv (cxK X N scope x0 C fp s2 H2) ((pins++[(D,{ cls:=.type "list", data:=.seq its.toArray k })])++pinsAt fp s5.heap) σ' H' s'→tn (i+1) s'.heap∧∀ b∈fp,H' b=none:=fun {s' σ' H'} I'=>by
    refine ⟨T.keep _ _ _ st5 fun b hb o e=>(I'.pin (b,o) (List.mem_append_right _ (List.mem_append_right _ (mem_pinsAt hb e)))).1,fun b hb=>?_⟩
    obtain ⟨o,e,d⟩:=T.obj _ _ st5 b hb
    exact (I'.pin (b,o) (List.mem_append_right _ (List.mem_append_right _ (mem_pinsAt hb e)))).2.1
   cases ok with
   | false =>
    rw [if_neg Bool.false_ne_true]
    rw [if_neg Bool.false_ne_true] at q7
    obtain ⟨m',hm,w7⟩:=q7
    obtain ⟨k1,k2⟩:=keep I7
    exact ⟨m',hm,i+1,σ6,H7,ys,its,k,I7.unpinned,k1,k2,rv,w7⟩
   | true =>
    rw [if_pos rfl]
    rw [if_pos rfl] at q7
    refine thn (he C fp s2 H2 _ s7 σ6 H7 _ I7 q7) fun y s8 ⟨v,H8,I8,r8,m',hm,w8⟩=>?_
    obtain ⟨k1,k2⟩:=keep I8
    have pD:=I8.pin (D,_) (List.mem_append_right _ (List.mem_append_left _ (List.mem_append_right _ List.mem_cons_self)))
    have I8u:=I8.unpinned
    have I8v:Inv (cxK X N scope x0 C fp s2 H2) pins σ6 H8 s8:=I8u.unpinned
    have len:=rv.length
    refine wpAny_list_append_plain (items:=its.toArray) (hsz:=by simp; omega) ⟨k,pD.1⟩ fun h9 hl9 hs9=>?_
    obtain ⟨k9,e9⟩:=hl9
    have I9:Inv (cxK X N scope x0 C fp s2 H2) pins σ6 H8 { s8 with heap:=h9 }:=by
     refine I8v.turned (t':=s8.toks) (it:=D) (fun b o hb e=>hs9.extBut b o hb e) pD.2.1 hDC (.inr ?_) (fun x d e=>by
      rcases subK e with ⟨_,q⟩ | e
      ·rw [q,hCs]; exact Nat.ne_of_gt (Nat.lt_succ_of_lt (Nat.lt_succ_self _))
      ·exact Nat.ne_of_lt (celD x d e)) fun p hp=>?_
     ·show s2.heap.objs.size≤D
      rw [hDe]; exact Nat.le_refl _
     ·exact pinD p hp
    have e9':h9.get? D=some { cls:=.type "list", data:=.seq (its++[y]).toArray k9 }:=by
     rw [e9]; simp
    refine ⟨m',hm,i+1,σ6,H8,ys++[v],its++[y],k9,I9.pins_of fun p hp=>?_,T.keep _ _ _ k1 fun b hb o e=>hs9.extBut b o (Nat.ne_of_lt (fpD b hb)) e,k2,rv.append (.cons r8 .nil),w8⟩
    rcases List.mem_append.mp hp with z | z
    ·exact I9.pin p (List.mem_append_right _ z)
    ·have e:p=(D,{ cls:=.type "list", data:=.seq (its++[y]).toArray k9 }):=by simpa using z
     subst e
     exact ⟨e9',pD.2.1,pD.2.2.1,pD.2.2.2.1,fun v z=>by cases z⟩
 exact codeAny_compStart_list (loop _ rfl) (T.self _ 0 _ _ _ st4 (loop _ rfl))
variable {wi:TI}
theorem pe_compK (c:CompOkK X scope N ix x0) (hc:X.calm=true) (hi:PI X tg iter wi) (hg : ∀ C fp s H,PG (cxK X N scope x0 C fp s H) tg g) (ht : ∀ C fp s H,PIf (cxK X N scope x0 C fp s H) ifs tc) (he : ∀ C fp s H,PE (cxK X N scope x0 C fp s H) elt te)
  (hs : ∀ x,foldedSetIterable iter X.env x=pure x:=by intro _; rfl) : PE X (.ListComp elt [⟨tg,iter,ifs,0⟩] scope pos) (tComp ix wi g tc te):=by
 intro pins s σ H Q I h
 rw [eval_ListComp]
 have hcl : ∀ y∈scope.names,y.2=NameKind.free→∃ d,X.env.cells.lookup y.1=some d:=fun y hy e=>I.ok.has _ (c.fr y hy e)
 refine wpAny_comprehension_free (use:=none) rfl hs (closureFor_eq hcl) c.kind c.names (thn (hi pins s σ H _ I h) fun v s1 h1=>thn h1 fun itv s2 h2=>?_)
 refine comp_blockK (RR:=fun acc C=>compPost (model X.prog X.w) X.A X.xe none (EP X pins σ Q) acc C) c hc hg ht he h2 ?_
 intro D C s' H' m I' hn hC hz hp hL hcells q
 exact ⟨m,hn,fun h' hs'=>⟨.ref D,H',I'.turned (t':=s'.toks) (fun b o hb e=>hs'.extBut b o hb e) hC hL (.inr hz) hcells hp,rfl,q⟩⟩
end
def compBK (XS:List (Str × NameKind)) (XN:List Str) (names:List (Str × NameKind)) (N:List Str) (ix:List (Option Nat)) : Bool :=
 names.all (fun y=>match y.2 with
  | .cell=>true
  | .local=>(match names.lookup y.1 with | some .local=>true | _=>false)
  | .free=>(match XS.lookup y.1 with | some .cell=>true | some .free=>true | _=>false)
  | _=>true) && decide (ix.length=N.length) && capB XN N ix names
theorem comp_okK {X:Cx} {scope:Scope} {N:List Str} {ix:List (Option Nat)} {x0:Str} (hk:scope.kind=.function) (ho:One x0 scope.names) (hf:(x0,NameKind.free)∉scope.names) (h:compBK X.env.scope.names X.N scope.names N ix=true) : CompOkK X scope N ix x0:=by
 unfold compBK at h
 obtain ⟨h,h3⟩:=Bool.and_eq_true_iff.mp h
 obtain ⟨h1,h2⟩:=Bool.and_eq_true_iff.mp h
 have all : ∀ y∈scope.names,_:=fun y hy=>List.all_eq_true.mp h1 y hy
 refine ⟨hk,ho,hf,of_decide_eq_true h2,fun y hy e=>?_,fun y hy e=>?_,cap_ok h3⟩
 ·have q:=all y hy
  rw [e] at q
  dsimp only at q
  cases hl:scope.names.lookup y.1 with
  | none=>rw [hl] at q; cases q
  | some k=>rw [hl] at q; cases k <;> first | rfl | cases q
 ·have q:=all y hy
  rw [e] at q
  dsimp only at q
  show X.env.scope.names.lookup y.1=_∨X.env.scope.names.lookup y.1=_
  cases hl:X.env.scope.names.lookup y.1 with
  | none=>rw [hl] at q; cases q
  | some k=>rw [hl] at q; cases k <;> first | exact .inl rfl | exact .inr rfl | cases q
end L2
namespace Sw
open PySem L2
def manyM (Ls:List (List Int)) : Int:=(Ls.map fun L=>(L.length:Int)).sum
def insB (p q:List Int) : Bool:=p.all fun x=>decide (x∈q)
def withB (Ls Ms:List (List Int)) : Bool:=Ls.all fun p=>Ms.any fun q=>insB p q
def spMany:Sp:=fun vs H Q _=>∃ (l:Addr) (ws:List V) (Ls:List (List Int)),vs=[.ref l]∧H l=some (.lst ws)∧Lsts H ws Ls∧Ls.length≤1000∧∀ H',Same H H'→Q (.int (manyM Ls)) H'
def spInside:Sp:=fun vs H Q _=>∃ (l m:Addr) (p q:List Int),vs=[.ref l,.ref m]∧H l=some (.lst (p.map V.int))∧H m=some (.lst (q.map V.int))∧p.length≤1000∧∀ H',Same H H'→Q (.bl (insB p q)) H'
def spWithin:Sp:=fun vs H Q _=>∃ (l m:Addr) (ws us:List V) (Ls Ms:List (List Int)),vs=[.ref l,.ref m]∧H l=some (.lst ws)∧Lsts H ws Ls∧H m=some (.lst us)∧Lsts H us Ms∧Ls.length≤1000∧Ms.length≤1000∧(∀ L∈Ls,L.length≤1000)∧manyM Ls=manyM Ms∧∀ H',Same H H'→Q (.bl (withB Ls Ms)) H'
structure TSh (mg:Str→Option Value) (K:PySem.W.Frag) : Prop extends T1 mg K where
 b_sum:mg "sum" = none
structure TWi (P:Program) (w:World) (K:PySem.W.Frag) (mg:Str→Option Value) (base:Heap) : Prop extends T1 mg K where
 b_any:mg "any" = none
 f_many_things:FnAt P w K mg base "many_things" 1 ["sharing"] spMany
 f_is_inside:FnAt P w K mg base "is_inside" 1 ["part", "other"] spInside
section
variable {P:Program} {w:World} {K:PySem.W.Frag} {mg:Str→Option Value} {base:Heap}
theorem sc_many_things:FnScope ["sharing"] ["sharing"] (defScope (top 44)):=⟨rfl,rfl,rfl,by decide +kernel,rfl,by decide +kernel,by decide +kernel⟩
theorem ok_many {f:Addr} {fd:FuncData} (F:Fun K "many_things" "many_things" (top 44) f fd) (T:TSh mg K) : FnOk P w K mg base CX0 1 f fd ["sharing"] spMany:=by
 refine F.ok sc_many_things (fun vs H Q E h=>?_) (fun cdv A outer s H vs Q E hr h=>?_)
 ·obtain ⟨l,ws,Ls,rfl,_⟩:=h
  rfl
 ·obtain ⟨l,ws,Ls,rfl,hl,xl,ll,k⟩:=h
  refine ⟨_,(pss_one (ps_ret (pe_callB (call_sum (K:=K) rfl rfl) rfl T.b_sum (by decide +kernel) (pa_cons (pe_comp (N:=(["part"] : List Str)) (ix:=([none] : List (Option Nat))) (comp_ok rfl rfl) rfl (pi_listK (K:=K) rfl (pv 0)) (fun _ _ _ _=>(pg_name (i:=0) (show List.Nodup (["part"] : List Str) from by decide +kernel) rfl (Or.inl rfl))) (fun _ _ _ _=>pif_nil) (fun _ _ _ _=>(pe_callB (call_lenK (K:=K) rfl) rfl T.b_len (by decide +kernel) (pa_cons (pv 0) pa_nil)))) pa_nil)))),?_⟩
  have wl:=xl.length
  refine ⟨_,rfl,l,rfl,⟨_,SqL.of hl⟩,compL (K:=K) (a:=l) (xs:=ws) (k:=0) (fun i ys σ' H'=>ys=((Ls.take i).map fun L=>(L.length:Int)).map V.int∧(∃ v,σ'=[v])∧H'=H) (by omega) ⟨rfl,⟨none,rfl⟩,rfl⟩ (fun i ys σ' H' _ q=>by rw [q.2.2]; exact SqL.of hl) (fun i ys σ' H' q=>by rw [q.1,List.length_map,List.length_map,List.length_take]; omega) ?_ ?_⟩
  ·rintro i ys σ' H' z R hz ⟨rfl,⟨v,rfl⟩,rfl⟩ done
   obtain ⟨b,ns,rfl,hb,hns⟩:=xl.get hz
   refine ⟨_,rfl,b,_,rfl,.inl (SqL.of hb),done _ _ _ ⟨?_,⟨_,rfl⟩,rfl⟩⟩
   rw [take_succ_map (fun L:List Int=>(L.length:Int)) hns,List.map_append,List.length_map]
   rfl
  ·rintro ys σ' H' q ⟨rfl,_,rfl⟩ fq
   rw [List.take_of_length_le (by omega)]
   exact ⟨q,_,rfl,SqL.of upd_same,k _ (Same.new fq)⟩
theorem sc_is_inside:FnScope ["part", "other"] ["part", "other"] (defScope (top 46)):=⟨rfl,rfl,rfl,by decide +kernel,rfl,by decide +kernel,by decide +kernel⟩
theorem ok_inside {f:Addr} {fd:FuncData} (F:Fun K "is_inside" "is_inside" (top 46) f fd) (T:T1 mg K) : FnOk P w K mg base CX0 1 f fd ["part", "other"] spInside:=by
 refine F.ok sc_is_inside (fun vs H Q E h=>?_) (fun cdv A outer s H vs Q E hr h=>?_)
 ·obtain ⟨l,m,p,q,rfl,_⟩:=h
  rfl
 ·obtain ⟨l,m,p,q,rfl,hl,hm,pl,k⟩:=h
  refine ⟨_,(pss_one (ps_ret (pe_callB (call_allK (K:=K) rfl rfl) rfl T.b_all (by decide +kernel) (pa_cons (pe_comp (N:=(["thing", "other"] : List Str)) (ix:=([none,some 1] : List (Option Nat))) (comp_ok rfl rfl) rfl (pi_listK (K:=K) rfl (pv 0)) (fun _ _ _ _=>(pg_name (i:=0) (show List.Nodup (["thing", "other"] : List Str) from by decide +kernel) rfl (Or.inl rfl))) (fun _ _ _ _=>pif_nil) (fun _ _ _ _=>(pe_cmpR (op_inK (K:=K) rfl) (pv 0) (pv 1) rfl))) pa_nil)))),?_⟩
  refine ⟨_,rfl,l,rfl,⟨_,SqL.of hl⟩,compL (K:=K) (a:=l) (xs:=p.map V.int) (k:=0) (fun i ys σ' H'=>ys=((p.take i).map fun x=>decide (x∈q)).map V.bl∧(∃ v,σ'=[v,some (.ref m)])∧H'=H) (by rw [List.length_map]; omega) ⟨rfl,⟨none,rfl⟩,rfl⟩ (fun i ys σ' H' _ q=>by rw [q.2.2]; exact SqL.of hl) (fun i ys σ' H' q=>by rw [q.1,List.length_map,List.length_map,List.length_take]; omega) ?_ ?_⟩
  ·rintro i ys σ' H' z R hz ⟨rfl,⟨v,rfl⟩,rfl⟩ done
   obtain ⟨x,rfl,hx⟩:=mem_int hz
   refine ⟨_,rfl,_,rfl,m,_,rfl,.inl (SqL.of hm),rfl,flat_ints _,done _ _ _ ⟨?_,⟨_,rfl⟩,rfl⟩⟩
   rw [take_succ_map (fun x=>decide (x∈q)) hx,List.map_append]
   show _++[V.bl (inV (V.int x) (q.map V.int))]=_
   rw [inV_int]
   rfl
  ·rintro ys σ' H' r ⟨rfl,_,rfl⟩ fr
   rw [List.length_map,List.take_length]
   refine ⟨r,p.map fun x=>decide (x∈q),rfl,SqL.of upd_same,?_⟩
   have:(p.map fun x=>decide (x∈q)).all id=insB p q:=by rw [List.all_map]; rfl
   rw [this]
   exact k _ (Same.new fr)
theorem sc_within:FnScope ["one", "other"] ["one", "other"] (defScope (top 47)):=⟨rfl,rfl,rfl,by decide +kernel,rfl,by decide +kernel,by decide +kernel⟩
theorem ok_within {f:Addr} {fd:FuncData} (F:Fun K "within" "within" (top 47) f fd) (T:TWi P w K mg base) : FnOk P w K mg base CX0 2 f fd ["one", "other"] spWithin:=by
 refine F.ok sc_within (fun vs H Q E h=>?_) (fun cdv A outer s H vs Q E hr h=>?_)
 ·obtain ⟨l,m,ws,us,Ls,Ms,rfl,_⟩:=h
  rfl
 ·obtain ⟨l,m,ws,us,Ls,Ms,rfl,hl,xl,hm,xm,ll,lm,lb,e,k⟩:=h
  refine ⟨_,(pss_cons (ps_if (pt_cmpR op_ne (pe_callF T.f_many_things (hr.mono (by first | decide | omega)) rfl (pa_cons (pv 0) pa_nil)) (pe_callF T.f_many_things (hr.mono (by first | decide | omega)) rfl (pa_cons (pv 1) pa_nil)) (nomark _)) (pss_one ps_never) pss_nil)
   (pss_one (ps_ret (pe_callB (call_allK (K:=K) rfl rfl) rfl T.b_all (by decide +kernel) (pa_cons (pe_compK (N:=(["part", "other"] : List Str)) (ix:=([none,some 1] : List (Option Nat))) (x0 := "part") (comp_okK rfl (by repeat (first | exact One.here (by decide +kernel) | refine One.skip (by decide) ?_)) (by decide +kernel) rfl) rfl (pi_listK (K:=K) rfl (pv 0)) (fun _ _ _ _=>(pg_name (i:=0) (show List.Nodup (["part", "other"] : List Str) from by decide +kernel) rfl (Or.inr rfl))) (fun _ _ _ _=>pif_nil) (fun _ _ _ _=>(pe_callB (call_any (K:=K) rfl rfl) rfl T.b_any (by decide +kernel) (pa_cons (pe_comp (N:=(["greater", "part"] : List Str)) (ix:=([none,some 0] : List (Option Nat))) (comp_ok rfl rfl) rfl (pi_listK (K:=K) rfl (pv 1)) (fun _ _ _ _=>(pg_name (i:=0) (show List.Nodup (["greater", "part"] : List Str) from by decide +kernel) rfl (Or.inl rfl))) (fun _ _ _ _=>pif_nil) (fun _ _ _ _=>(pe_callF T.f_is_inside (hr.mono (by first | decide | omega)) rfl (pa_cons (pv 1) (pa_cons (pv 0) pa_nil))))) pa_nil)))) pa_nil))))),?_⟩
  have wl:=xl.length
  have ul:=xm.length
  refine ⟨_,rfl,l,ws,Ls,rfl,hl,xl,ll,fun H1 s1=>?_⟩
  refine ⟨_,rfl,m,us,Ms,rfl,s1 _ _ hm,xm.keep s1,lm,fun H2 s2=>?_⟩
  have a2:=s1.trans s2
  refine ⟨rfl,_,rfl,iteE (by rw [e,decide_eq_true rfl]; rfl) ?_⟩
  have hl2:=a2 _ _ hl
  have hm2:=a2 _ _ hm
  have xl2:=xl.keep a2
  have xm2:=xm.keep a2
  refine ⟨_,rfl,l,rfl,⟨_,SqL.of hl2⟩,compL (K:=K) (a:=l) (xs:=ws) (k:=0) (fun i ys σ' H'=>ys=((Ls.take i).map fun p=>Ms.any fun q=>insB p q).map V.bl∧(∃ v,σ'=[v,some (.ref m)])∧Same H2 H') (by omega) ⟨rfl,⟨none,rfl⟩,Same.refl _⟩ (fun i ys σ' H' _ q=>SqL.of (q.2.2 _ _ hl2)) (fun i ys σ' H' q=>by rw [q.1,List.length_map,List.length_map,List.length_take]; omega) ?_ ?_⟩
  ·rintro i ys σ' H3 z R hz ⟨rfl,⟨v,rfl⟩,s3⟩ done
   obtain ⟨b,p,rfl,hb,hp⟩:=xl2.get hz
   have hm3:=s3 _ _ hm2
   have xm3:=xm2.keep s3
   have pb:=lb p (List.mem_of_getElem? hp)
   refine ⟨_,rfl,m,rfl,⟨_,SqL.of hm3⟩,compL (K:=K) (a:=m) (xs:=us) (k:=0) (fun j ys σ' H'=>ys=((Ms.take j).map fun q=>insB p q).map V.bl∧(∃ v,σ'=[v,some (.ref b)])∧Same H3 H') (by omega) ⟨rfl,⟨none,rfl⟩,Same.refl _⟩ (fun j ys σ' H' _ q=>SqL.of (q.2.2 _ _ hm3)) (fun j ys σ' H' q=>by rw [q.1,List.length_map,List.length_map,List.length_take]; omega) ?_ ?_⟩
   ·rintro j ys σ' H4 z' R' hz' ⟨rfl,⟨v,rfl⟩,s4⟩ done'
    obtain ⟨c,q,rfl,hc,hq⟩:=xm3.get hz'
    refine ⟨_,rfl,_,rfl,b,c,p,q,rfl,s4 _ _ (s3 _ _ hb),s4 _ _ hc,pb,fun H5 s5=>done' _ _ _ ⟨?_,⟨_,rfl⟩,s4.trans s5⟩⟩
    rw [take_succ_map (fun q=>insB p q) hq,List.map_append]
    rfl
   ·rintro ys σ' H4 r ⟨rfl,_,s4⟩ fr
    rw [List.take_of_length_le (by omega)]
    refine ⟨r,Ms.map fun q=>insB p q,rfl,SqL.of upd_same,done _ _ _ ⟨?_,⟨_,rfl⟩,s3.trans (s4.trans (Same.new fr))⟩⟩
    rw [take_succ_map (fun p=>Ms.any fun q=>insB p q) hp,List.map_append]
    have:(Ms.map fun q=>insB p q).any id=Ms.any fun q=>insB p q:=by rw [List.any_map]; rfl
    rw [this]
    rfl
  ·rintro ys σ' H3 r ⟨rfl,_,s3⟩ fr
   rw [List.take_of_length_le (by omega)]
   refine ⟨r,Ls.map fun p=>Ms.any fun q=>insB p q,rfl,SqL.of upd_same,?_⟩
   have:(Ls.map fun p=>Ms.any fun q=>insB p q).all id=withB Ls Ms:=by rw [List.all_map]; rfl
   rw [this]
   exact k _ (a2.trans (s3.trans (Same.new fr)))
end
end Sw
namespace Sw
open PySem L2
def Shs (H:Hp) (as:List Addr) (uss:List (List V)) (SS:List (List (List Int))) : Prop:=as.length=SS.length∧uss.length=SS.length∧∀ (i:Nat) (a:Addr) (us:List V) (S:List (List Int)),as[i]?=some a→uss[i]?=some us→SS[i]?=some S→H a=some (.lst us)∧Lsts H us S
theorem Shs.nil {H:Hp} : Shs H [] [] []:=⟨rfl,rfl,fun i a us S h1=>by simp at h1⟩
end Sw
namespace Sw
open PySem L2
def jbG (S S':List (List Int)) : Bool:=decide ((S'.length:Int)=(S.length:Int) - 1) && withB S S'
structure ChG (SS:List (List (List Int))) : Prop where
 ne:SS≠[]
 many : ∀ S∈SS,manyM S=manyM (SS.getD 0 [])
 first:((SS.getD 0 []).length:Int)=manyM (SS.getD 0 [])
 last:(SS.getD (SS.length - 1) []).length=1
 step : ∀ t,t+1<SS.length→jbG (SS.getD t []) (SS.getD (t+1) [])=true
def FewS (SS:List (List (List Int))) : Prop:=SS.length≤60∧∀ S∈SS,S.length≤60∧∀ L∈S,L.length≤60
def spJtG:Sp:=fun vs H Q _=>∃ (l m:Addr) (ws us:List V) (Ls Ms:List (List Int)),vs=[.ref l,.ref m]∧H l=some (.lst ws)∧Lsts H ws Ls∧H m=some (.lst us)∧Lsts H us Ms∧Ls.length≤60∧Ms.length≤60∧(∀ L∈Ls,L.length≤60)∧manyM Ls=manyM Ms∧∀ H',Same H H'→Q (.bl (jbG Ls Ms)) H'
def spIscG:Sp:=fun vs H Q _=>∃ (q:Addr) (as:List Addr) (uss:List (List V)) (SS:List (List (List Int))),vs=[.ref q]∧H q=some (.lst (as.map V.ref))∧Shs H as uss SS∧FewS SS∧∀ b H',(b=true↔ChG SS)→Same H H'→Q (.bl b) H'
structure TJtG (P:Program) (w:World) (K:PySem.W.Frag) (mg:Str→Option Value) (base:Heap) : Prop extends T1 mg K where
 f_within:FnAt P w K mg base "within" 2 ["one", "other"] spWithin
structure TIscG (P:Program) (w:World) (K:PySem.W.Frag) (mg:Str→Option Value) (base:Heap) : Prop extends T1 mg K where
 b_any:mg "any" = none
 b_zip:mg "zip" = none
 f_many_things:FnAt P w K mg base "many_things" 1 ["sharing"] spMany
 f_joins_two:FnAt P w K mg base "joins_two" 3 ["one", "other"] spJtG
theorem drop1_atG {α : Type} {L:List α} {i:Nat} : (L.drop 1)[i]?=L[i+1]?:=by rw [List.getElem?_drop,Nat.add_comm]
theorem getDG {α : Type} {L:List α} {i:Nat} {a d : α} (h:L[i]?=some a) : L.getD i d=a:=by rw [List.getD_eq_getElem?_getD,h]; rfl
section
variable {P:Program} {w:World} {K:PySem.W.Frag} {mg:Str→Option Value} {base:Heap}
theorem sc_joins_two:FnScope ["one", "other"] ["one", "other"] (defScope (top 48)):=⟨rfl,rfl,rfl,by decide +kernel,rfl,by decide +kernel,by decide +kernel⟩
theorem ok_jtG {f:Addr} {fd:FuncData} (F:Fun K "joins_two" "joins_two" (top 48) f fd) (T:TJtG P w K mg base) : FnOk P w K mg base CX0 3 f fd ["one", "other"] spJtG:=by
 refine F.ok sc_joins_two (fun vs H Q E h=>?_) (fun cdv A outer s H vs Q E hr h=>?_)
 ·obtain ⟨l,m,ws,us,Ls,Ms,rfl,_⟩:=h
  rfl
 ·obtain ⟨l,m,ws,us,Ls,Ms,rfl,hl,xl,hm,xm,lL,lM,lLs,mn,k⟩:=h
  refine ⟨_,(pss_one (ps_ret (pe_and (pe_cmpR op_eq (pe_callB (call_lenK (K:=K) rfl) rfl T.b_len (by decide +kernel) (pa_cons (pv 1) pa_nil)) (pe_op op_sub (pe_callB (call_lenK (K:=K) rfl) rfl T.b_len (by decide +kernel) (pa_cons (pv 0) pa_nil)) pe_int) (nomark _)) (pe_one (pe_callF T.f_within (hr.mono (by first | decide | omega)) rfl (pa_cons (pv 0) (pa_cons (pv 1) pa_nil))))))),?_⟩
  have wl:=xl.length
  have ul:=xm.length
  refine ⟨_,rfl,m,_,rfl,.inl (SqL.of hm),_,rfl,l,_,rfl,.inl (SqL.of hl),_,_,rfl,rfl,rfl,?_⟩
  by_cases c:(Ms.length:Int)=(Ls.length:Int) - 1
  ·have ev:V.int ((us.length:Nat) : Int)=(fun i j:Int=>V.int (i - j)) ((ws.length:Nat) : Int) 1:=congrArg V.int (show ((us.length:Nat) : Int)=((ws.length:Nat) : Int) - 1 by omega)
   refine ⟨true,by rw [decide_eq_true ev],iteT ?_⟩
   refine ⟨_,rfl,_,rfl,l,m,ws,us,Ls,Ms,rfl,hl,xl,hm,xm,by omega,by omega,fun L hL=>by have:=lLs L hL; omega,mn,fun H1 s1=>?_⟩
   have:=k H1 s1
   unfold jbG at this
   rw [decide_eq_true c,Bool.true_and] at this
   exact this
  ·have ev : ¬ V.int ((us.length:Nat) : Int)=(fun i j:Int=>V.int (i - j)) ((ws.length:Nat) : Int) 1:=fun z=>c (by have:((us.length:Nat) : Int)=((ws.length:Nat) : Int) - 1:=V.int.inj z; omega)
   refine ⟨false,by rw [decide_eq_false ev],iteF ?_⟩
   have:=k H (Same.refl H)
   unfold jbG at this
   rw [decide_eq_false c,Bool.false_and] at this
   exact this
theorem sc_is_chain:FnScope ["chain", "n"] ["chain"] (defScope (top 49)):=⟨rfl,rfl,rfl,by decide +kernel,rfl,by decide +kernel,by decide +kernel⟩
theorem ok_iscG {f:Addr} {fd:FuncData} (F:Fun K "is_chain" "is_chain" (top 49) f fd) (T:TIscG P w K mg base) : FnOk P w K mg base CX0 4 f fd ["chain"] spIscG:=by
 refine F.ok sc_is_chain (fun vs H Q E h=>?_) (fun cdv A outer s H vs Q E hr h=>?_)
 ·obtain ⟨q,as,uss,SS,rfl,_⟩:=h
  rfl
 ·obtain ⟨q,as,uss,SS,rfl,hq,x,⟨few,fews⟩,k⟩:=h
  refine ⟨_,(pss_cons (ps_if (pt_cmpR op_eq (pe_callB (call_lenK (K:=K) rfl) rfl T.b_len (by decide +kernel) (pa_cons (pv 0) pa_nil)) pe_int (nomark _)) (pss_one (ps_ret pe_bl)) pss_nil)
   (pss_cons (ps_set (i:=1) sc_is_chain.nd rfl (Or.inr rfl) (pe_callF T.f_many_things (hr.mono (by first | decide | omega)) rfl (pa_cons (pe_ix (ix_listK (K:=K) rfl) (pv 0) pe_int (fun _ _=>rfl)) pa_nil)))
   (pss_cons (ps_if (pt_val (pe_callB (call_any (K:=K) rfl rfl) rfl T.b_any (by decide +kernel) (pa_cons (pe_comp (N:=(["sharing", "n"] : List Str)) (ix:=([none,some 1] : List (Option Nat))) (comp_ok rfl rfl) rfl (pi_listK (K:=K) rfl (pv 0)) (fun _ _ _ _=>(pg_name (i:=0) (show List.Nodup (["sharing", "n"] : List Str) from by decide +kernel) rfl (Or.inl rfl))) (fun _ _ _ _=>pif_nil) (fun _ _ _ _=>(pe_cmpR op_ne (pe_callF T.f_many_things (hr.mono (by first | decide | omega)) rfl (pa_cons (pv 0) pa_nil)) (pv 1) (nomark _)))) pa_nil))) (pss_one (ps_ret pe_bl)) pss_nil)
   (pss_cons (ps_if (PW.pt (pw_or (pt_cmpR op_ne (pe_callB (call_lenK (K:=K) rfl) rfl T.b_len (by decide +kernel) (pa_cons (pe_ix (ix_listK (K:=K) rfl) (pv 0) pe_int (fun _ _=>rfl)) pa_nil)) (pv 1) (nomark _)) (pw_or1 (pt_cmpR op_ne (pe_callB (call_lenK (K:=K) rfl) rfl T.b_len (by decide +kernel) (pa_cons (pe_ix (ix_listK (K:=K) rfl) (pv 0) (pe_un un_neg pe_int) (fun _ _=>rfl)) pa_nil)) pe_int (nomark _))))) (pss_one (ps_ret pe_bl)) pss_nil)
   (pss_one (ps_ret (pe_callB (call_allK (K:=K) rfl rfl) rfl T.b_all (by decide +kernel) (pa_cons (pe_comp (N:=(["one", "other"] : List Str)) (ix:=([none,none] : List (Option Nat))) (comp_ok rfl rfl) rfl (pi_zip (K:=K) rfl rfl T.b_zip (pa_cons (pv 0) (pa_cons (pe_slice (sl_listK (K:=K) rfl) (pv 0) (po_some pe_int) po_none) pa_nil))) (fun _ _ _ _=>(pg_tupK (K:=K) (n:=2) rfl rfl (pgs_cons (pg_name (i:=0) (show List.Nodup (["one", "other"] : List Str) from by decide +kernel) rfl (Or.inl rfl)) (pgs_cons (pg_name (i:=1) (show List.Nodup (["one", "other"] : List Str) from by decide +kernel) rfl (Or.inl rfl)) pgs_nil)))) (fun _ _ _ _=>pif_nil) (fun _ _ _ _=>(pe_callF T.f_joins_two (hr.mono (by first | decide | omega)) rfl (pa_cons (pv 0) (pa_cons (pv 1) pa_nil))))) pa_nil)))))))),?_⟩
  have al:=x.1
  have ul:=x.2.1
  have asl:(as.map V.ref).length=SS.length:=by rw [List.length_map,al]
  have no : ∀ H',¬ ChG SS→Same H H'→Q (.bl false) H':=fun H' z s=>k false H' ⟨fun q=>(by cases q),fun q=>absurd q z⟩ s
  by_cases ne:SS=[]
  ·refine ⟨_,rfl,q,_,rfl,.inl (SqL.of hq),rfl,_,rfl,iteP (decide_eq_true (by rw [asl,ne]; rfl)) ?_⟩
   exact no H (fun z=>z.ne ne) (Same.refl H)
  have lp:=List.length_pos_iff.mpr ne
  have each : ∀ (H':Hp),Same H H'→∀ (i:Nat) (v:V),(as.map V.ref)[i]?=some v→∃ (a:Addr) (us:List V) (S:List (List Int)),v=.ref a∧H' a=some (.lst us)∧Lsts H' us S∧SS[i]?=some S:=fun H' s' i v hv=>by
   rw [List.getElem?_map] at hv
   obtain ⟨a,ha,rfl⟩:=Option.map_eq_some_iff.mp hv
   have hi:=(List.getElem?_eq_some_iff.mp ha).1
   obtain ⟨us,hus⟩ : ∃ us,uss[i]?=some us:=⟨_,List.getElem?_eq_getElem (by omega)⟩
   obtain ⟨S,hS⟩ : ∃ S,SS[i]?=some S:=⟨_,List.getElem?_eq_getElem (by omega)⟩
   obtain ⟨h1,h2⟩:=x.2.2 i a us S ha hus hS
   exact ⟨a,us,S,rfl,s' _ _ h1,h2.keep s',hS⟩
  obtain ⟨v0,hv0⟩ : ∃ v,(as.map V.ref)[0]?=some v:=⟨_,List.getElem?_eq_getElem (by omega)⟩
  obtain ⟨a0,u0,S0,rfl,ha0,x0,hS0⟩:=each H (Same.refl _) 0 v0 hv0
  have d0:SS.getD 0 []=S0:=getDG hS0
  have f0:=fews S0 (List.mem_of_getElem? hS0)
  have u0l:=x0.length
  refine ⟨_,rfl,q,_,rfl,.inl (SqL.of hq),rfl,_,rfl,iteE (decide_eq_false fun z=>by have:=V.int.inj z; omega) ?_⟩
  refine ⟨_,rfl,q,_,0,_,rfl,rfl,SqL.of hq,atI_nat hv0,?_⟩
  refine ⟨a0,u0,S0,rfl,ha0,x0,by omega,fun H1 s1=>?_⟩
  obtain ⟨n,hn⟩ : ∃ n,manyM S0=n:=⟨_,rfl⟩
  rw [hn]
  have hq1:=s1 _ _ hq
  refine ⟨_,rfl,q,rfl,⟨_,SqL.of hq1⟩,compL (K:=K) (a:=q) (xs:=as.map V.ref) (k:=0) (fun i ys σ' H'=>ys=((SS.take i).map fun S=>!decide (V.int (manyM S)=V.int n)).map V.bl∧(∃ v,σ'=[v,some (.int n)])∧Same H H') (by omega) ⟨rfl,⟨none,rfl⟩,s1⟩ (fun i ys σ' H' _ z=>SqL.of (z.2.2 _ _ hq)) (fun i ys σ' H' z=>by rw [z.1,List.length_map,List.length_map,List.length_take]; omega) ?_ ?_⟩
  ·rintro i ys σ' H2 v R hv ⟨rfl,⟨v1,rfl⟩,s2⟩ done
   obtain ⟨a,us,S,rfl,ha,xS,hS⟩:=each H2 s2 i v hv
   have fS:=(fews S (List.mem_of_getElem? hS)).1
   refine ⟨_,rfl,a,us,S,rfl,ha,xS,by omega,fun H3 s3=>?_⟩
   refine ⟨_,rfl,rfl,done _ _ _ ⟨?_,⟨_,rfl⟩,s2.trans s3⟩⟩
   rw [take_snoc hS,List.map_append,List.map_append]
   rfl
  rintro ys σ' H2 r ⟨rfl,_,s2⟩ fr
  rw [List.take_of_length_le (by omega)]
  refine ⟨r,SS.map fun S=>!decide (V.int (manyM S)=V.int n),rfl,SqL.of upd_same,_,rfl,?_⟩
  have s3:=s2.trans (Same.new (o:=.lst ((SS.map fun S=>!decide (V.int (manyM S)=V.int n)).map V.bl)) fr)
  generalize upd H2 r (.lst ((SS.map fun S=>!decide (V.int (manyM S)=V.int n)).map V.bl))=H3 at s3 ⊢
  cases an:(SS.map fun S=>!decide (V.int (manyM S)=V.int n)).any id with
  | true =>
   refine iteT (no H3 (fun z=>?_) s3)
   rw [List.any_map,List.any_eq_true] at an
   obtain ⟨S,hS,e⟩:=an
   have:=z.many S hS
   rw [d0,hn] at this
   have e:(!decide (V.int (manyM S)=V.int n))=true:=e
   rw [this,decide_eq_true rfl] at e
   cases e
  | false =>
   refine iteF ?_
   have all : ∀ S∈SS,manyM S=n:=fun S hS=>by
    rw [List.any_map,List.any_eq_false] at an
    have:=an S hS
    have e : ¬ (!decide (V.int (manyM S)=V.int n))=true:=this
    have e:decide (V.int (manyM S)=V.int n)=true:=by simpa using e
    exact V.int.inj (of_decide_eq_true e)
   have hq3:=s3 _ _ hq
   obtain ⟨a0',u0',S0',e0',ha3,x3,hS3⟩:=each H3 s3 0 _ hv0
   cases e0'
   rw [hS0] at hS3
   cases hS3
   have u3:=x3.length
   refine ⟨_,rfl,q,_,0,_,rfl,rfl,SqL.of hq3,atI_nat hv0,a0,_,rfl,.inl (SqL.of ha3),_,rfl,rfl,_,rfl,?_⟩
   by_cases cl:(S0.length:Int)=n
   ·have e1:V.int ((u0'.length:Nat) : Int)=V.int n:=congrArg V.int (by omega)
    refine iteE (by rw [decide_eq_true e1]; rfl) ?_
    obtain ⟨vl,hvl⟩ : ∃ v,(as.map V.ref)[SS.length - 1]?=some v:=⟨_,List.getElem?_eq_getElem (by omega)⟩
    obtain ⟨al',ulv,Sl,rfl,hal,xSl,hSl⟩:=each H3 s3 _ vl hvl
    have ull:=xSl.length
    have dl':SS.getD (SS.length - 1) []=Sl:=getDG hSl
    have atl:atI (as.map V.ref) (-1)=some (.ref al'):=by
     unfold atI ixN
     rw [if_neg (by decide),if_pos (by omega)]
     show (as.map V.ref)[(-1+((as.map V.ref).length:Int)).toNat]?=_
     rw [show (-1+((as.map V.ref).length:Int)).toNat=SS.length - 1 by omega]
     exact hvl
    refine ⟨_,rfl,_,rfl,q,_,_,_,rfl,rfl,SqL.of hq3,atl,al',_,rfl,.inl (SqL.of hal),rfl,_,rfl,?_⟩
    by_cases c1:Sl.length=1
    ·have e2:V.int ((ulv.length:Nat) : Int)=V.int 1:=congrArg V.int (by omega)
     refine iteE (by rw [decide_eq_true e2]; rfl) ?_
     refine ⟨_,rfl,_,rfl,?_⟩
     dsimp only [tNoPart]
     refine ⟨_,rfl,q,_,rfl,SqL.of hq3,fun qd fqd=>?_⟩
     have cd:cutV (as.map V.ref) (some 1) none=(as.map V.ref).drop 1:=cutD9 (by decide) (by omega)
     have s4:Same H3 (upd H3 qd (.lst (cutV (as.map V.ref) (some 1) none))):=Same.new fqd
     have hqd:upd H3 qd (.lst (cutV (as.map V.ref) (some 1) none)) qd=some (.lst ((as.map V.ref).drop 1)):=by rw [upd_same,cd]
     generalize upd H3 qd (.lst (cutV (as.map V.ref) (some 1) none))=H4 at s4 hqd ⊢
     have a4:=s3.trans s4
     have dl:((as.map V.ref).drop 1).length=SS.length - 1:=by rw [List.length_drop,asl]
     have mn:min (as.map V.ref).length ((as.map V.ref).drop 1).length=SS.length - 1:=by omega
     refine ⟨q,qd,_,_,rfl,SqL.of (a4 _ _ hq),SqL.of hqd,compZ (K:=K) (fun i zs σ' H'=>zs=((List.range i).map fun t=>jbG (SS.getD t []) (SS.getD (t+1) [])).map V.bl∧(∃ v0 v1,σ'=[v0,v1])∧Same H4 H') (by omega) ⟨rfl,⟨none,none,rfl⟩,Same.refl _⟩ (fun i zs σ' H' _ z=>⟨SqL.of ((a4.trans z.2.2) _ _ hq),SqL.of (z.2.2 _ _ hqd)⟩) (fun i zs σ' H' z=>by rw [z.1,List.length_map,List.length_map,List.length_range]; omega) ?_ ?_ ?_⟩
     ·rintro i zs σ' H5 t v u R hv hu ⟨rfl,⟨w0,w1,rfl⟩,s5⟩ ft done
      rw [drop1_atG] at hu
      have a5:=a4.trans s5
      obtain ⟨b1,us1,S1,rfl,hb1,xS1,hS1⟩:=each H5 a5 i v hv
      obtain ⟨b2,us2,S2,rfl,hb2,xS2,hS2⟩:=each H5 a5 (i+1) u hu
      have s6:Same H5 (upd H5 t (.tup [.ref b1,.ref b2])):=Same.new ft
      refine ⟨t,_,rfl,SqT.of upd_same,rfl,_,_,rfl,_,_,rfl,rfl,?_⟩
      generalize upd H5 t (.tup [.ref b1,.ref b2])=H6 at s6 ⊢
      have m1:=List.mem_of_getElem? hS1
      have m2:=List.mem_of_getElem? hS2
      refine ⟨_,rfl,_,rfl,b1,b2,us1,us2,S1,S2,rfl,s6 _ _ hb1,xS1.keep s6,s6 _ _ hb2,xS2.keep s6,(fews S1 m1).1,(fews S2 m2).1,(fews S1 m1).2,by rw [all S1 m1,all S2 m2],fun H7 s7=>done _ _ _ ⟨?_,⟨_,_,rfl⟩,s5.trans (s6.trans s7)⟩⟩
      rw [List.range_succ,List.map_append,List.map_append]
      show _=_++[V.bl (jbG (SS.getD i []) (SS.getD (i+1) []))]
      rw [getDG hS1,getDG hS2]
     ·intro x σ H R R' m q
      obtain ⟨a,xs,e1,h,hl,v,vs,e2,v',vs',e3,e4,q⟩:=q
      exact ⟨a,xs,e1,h,hl,v,vs,e2,v',vs',e3,e4,m _ _ q⟩
     ·rintro zs σ' H5 r2 ⟨rfl,_,s5⟩ fr2
      refine ⟨r2,_,rfl,SqL.of upd_same,?_⟩
      refine k _ _ ?_ (a4.trans (s5.trans (Same.new fr2)))
      rw [List.all_map,List.all_eq_true,mn]
      constructor
      ·intro h
       exact ⟨ne,fun S hS=>by rw [d0,hn]; exact all S hS,by rw [d0,hn]; exact cl,by rw [dl']; exact c1,fun t ht=>h t (List.mem_range.mpr (by omega))⟩
      ·intro z t ht
       exact z.step t (by have:=List.mem_range.mp ht; omega)
    ·have e2 : ¬ V.int ((ulv.length:Nat) : Int)=V.int 1:=fun z=>c1 (by have:=V.int.inj z; omega)
     refine iteP (by rw [decide_eq_false e2]; rfl) ?_
     exact no H3 (fun z=>c1 (by rw [← dl']; exact z.last)) s3
   ·have e1 : ¬ V.int ((u0'.length:Nat) : Int)=V.int n:=fun z=>cl (by have:=V.int.inj z; omega)
    refine iteP (by rw [decide_eq_false e1]; rfl) ?_
    exact no H3 (fun z=>cl (by have:=z.first; rw [d0,hn] at this; exact this)) s3
end
end Sw
namespace Sw
open PySem L2
theorem lofL {H:Hp} : ∀ {vs:List V} {Ls:List (List Int)},Lsts H vs Ls→LofL H vs (Ls.map fun L=>L.map V.int)
 | _,_,.nil=>True.intro
 | _,_,.cons h x=>⟨⟨_,rfl,h⟩,lofL x⟩
theorem flat_V : ∀ Ls:List (List Int),(Ls.map fun L=>L.map V.int).flatten=Ls.flatten.map V.int
 | []=>rfl
 | L :: Ls=>by rw [List.map_cons,List.flatten_cons,List.flatten_cons,List.map_append,flat_V Ls]
theorem sum2_at {K:PySem.W.Frag} {H:Hp} {p q:Addr} {ws:List V} {Ls:List (List Int)} {Q:VK} (hp:H p=some (.lst ws)) (x:Lsts H ws Ls) (hq:H q=some (.lst [])) (len:Ls.flatten.length≤100000) (k : ∀ r H',H' r=some (.lst (Ls.flatten.map V.int))→Same H H'→Q (.ref r) H') : rSum2 K [.ref p,.ref q] H Q:=by
 refine ⟨p,q,ws,_,rfl,hp,hq,lofL x,by rw [flat_V,List.length_map]; omega,fun e=>?_,fun r fr=>?_⟩
 ·rw [flat_V] at e
  exact k q H (by rw [hq,e]) (Same.refl _)
 ·rw [flat_V]
  exact k r _ upd_same (Same.new fr)
def isptL:PyData→Bool
 | .list ds=>(decide (ds≠[]) && ds.all isw) && (adjB (ds.map intI)).all id
 | _=>false
def spCrL:Sp:=fun vs H Q _=>∃ (l m:Addr) (L M:List Int),vs=[.ref l,.ref m]∧H l=some (.lst (L.map V.int))∧H m=some (.lst (M.map V.int))∧∀ b,(b=true↔Crs L M∨Crs M L)→Q (.bl b) H
def spIpL:Sp:=fun vs H Q _=>∃ (v:V) (P:Addr→Prop) (d:PyData),vs=[v]∧DT H P v d∧(∀ ds,d=.list ds→ds.length≤60)∧Nice 10 d∧∀ H',Same H H'→Q (.bl (isptL d)) H'
def spIshD:Sp:=fun vs H Q _=>∃ (v:V) (P:Addr→Prop) (d:PyData) (n:Int),vs=[.int n,v]∧DT H P v d∧Few2 d∧Nice 10 d∧1≤n∧n≤12∧∀ b H',(b=true↔IsSh n d)→Same H H'→Q (.bl b) H'
structure TIpL (P:Program) (w:World) (K:PySem.W.Frag) (mg:Str→Option Value) (base:Heap) : Prop extends T1 mg K where
 b_sorted:mg "sorted" = none
 b_set:mg "set" = none
 f__law_whole:FnAt P w K mg base "_law_whole" 1 ["_law_thing"] spIwD
structure TIsL (P:Program) (w:World) (K:PySem.W.Frag) (mg:Str→Option Value) (base:Heap) : Prop extends T1 mg K where
 b_sorted:mg "sorted" = none
 b_sum:mg "sum" = none
 b_any:mg "any" = none
 f__law_is_part:FnAt P w K mg base "_law_is_part" 2 ["_law_thing"] spIpL
 f__law_crosses:FnAt P w K mg base "_law_crosses" 1 ["_law_one", "_law_other"] spCrL
theorem nice_sub {k:Nat} {ds:List PyData} (h:Nice k (.list ds)) : ∀ e∈ds,Nice k e:=by
 have h1:PyData.canLayAll0 ds=true:=by have:=h.lay; unfold PyData.canLay0 at this; exact this
 have h2:PyData.depthAll ds+1≤k:=by have:=h.dp; unfold PyData.depth at this; exact this
 clear h
 induction ds with
 | nil=>intro e he; cases he
 | cons d ds ih =>
  unfold PyData.canLayAll0 at h1
  unfold PyData.depthAll at h2
  obtain ⟨a,b⟩:=Bool.and_eq_true_iff.mp h1
  intro e he
  rcases List.mem_cons.mp he with rfl | he
  ·exact ⟨a,by omega⟩
  ·exact ih b (by omega) e he
theorem eqNil {K:PySem.W.Frag} {H:Hp} {P:Addr→Prop} {v:V} {m:Addr} {ds:List PyData} {Q:VK} (h1:DT H P v (.list ds)) (n:Nice 10 (.list ds)) (h2:H m=some (.lst [])) (q:Q (.bl (decide (ds=[]))) H) : rEqD K v (.ref m) H Q:=by
 refine ⟨fun _=>True,.list ds,.list [],(h1.imp fun _ _=>True.intro).dat,.lst (SqL.of h2) True.intro .nil,n.lay,rfl,by have:=n.dp; omega,?_⟩
 have:PyData.eqv (.list ds) (.list [])=decide (ds=[]):=by
  unfold PyData.eqv
  cases ds with
  | nil=>rfl
  | cons d ds=>unfold PyData.eqvAll; exact (decide_eq_false (by intro z; cases z)).symm
 rw [this]
 exact q
theorem isw_intI : ∀ {ds:List PyData},ds.all isw=true→ds=(ds.map intI).map PyData.int
 | [],_=>rfl
 | d :: r,h=>by
  rw [List.all_cons] at h
  obtain ⟨h1,h2⟩:=Bool.and_eq_true_iff.mp h
  cases d with
  | int i=>rw [List.map_cons,List.map_cons,← isw_intI h2]; rfl
  | _=>exact absurd h1 Bool.false_ne_true
theorem lsts_of {H:Hp} {P:Addr→Prop} : ∀ {us:List V} {Ls:List (List Int)},DTs H P us (Ls.map fun L=>PyData.list (L.map PyData.int))→Lsts H us Ls
 | _,[],h=>by cases h; exact .nil
 | _,L :: Ls,h=>by
  cases h with
  | cons h1 h2 =>
   cases h1 with
   | lst ha _ r =>
    have hu:=shs_of.DTs.toIntsI r
    subst hu
    exact .cons ha (lsts_of h2)
theorem eqLL6 {K:PySem.W.Frag} {H:Hp} {t u:Addr} {ns ms:List Int} {Q:VK} (h1:H t=some (.lst (ns.map V.int))) (h2:H u=some (.lst (ms.map V.int))) (q:Q (.bl (decide (ns=ms))) H) : rEqD K (.ref t) (.ref u) H Q:=by
 refine ⟨fun _=>True,.list (ns.map PyData.int),.list (ms.map PyData.int),.lst (SqL.of h1) True.intro (ints_dat ns),.lst (SqL.of h2) True.intro (ints_dat ms),?_,?_,?_,?_⟩
 ·unfold PyData.canLay0; exact lay_ints ns
 ·unfold PyData.canLay0; exact lay_ints ms
 ·unfold PyData.depth; rw [depth_ints]; decide
 ·unfold PyData.eqv; rw [eqv_ints]; exact q
theorem isptL_is {d:PyData} (h:isptL d=true) : ∃ L:List Int,d=.list (L.map PyData.int)∧L≠[]∧L.Pairwise (· < ·):=by
 cases d with
 | list ds =>
  obtain ⟨h1,h2⟩:=Bool.and_eq_true_iff.mp h
  obtain ⟨h3,h4⟩:=Bool.and_eq_true_iff.mp h1
  have h3:ds≠[]:=of_decide_eq_true h3
  exact ⟨ds.map intI,by rw [← isw_intI h4],fun z=>h3 (List.map_eq_nil_iff.mp z),(adj_all _).mp h2⟩
 | _=>cases h
theorem isptL_of {L:List Int} (h1:L≠[]) (h2:L.Pairwise (· < ·)) : isptL (.list (L.map PyData.int))=true:=by
 show ((decide (L.map PyData.int≠[]) && (L.map PyData.int).all isw) && (adjB ((L.map PyData.int).map intI)).all id)=true
 have ne:L.map PyData.int≠[]:=fun z=>h1 (List.map_eq_nil_iff.mp z)
 rw [map_intI,(adj_all L).mpr h2,decide_eq_true ne,Bool.and_true,Bool.true_and,List.all_map,List.all_eq_true]
 exact fun x hx=>rfl
theorem shsL_of : ∀ {ds:List PyData},ds.all isptL=true→∃ Ls:List (List Int),ds=Ls.map (fun L=>PyData.list (L.map PyData.int))∧∀ L∈Ls,L≠[]∧L.Pairwise (· < ·)
 | [],_=>⟨[],rfl,by simp⟩
 | d :: ds,e=>by
  rw [List.all_cons] at e
  obtain ⟨e1,e2⟩:=Bool.and_eq_true_iff.mp e
  obtain ⟨Ls,e3,q⟩:=shsL_of e2
  obtain ⟨L,e4,l1,l2⟩:=isptL_is e1
  refine ⟨L :: Ls,by rw [e3,e4]; rfl,fun M hM=>?_⟩
  rcases List.mem_cons.mp hM with rfl | hM
  ·exact ⟨l1,l2⟩
  ·exact q M hM
section
variable {P:Program} {w:World} {K:PySem.W.Frag} {mg:Str→Option Value} {base:Heap}
theorem sc__law_crosses:FnScope ["_law_one", "_law_other", "_law_b", "_law_d", "_law_a", "_law_c"] ["_law_one", "_law_other"] (defScope (top 70)):=⟨rfl,rfl,rfl,by decide +kernel,rfl,by decide +kernel,by decide +kernel⟩
theorem ok_crL {f:Addr} {fd:FuncData} (F:Fun K "_law_crosses" "_law_crosses" (top 70) f fd) (T:T1 mg K) : FnOk P w K mg base CX0 1 f fd ["_law_one", "_law_other"] spCrL:=by
 refine F.ok sc__law_crosses (fun vs H Q E h=>?_) (fun cdv A outer s H vs Q E hr h=>?_)
 ·obtain ⟨l,m,L,M,rfl,_⟩:=h
  rfl
 ·obtain ⟨l,m,L,M,rfl,hl,hm,k⟩:=h
  refine ⟨_,(pss_cons (ps_for PassesOwn.never rfl (pi_listK (K:=K) rfl (pv 0)) (pg_name (i:=2) sc__law_crosses.nd rfl (Or.inl rfl)) (pss_one (ps_for PassesOwn.never rfl (pi_listK (K:=K) rfl (pv 0)) (pg_name (i:=3) sc__law_crosses.nd rfl (Or.inl rfl)) (pss_one (ps_for PassesOwn.never rfl (pi_listK (K:=K) rfl (pv 1)) (pg_name (i:=4) sc__law_crosses.nd rfl (Or.inl rfl)) (pss_one (ps_for PassesOwn.never rfl (pi_listK (K:=K) rfl (pv 1)) (pg_name (i:=5) sc__law_crosses.nd rfl (Or.inl rfl)) (pss_one (ps_if (PW.pt (pw_or (pt_chain3 op_lt op_lt op_lt (pv 4) (pv 2) (pv 5) (pv 3)) (pw_or1 (pt_chain3 op_lt op_lt op_lt (pv 3) (pv 4) (pv 2) (pv 5))))) (pss_one (ps_ret pe_bl)) pss_nil)))))))))
   (pss_one (ps_ret pe_bl))),?_⟩
  refine ⟨_,rfl,l,rfl,⟨_,SqL.of hl⟩,for_list (K:=K) (a:=l) (xs:=L.map V.int) (fun i σ H'=>(∃ v2 v3 v4 v5,σ=[some (.ref l),some (.ref m),v2,v3,v4,v5])∧H'=H∧∀ b∈L.take i,∀ d∈L,∀ a∈M,∀ c∈M,¬ ((a<b∧b<c∧c<d)∨(d<a∧a<b∧b<c))) ⟨⟨_,_,_,_,rfl⟩,rfl,fun b hb=>(by cases hb)⟩ (fun i σ H' _ z=>by rw [z.2.1]; exact SqL.of hl) ?_ ?_⟩
  ·rintro i x σ H' hx ⟨⟨v2,v3,v4,v5,rfl⟩,rfl,no1⟩
   obtain ⟨b,rfl,hb⟩:=mem_int hx
   have bm:=List.mem_of_getElem? hb
   refine ⟨_,rfl,l,rfl,⟨_,SqL.of hl⟩,for_list (K:=K) (a:=l) (xs:=L.map V.int) (fun j σ H2=>(∃ v3 v4 v5,σ=[some (.ref l),some (.ref m),some (.int b),v3,v4,v5])∧H2=H'∧∀ d∈L.take j,∀ a∈M,∀ c∈M,¬ ((a<b∧b<c∧c<d)∨(d<a∧a<b∧b<c))) ⟨⟨_,_,_,rfl⟩,rfl,fun b hb=>(by cases hb)⟩ (fun j σ H2 _ z=>by rw [z.2.1]; exact SqL.of hl) ?_ ?_⟩
   ·rintro j x σ H2 hx2 ⟨⟨v3,v4,v5,rfl⟩,rfl,no2⟩
    obtain ⟨d,rfl,hd⟩:=mem_int hx2
    have dm:=List.mem_of_getElem? hd
    refine ⟨_,rfl,m,rfl,⟨_,SqL.of hm⟩,for_list (K:=K) (a:=m) (xs:=M.map V.int) (fun p σ H3=>(∃ v4 v5,σ=[some (.ref l),some (.ref m),some (.int b),some (.int d),v4,v5])∧H3=H2∧∀ a∈M.take p,∀ c∈M,¬ ((a<b∧b<c∧c<d)∨(d<a∧a<b∧b<c))) ⟨⟨_,_,rfl⟩,rfl,fun b hb=>(by cases hb)⟩ (fun p σ H3 _ z=>by rw [z.2.1]; exact SqL.of hm) ?_ ?_⟩
    ·rintro p x σ H3 hx3 ⟨⟨v4,v5,rfl⟩,rfl,no3⟩
     obtain ⟨a,rfl,ha⟩:=mem_int hx3
     have am:=List.mem_of_getElem? ha
     refine ⟨_,rfl,m,rfl,⟨_,SqL.of hm⟩,for_list (K:=K) (a:=m) (xs:=M.map V.int) (fun t σ H4=>(∃ v5,σ=[some (.ref l),some (.ref m),some (.int b),some (.int d),some (.int a),v5])∧H4=H3∧∀ c∈M.take t,¬ ((a<b∧b<c∧c<d)∨(d<a∧a<b∧b<c))) ⟨⟨_,rfl⟩,rfl,fun b hb=>(by cases hb)⟩ (fun t σ H4 _ z=>by rw [z.2.1]; exact SqL.of hm) ?_ ?_⟩
     ·rintro t x σ H4 hx4 ⟨⟨v5,rfl⟩,rfl,no4⟩
      obtain ⟨c,rfl,hc⟩:=mem_int hx4
      have cm:=List.mem_of_getElem? hc
      have yes:((a<b∧b<c∧c<d)∨(d<a∧a<b∧b<c))→Q (.bl true) H4:=fun h=>k true ⟨fun _=>by
       rcases h with ⟨h1,h2,h3⟩ | ⟨h1,h2,h3⟩
       ·exact .inr ⟨a,am,c,cm,b,bm,d,dm,h1,h2,h3⟩
       ·exact .inl ⟨d,dm,b,bm,a,am,c,cm,h1,h2,h3⟩,fun _=>rfl⟩
      have no : ¬ ((a<b∧b<c∧c<d)∨(d<a∧a<b∧b<c))→∀ c∈M.take (t+1),¬ ((a<b∧b<c∧c<d)∨(d<a∧a<b∧b<c)):=fun h c' hc'=>by
       rw [take_snoc hc] at hc'
       rcases List.mem_append.mp hc' with hc' | hc'
       ·exact no4 c' hc'
       ·rw [List.mem_singleton.mp hc']; exact h
      refine ⟨_,rfl,_,rfl,_,_,rfl,rfl,_,rfl,?_⟩
      by_cases q1:a<b
      ·refine iteP (decide_eq_true q1) ⟨_,rfl,_,_,rfl,rfl,_,rfl,?_⟩
       by_cases q2:b<c
       ·refine iteP (decide_eq_true q2) ⟨_,rfl,_,_,rfl,rfl,_,rfl,?_⟩
        by_cases q3:c<d
        ·exact iteP (decide_eq_true q3) (yes (.inl ⟨q1,q2,q3⟩))
        ·refine iteE (decide_eq_false q3) ⟨_,rfl,_,rfl,_,_,rfl,rfl,_,rfl,?_⟩
         by_cases q4:d<a
         ·refine iteP (decide_eq_true q4) ⟨_,rfl,_,_,rfl,rfl,_,rfl,?_⟩
          by_cases q5:a<b
          ·refine iteP (decide_eq_true q5) ⟨_,rfl,_,_,rfl,rfl,_,rfl,?_⟩
           by_cases q6:b<c
           ·exact iteP (decide_eq_true q6) (yes (.inr ⟨q4,q5,q6⟩))
           ·exact iteE (decide_eq_false q6) ⟨⟨_,rfl⟩,rfl,no (by omega)⟩
          ·exact iteE (decide_eq_false q5) ⟨_,rfl,iteF ⟨⟨_,rfl⟩,rfl,no (by omega)⟩⟩
         ·exact iteE (decide_eq_false q4) ⟨_,rfl,iteF ⟨⟨_,rfl⟩,rfl,no (by omega)⟩⟩
       ·refine iteE (decide_eq_false q2) ⟨_,rfl,iteF ⟨_,rfl,_,rfl,_,_,rfl,rfl,_,rfl,?_⟩⟩
        by_cases q4:d<a
        ·refine iteP (decide_eq_true q4) ⟨_,rfl,_,_,rfl,rfl,_,rfl,?_⟩
         by_cases q5:a<b
         ·refine iteP (decide_eq_true q5) ⟨_,rfl,_,_,rfl,rfl,_,rfl,?_⟩
          by_cases q6:b<c
          ·exact iteP (decide_eq_true q6) (yes (.inr ⟨q4,q5,q6⟩))
          ·exact iteE (decide_eq_false q6) ⟨⟨_,rfl⟩,rfl,no (by omega)⟩
         ·exact iteE (decide_eq_false q5) ⟨_,rfl,iteF ⟨⟨_,rfl⟩,rfl,no (by omega)⟩⟩
        ·exact iteE (decide_eq_false q4) ⟨_,rfl,iteF ⟨⟨_,rfl⟩,rfl,no (by omega)⟩⟩
      ·refine iteE (decide_eq_false q1) ⟨_,rfl,iteF ⟨_,rfl,_,rfl,_,_,rfl,rfl,_,rfl,?_⟩⟩
       by_cases q4:d<a
       ·refine iteP (decide_eq_true q4) ⟨_,rfl,_,_,rfl,rfl,_,rfl,?_⟩
        by_cases q5:a<b
        ·refine iteP (decide_eq_true q5) ⟨_,rfl,_,_,rfl,rfl,_,rfl,?_⟩
         by_cases q6:b<c
         ·exact iteP (decide_eq_true q6) (yes (.inr ⟨q4,q5,q6⟩))
         ·exact iteE (decide_eq_false q6) ⟨⟨_,rfl⟩,rfl,no (by omega)⟩
        ·exact iteE (decide_eq_false q5) ⟨_,rfl,iteF ⟨⟨_,rfl⟩,rfl,no (by omega)⟩⟩
       ·exact iteE (decide_eq_false q4) ⟨_,rfl,iteF ⟨⟨_,rfl⟩,rfl,no (by omega)⟩⟩
     ·rintro σ H4 ⟨⟨v5,rfl⟩,rfl,no4⟩
      refine ⟨⟨_,_,rfl⟩,rfl,fun a' ha'=>?_⟩
      rw [take_snoc ha] at ha'
      rcases List.mem_append.mp ha' with ha' | ha'
      ·exact no3 a' ha'
      ·rw [List.mem_singleton.mp ha']
       rw [List.take_of_length_le (by rw [List.length_map]; exact Nat.le_refl _)] at no4
       exact no4
    ·rintro σ H3 ⟨⟨v4,v5,rfl⟩,rfl,no3⟩
     refine ⟨⟨_,_,_,rfl⟩,rfl,fun a' ha'=>?_⟩
     rw [take_snoc hd] at ha'
     rcases List.mem_append.mp ha' with ha' | ha'
     ·exact no2 a' ha'
     ·rw [List.mem_singleton.mp ha']
      rw [List.take_of_length_le (by rw [List.length_map]; exact Nat.le_refl _)] at no3
      exact no3
   ·rintro σ H2 ⟨⟨v3,v4,v5,rfl⟩,rfl,no2⟩
    refine ⟨⟨_,_,_,_,rfl⟩,rfl,fun a' ha'=>?_⟩
    rw [take_snoc hb] at ha'
    rcases List.mem_append.mp ha' with ha' | ha'
    ·exact no1 a' ha'
    ·rw [List.mem_singleton.mp ha']
     rw [List.take_of_length_le (by rw [List.length_map]; exact Nat.le_refl _)] at no2
     exact no2
  ·rintro σ H' ⟨_,rfl,no1⟩
   rw [List.take_of_length_le (by rw [List.length_map]; exact Nat.le_refl _)] at no1
   refine k false ⟨fun z=>(by cases z),fun z=>?_⟩
   rcases z with ⟨a,ha,c,hc,b,hb,d,hd,h1,h2,h3⟩ | ⟨a,ha,c,hc,b,hb,d,hd,h1,h2,h3⟩
   ·exact absurd (.inr ⟨h1,h2,h3⟩) (no1 c hc a ha b hb d hd)
   ·exact absurd (.inl ⟨h1,h2,h3⟩) (no1 b hb d hd a ha c hc)
theorem sc__law_is_part:FnScope ["_law_thing"] ["_law_thing"] (defScope (top 71)):=⟨rfl,rfl,rfl,by decide +kernel,rfl,by decide +kernel,by decide +kernel⟩
theorem ok_ipL {f:Addr} {fd:FuncData} (F:Fun K "_law_is_part" "_law_is_part" (top 71) f fd) (T:TIpL P w K mg base) : FnOk P w K mg base CX0 2 f fd ["_law_thing"] spIpL:=by
 refine F.ok sc__law_is_part (fun vs H Q E h=>?_) (fun cdv A outer s H vs Q E hr h=>?_)
 ·obtain ⟨v,P,d,rfl,_⟩:=h
  rfl
 ·obtain ⟨v,P,d,rfl,hd,few,nc,k⟩:=h
  refine ⟨_,(pss_cons (ps_if (PW.pt (pw_or (pt_not (pt_val (pe_callB (call_isiK (K:=K) rfl) rfl T.b_isinstance (by decide +kernel) (pa_cons (pv 0) (pa_cons (pe_bltn (v:=.ty "list") rfl T.b_list (by decide +kernel) rfl) pa_nil))))) (pw_or (pt_cmpR (op_eqD hr.units) (pv 0) (pe_lst pa_nil) (nomark _)) (pw_or1 (pt_not (pt_val (pe_callB (call_allK (K:=K) rfl rfl) rfl T.b_all (by decide +kernel) (pa_cons (pe_comp (N:=(["_law_one"] : List Str)) (ix:=([none] : List (Option Nat))) (comp_ok rfl rfl) rfl (pi_listK (K:=K) rfl (pv 0)) (fun _ _ _ _=>(pg_name (i:=0) (show List.Nodup (["_law_one"] : List Str) from by decide +kernel) rfl (Or.inl rfl))) (fun _ _ _ _=>pif_nil) (fun _ _ _ _=>(pe_callF T.f__law_whole (hr.mono (by first | decide | omega)) rfl (pa_cons (pv 0) pa_nil)))) pa_nil)))))))) (pss_one (ps_ret pe_bl)) pss_nil)
   (pss_one (ps_ret (pe_cmpR (op_eqD hr.units) (pe_callB (call_sortedSK (w:=w) rfl rfl) rfl T.b_sorted (by decide +kernel) (pa_cons (pe_callTy (call_setNK (K:=K) (w:=w) rfl rfl rfl) rfl T.b_set (by decide +kernel) (pa_cons (pv 0) pa_nil)) pa_nil)) (pv 0) (nomark _))))),?_⟩
  have big:(10000000:Nat)≤sizeLine:=by decide
  refine ⟨_,rfl,_,_, "list", _,rfl,hd.ty,kit_list K hd,_,rfl,?_⟩
  cases hd with
  | @lst b us es hb pb ru =>
   refine iteF ?_
   have el:=few es rfl
   have ul:=ru.length
   refine ⟨_,rfl,Nat.zero_le _,fun l3 f3=>?_⟩
   have se:Same H (upd H l3 (.lst [])):=Same.new f3
   have ge:upd H l3 (.lst []) l3=some (.lst []):=upd_same
   generalize upd H l3 (.lst [])=H3 at se ge ⊢
   refine eqNil (.lst (se _ _ hb) pb (DTs.same ru se)) nc ge ⟨_,rfl,?_⟩
   by_cases en:es=[]
   ·refine iteP (decide_eq_true en) ?_
    subst en
    exact k H3 se
   refine iteE (decide_eq_false en) ?_
   have hb3:=se _ _ hb
   have ru3:=DTs.same ru se
   refine ⟨_,rfl,b,rfl,⟨_,SqL.of hb3⟩,compL (K:=K) (a:=b) (xs:=us) (k:=0) (fun j zs σ' H'=>zs=((es.take j).map isw).map V.bl∧(∃ v,σ'=[v])∧H'=H3) (by omega) ⟨rfl,⟨none,rfl⟩,rfl⟩ (fun j zs σ' H' _ q=>by rw [q.2.2]; exact SqL.of hb3) (fun j zs σ' H' q=>by rw [q.1,List.length_map,List.length_map,List.length_take]; omega) ?_ ?_⟩
   ·rintro j zs σ' H' y R' hy ⟨rfl,⟨v,rfl⟩,rfl⟩ d2
    obtain ⟨e',he',hz'⟩:=ru3.get hy
    refine ⟨_,rfl,y,P,e',rfl,hz',d2 _ _ _ ⟨?_,⟨_,rfl⟩,rfl⟩⟩
    rw [all_take he',List.map_append]
    rfl
   rintro zs σ' H' q ⟨rfl,_,rfl⟩ fq
   rw [List.take_of_length_le (by omega)]
   have s4:Same H' (upd H' q (.lst ((es.map isw).map V.bl))):=Same.new fq
   refine ⟨q,es.map isw,rfl,SqL.of upd_same,_,rfl,?_⟩
   have ea:(es.map isw).all id=es.all isw:=by rw [List.all_map]; rfl
   rw [ea]
   generalize upd H' q (.lst ((es.map isw).map V.bl))=H4 at s4 ⊢
   have S4:=se.trans s4
   have ev:isptL (.list es)=(es.all isw && (adjB (es.map intI)).all id):=by
    show ((decide (es≠[]) && es.all isw) && (adjB (es.map intI)).all id)=_
    rw [decide_eq_true en,Bool.true_and]
   rw [ev] at k
   cases hw:es.all isw with
   | false =>
    rw [hw] at k
    exact iteT (k H4 S4)
   | true =>
    rw [hw,Bool.true_and] at k
    refine iteF ?_
    have ei:=isw_intI hw
    rw [ei] at ru3
    have hu:=shs_of.DTs.toIntsI ru3
    have Ml:(es.map intI).length=es.length:=List.length_map ..
    generalize hM:es.map intI=M at *
    subst hu
    have hb4:=s4 _ _ hb3
    refine ⟨_,rfl,b,M,rfl,SqL.of hb4,by omega,fun qs ms fqs nd mem=>?_⟩
    have msl:ms.length≤M.length:=sub_leA nd fun x hx=>(mem x).mp hx
    have s5:Same H4 (upd H4 qs (SetV w qs (ms.map V.int))):=Same.new fqs
    refine ⟨qs,ms,rfl,upd_same,by omega,fun l6 r6 f6 pm6 pw6=>?_⟩
    have n6:r6.Nodup:=pm6.nodup_iff.mpr nd
    have rise6:r6.Pairwise (· < ·):=(pw6.and n6).imp fun ⟨a,b⟩=>by omega
    have s6:Same (upd H4 qs (SetV w qs (ms.map V.int))) (upd (upd H4 qs (SetV w qs (ms.map V.int))) l6 (.lst (r6.map V.int))):=Same.new f6
    have a6:=s5.trans s6
    refine ⟨_,rfl,eqLL6 upd_same (a6 _ _ hb4) ?_⟩
    have eq:decide (r6=M)=(adjB M).all id:=by
     rw [Bool.eq_iff_iff,decide_eq_true_eq,adj_all]
     constructor
     ·intro z; rw [← z]; exact rise6
     ·intro z; exact rise_uniq rise6 z fun x=>(by rw [pm6.mem_iff,mem])
    rw [eq]
    exact k _ (S4.trans a6)
  | _=>exact iteT (k H (Same.refl H))
theorem sc__law_is_sharing:FnScope ["_law_n", "_law_thing", "_law_k"] ["_law_n", "_law_thing"] (defScope (top 72)):=⟨rfl,rfl,rfl,by decide +kernel,rfl,by decide +kernel,by decide +kernel⟩
theorem ok_isL {f:Addr} {fd:FuncData} (F:Fun K "_law_is_sharing" "_law_is_sharing" (top 72) f fd) (T:TIsL P w K mg base) : FnOk P w K mg base CX0 3 f fd ["_law_n", "_law_thing"] spIshD:=by
 refine F.ok sc__law_is_sharing (fun vs H Q E h=>?_) (fun cdv A outer s H vs Q E hr h=>?_)
 ·obtain ⟨v,P,d,n,rfl,_⟩:=h
  rfl
 ·obtain ⟨v,P,d,n,rfl,hd,few,nc,n1,n12,k⟩:=h
  refine ⟨_,(pss_cons (ps_if (PW.pt (pw_or (pt_not (pt_val (pe_callB (call_isiK (K:=K) rfl) rfl T.b_isinstance (by decide +kernel) (pa_cons (pv 1) (pa_cons (pe_bltn (v:=.ty "list") rfl T.b_list (by decide +kernel) rfl) pa_nil))))) (pw_or (pt_not (pt_val (pe_callB (call_allK (K:=K) rfl rfl) rfl T.b_all (by decide +kernel) (pa_cons (pe_comp (N:=(["_law_part"] : List Str)) (ix:=([none] : List (Option Nat))) (comp_ok rfl rfl) rfl (pi_listK (K:=K) rfl (pv 1)) (fun _ _ _ _=>(pg_name (i:=0) (show List.Nodup (["_law_part"] : List Str) from by decide +kernel) rfl (Or.inl rfl))) (fun _ _ _ _=>pif_nil) (fun _ _ _ _=>(pe_callF T.f__law_is_part (hr.mono (by first | decide | omega)) rfl (pa_cons (pv 0) pa_nil)))) pa_nil)))) (pw_or1 (pt_cmpR (op_neD hr.units) (pe_callB (call_sortedLL (K:=K) rfl hr.units) rfl T.b_sorted (by decide +kernel) (pa_cons (pv 1) pa_nil)) (pv 1) (nomark _)))))) (pss_one (ps_ret pe_bl)) pss_nil)
   (pss_cons (ps_if (pt_cmpR (op_neD hr.units) (pe_callB (call_sorted (K:=K) rfl) rfl T.b_sorted (by decide +kernel) (pa_cons (pe_callB (call_sum2 (K:=K) rfl rfl) rfl T.b_sum (by decide +kernel) (pa_cons (pv 1) (pa_cons (pe_lst pa_nil) pa_nil))) pa_nil)) (pe_callTy (call_list_rng rfl) rfl T.b_list (by decide +kernel) (pa_cons (pe_callTy call_range rfl T.b_range (by decide +kernel) (pa_cons pe_int (pa_cons (pe_op op_add (pv 0) pe_int) pa_nil))) pa_nil)) (nomark _)) (pss_one (ps_ret pe_bl)) pss_nil)
   (pss_cons (ps_for PassesOwn.never rfl (pi_range1 rfl T.b_range (pa_cons (pe_callB (call_lenK (K:=K) rfl) rfl T.b_len (by decide +kernel) (pa_cons (pv 1) pa_nil)) pa_nil)) (pg_name (i:=2) sc__law_is_sharing.nd rfl (Or.inr rfl)) (pss_one (ps_if (pt_val (pe_callB (call_any (K:=K) rfl rfl) rfl T.b_any (by decide +kernel) (pa_cons (pe_comp (N:=(["_law_other", "_law_thing", "_law_k"] : List Str)) (ix:=([none,some 1,some 2] : List (Option Nat))) (comp_ok rfl rfl) rfl (pi_listK (K:=K) rfl (pe_slice (sl_listK (K:=K) rfl) (pv 1) po_none (po_some (pv 2)))) (fun _ _ _ _=>(pg_name (i:=0) (show List.Nodup (["_law_other", "_law_thing", "_law_k"] : List Str) from by decide +kernel) rfl (Or.inl rfl))) (fun _ _ _ _=>pif_nil) (fun _ _ _ _=>(pe_callF T.f__law_crosses (hr.mono (by first | decide | omega)) rfl (pa_cons (pe_ix (ix_listK (K:=K) rfl) (pv 1) (pv 2) (fun _ _=>rfl)) (pa_cons (pv 0) pa_nil))))) pa_nil))) (pss_one (ps_ret pe_bl)) pss_nil)))
   (pss_one (ps_ret pe_bl))))),?_⟩
  have big:(10000000:Nat)≤sizeLine:=by decide
  have no : ∀ H',¬ IsSh n d→Same H H'→Q (.bl false) H':=fun H' z s=>k false H' ⟨fun q=>(by cases q),fun q=>absurd q z⟩ s
  refine ⟨_,rfl,_,_, "list", _,rfl,hd.ty,kit_list K hd,_,rfl,?_⟩
  cases hd with
  | @lst l ws ds hl pl rs =>
   refine iteF ?_
   obtain ⟨dl,dl2⟩:=few ds rfl
   have wl:=rs.length
   refine ⟨_,rfl,l,rfl,⟨_,SqL.of hl⟩,compL (K:=K) (a:=l) (xs:=ws) (k:=0) (fun i ys σ' H'=>ys=((ds.take i).map isptL).map V.bl∧(∃ v,σ'=[v])∧Same H H') (by omega) ⟨rfl,⟨none,rfl⟩,Same.refl _⟩ (fun i ys σ' H' _ q=>SqL.of (q.2.2 _ _ hl)) (fun i ys σ' H' q=>by rw [q.1,List.length_map,List.length_map,List.length_take]; omega) ?_ ?_⟩
   ·rintro i ys σ' H1 z R hz ⟨rfl,⟨v,rfl⟩,s1⟩ done
    obtain ⟨e,he,hez⟩:=rs.get hz
    have em:=List.mem_of_getElem? he
    refine ⟨_,rfl,z,P,e,rfl,DT.same hez s1,fun es hes=>by have:=mem_sumI em; rw [hes] at this; have:es.length≤_:=this; omega,nice_sub nc e em,fun H2 s2=>done _ _ _ ⟨?_,⟨_,rfl⟩,s1.trans s2⟩⟩
    rw [all_take he,List.map_append]
    rfl
   rintro ys σ' H1 r ⟨rfl,_,s1⟩ fr
   rw [List.take_of_length_le (by omega)]
   have s2:=s1.trans (Same.new (o:=.lst ((ds.map isptL).map V.bl)) fr)
   refine ⟨r,ds.map isptL,rfl,SqL.of upd_same,_,rfl,?_⟩
   have ea:(ds.map isptL).all id=ds.all isptL:=by rw [List.all_map]; rfl
   rw [ea]
   generalize upd H1 r (.lst ((ds.map isptL).map V.bl))=H2 at s2 ⊢
   cases hw:ds.all isptL with
   | false =>
    refine iteT (no H2 (fun ⟨Ls,e,g⟩=>?_) s2)
    injection e with e
    rw [e,List.all_map] at hw
    have:Ls.all (isptL ∘ fun L=>PyData.list (L.map PyData.int))=true:=List.all_eq_true.mpr fun L hL=>isptL_of (g.cv.1 L hL) (g.rise L hL)
    rw [this] at hw; cases hw
   | true =>
    refine iteF ?_
    obtain ⟨Ls,et,pr⟩:=shsL_of hw
    have Ll:Ls.length=ds.length:=by rw [et,List.length_map]
    have xl0:Lsts H ws Ls:=lsts_of (by rw [← et]; exact rs)
    have fl:Ls.flatten.length≤60:=by
     rw [et,List.map_map] at dl2
     have e2:(lenI ∘ fun L:List Int=>PyData.list (L.map PyData.int))=List.length:=funext fun L=>List.length_map ..
     rw [e2,← List.length_flatten] at dl2
     exact dl2
    have uniq : ∀ Ms,PyData.list ds=shD Ms→Ms=Ls:=fun Ms h=>by
     injection h with h
     rw [et] at h
     have inj : ∀ a b:List Int,PyData.list (a.map PyData.int)=PyData.list (b.map PyData.int)→a=b:=fun a b h=>by
      injection h with h
      have:=congrArg (List.map intI) h
      rwa [map_intI,map_intI] at this
     exact ((List.map_inj_right inj).mp h).symm
    have yes:Gsd n Ls→IsSh n (.list ds):=fun g=>⟨Ls,by rw [et]; rfl,g⟩
    have neg : ¬ Gsd n Ls→¬ IsSh n (.list ds):=fun z ⟨Ms,h,g⟩=>z (by rw [← uniq Ms h]; exact g)
    have hl2:=s2 _ _ hl
    have xl2:=xl0.keep s2
    refine ⟨_,rfl,?_⟩
    dsimp only [tNil]
    refine sortLB hl2 xl2 (by omega) fun l9 us Ms H9 f9 h9 x9 p9 s9 uq so _ _=>?_
    have S9:=s2.trans s9
    refine ⟨_,rfl,eqLL h9 x9 (s9 _ _ hl2) (xl2.keep s9) ⟨_,rfl,?_⟩⟩
    by_cases em:Ms=Ls
    ·refine iteE (by rw [decide_eq_true em]; rfl) ?_
     have hl9:=s9 _ _ hl2
     have xl9:=xl2.keep s9
     refine ⟨_,rfl,Nat.zero_le _,fun q0 fq0=>?_⟩
     have s10:Same H9 (upd H9 q0 (.lst [])):=Same.new fq0
     have h10:upd H9 q0 (.lst []) q0=some (.lst []):=upd_same
     generalize upd H9 q0 (.lst [])=H10 at s10 h10 ⊢
     dsimp only [tNil]
     refine sum2_at (s10 _ _ hl9) (xl9.keep s10) h10 (by omega) fun lt H11 hlt s11=>?_
     refine ⟨lt,Ls.flatten,rfl,SqL.of hlt,by omega,fun lc r' flc pm pw=>?_⟩
     have s4:Same H11 (upd H11 lc (.lst (r'.map V.int))):=Same.new flc
     have h4:upd H11 lc (.lst (r'.map V.int)) lc=some (.lst (r'.map V.int)):=upd_same
     generalize upd H11 lc (.lst (r'.map V.int))=H4 at s4 h4 ⊢
     refine ⟨_,rfl,_,_,rfl,rfl,.inr ⟨_,_,rfl,fun rg hrg=>⟨rg,_,_,rfl,upd_same,by omega,by omega,by omega,by omega,fun ll hll=>?_⟩⟩⟩
     have s5:=(Same.new (o:=.rng 1 (n+1)) hrg).trans (Same.new (o:=.lst ((ivl 1 (n+1)).map V.int)) hll)
     refine eqL (s5 _ _ h4) upd_same ⟨_,rfl,?_⟩
     have a5:=S9.trans (s10.trans (s11.trans (s4.trans s5)))
     generalize upd (upd H4 rg (.rng 1 (n+1))) ll (.lst ((ivl 1 (n+1)).map V.int))=H5 at s5 a5 ⊢
     by_cases er:r'=ivl 1 (n+1)
     ·refine iteE (by rw [decide_eq_true er]; rfl) ?_
      have cv:Cov n Ls:=⟨fun L hL=>(pr L hL).1,by rw [← er]; exact pm.symm⟩
      have ndS:=flat_nodup cv
      have hl5:=a5 _ _ hl
      have xl5:=xl0.keep a5
      refine ⟨_,rfl,l,_,rfl,.inl (SqL.of hl5),_,rfl,by omega,by omega,?_⟩
      refine for_range (fun i σ H'=>(∃ v2,σ=[some (.int n),some (.ref l),v2])∧Same H5 H'∧∀ (p q:Nat) (L M:List Int),p<i→q<p→Ls[p]?=some L→Ls[q]?=some M→¬ (Crs L M∨Crs M L)) ⟨⟨_,rfl⟩,Same.refl _,fun p q L M h=>by omega⟩ ?_ ?_
      ·rintro i σ H6 hi ⟨⟨v2,rfl⟩,s6,no6⟩
       have hi:i<Ls.length:=by omega
       have hl6:=s6 _ _ hl5
       have xl6:=xl5.keep s6
       obtain ⟨vi,hvi⟩ : ∃ v,ws[i]?=some v:=⟨_,List.getElem?_eq_getElem (by omega)⟩
       obtain ⟨bi,Li,rfl,hbi,hLi⟩:=xl6.get hvi
       refine ⟨_,rfl,_,rfl,?_⟩
       try dsimp only [tNoPart]
       refine ⟨_,rfl,l,ws,rfl,SqL.of hl6,fun l7 f7=>?_⟩
       have ec:cutV ws none (some (0+(i:Int)))=ws.take i:=by rw [cutT9 (by omega) (by omega),show (0+(i:Int)).toNat=i by omega]
       rw [ec]
       have s7:Same H6 (upd H6 l7 (.lst (ws.take i))):=Same.new f7
       have h7:upd H6 l7 (.lst (ws.take i)) l7=some (.lst (ws.take i)):=upd_same
       generalize upd H6 l7 (.lst (ws.take i))=H7 at s7 h7 ⊢
       have hl7:=s7 _ _ hl6
       have xl7:=xl6.keep s7
       refine ⟨l7,rfl,⟨_,SqL.of h7⟩,compL (K:=K) (a:=l7) (xs:=ws.take i) (k:=0) (fun j ys σ' H'=>(∃ bs:List Bool,ys=bs.map V.bl∧bs.length≤j∧(bs.any id=true↔∃ q M,q<j∧Ls[q]?=some M∧(Crs Li M∨Crs M Li)))∧(∃ v,σ'=[v,some (.ref l),some (.int (0+(i:Int)))])∧H'=H7) (by rw [List.length_take]; omega) ⟨⟨[],rfl,Nat.le_refl _,⟨fun z=>(by cases z),fun ⟨q,M,h,_⟩=>by omega⟩⟩,⟨none,rfl⟩,rfl⟩ (fun j ys σ' H' _ z=>by rw [z.2.2]; exact SqL.of h7) (fun j ys σ' H' z=>by obtain ⟨⟨bs,e,h,_⟩,_⟩:=z; rw [e,List.length_map]; exact h) ?_ ?_⟩
       ·rintro j ys σ' H' x R hx ⟨⟨bs,rfl,bl,an⟩,⟨v,rfl⟩,rfl⟩ done
        have hj:=(List.getElem?_eq_some_iff.mp hx).1
        rw [List.length_take] at hj
        rw [List.getElem?_take_of_lt (by omega)] at hx
        obtain ⟨bj,Lj,rfl,hbj,hLj⟩:=xl7.get hx
        refine ⟨_,rfl,_,rfl,l,_,_,_,rfl,rfl,SqL.of hl7,at_refI (by omega) (by rw [show (0+(i:Int)).toNat=i by omega]; exact hvi),_,rfl,bi,bj,Li,Lj,rfl,s7 _ _ hbi,hbj,fun b hb=>done _ _ _ ⟨⟨bs++[b],by rw [List.map_append]; rfl,by rw [List.length_append]; show _+1≤_; omega,?_⟩,⟨_,rfl⟩,rfl⟩⟩
        rw [List.any_append,Bool.or_eq_true,an]
        have e1:([b].any id=true)↔(Crs Li Lj∨Crs Lj Li):=by rw [← hb]; simp
        rw [e1]
        constructor
        ·rintro (⟨q,M,h1,h2,h3⟩ | h)
         ·exact ⟨q,M,by omega,h2,h3⟩
         ·exact ⟨j,Lj,by omega,hLj,h⟩
        ·rintro ⟨q,M,h1,h2,h3⟩
         by_cases e:q=j
         ·subst e; rw [hLj] at h2; cases h2; exact .inr h3
         ·exact .inl ⟨q,M,by omega,h2,h3⟩
       ·rintro ys σ' H' q8 ⟨⟨bs,rfl,bl,an⟩,_,rfl⟩ fq8
        have s8:Same H' (upd H' q8 (.lst (bs.map V.bl))):=Same.new fq8
        refine ⟨q8,bs,rfl,SqL.of upd_same,_,rfl,ite2 (fun c=>?_) (fun c=>?_)⟩
        ·obtain ⟨q,M,h1,h2,h3⟩:=an.mp c
         rw [List.length_take] at h1
         refine no _ (neg fun g=>?_) (a5.trans (s6.trans (s7.trans s8)))
         have hne:Li≠M:=fun z=>by
          subst z
          have e1:=(List.getElem?_eq_some_iff.mp hLi)
          have e2:=(List.getElem?_eq_some_iff.mp h2)
          have:=List.pairwise_iff_getElem.mp ndS q i e2.1 e1.1 (by omega)
          exact this (by rw [e1.2,e2.2])
         rcases h3 with ⟨a,ha,c,hc,b,hb,d,hd,q1,q2,q3⟩ | ⟨a,ha,c,hc,b,hb,d,hd,q1,q2,q3⟩
         ·exact hne (g.nx Li (List.mem_of_getElem? hLi) M (List.mem_of_getElem? h2) a b c d ha hc hb hd q1 q2 q3)
         ·exact hne (g.nx M (List.mem_of_getElem? h2) Li (List.mem_of_getElem? hLi) a b c d ha hc hb hd q1 q2 q3).symm
        ·refine ⟨⟨_,rfl⟩,s6.trans (s7.trans s8),fun p q L M hp hq h1 h2 h3=>?_⟩
         by_cases e:p=i
         ·subst e
          rw [hLi] at h1; cases h1
          exact c (an.mpr ⟨q,M,by rw [List.length_take]; omega,h2,h3⟩)
         ·exact no6 p q L M (by omega) hq h1 h2 h3
      ·rintro σ H6 ⟨⟨v2,rfl⟩,s6,no6⟩
       refine k true H6 ⟨fun _=>yes ⟨cv,fun L hL=>(pr L hL).2,fun L hL M hM a b c d ha hc hb hd q1 q2 q3=>?_,by rw [← em]; exact so⟩,fun _=>rfl⟩ (a5.trans s6)
       obtain ⟨p,hp⟩:=List.getElem?_of_mem hL
       obtain ⟨q,hq⟩:=List.getElem?_of_mem hM
       have pl:=(List.getElem?_eq_some_iff.mp hp).1
       have ql:=(List.getElem?_eq_some_iff.mp hq).1
       rcases Nat.lt_trichotomy p q with h | h | h
       ·exact absurd (.inr ⟨a,ha,c,hc,b,hb,d,hd,q1,q2,q3⟩) (no6 q p M L (by omega) h hq hp)
       ·subst h; rw [hp] at hq; exact Option.some.inj hq
       ·exact absurd (.inl ⟨a,ha,c,hc,b,hb,d,hd,q1,q2,q3⟩) (no6 p q L M (by omega) h hp hq)
     ·refine iteP (by rw [decide_eq_false er]; rfl) ?_
      refine no H5 (neg fun g=>er ?_) a5
      have p2:r'.Perm (ivl 1 (n+1)):=pm.trans g.cv.2
      have nd:r'.Nodup:=p2.nodup_iff.mpr (ivl_nodup3 n)
      exact rise_uniq ((pw.and nd).imp fun ⟨a,b⟩=>by omega) (ivl_riseS 1 (n+1)) fun x=>p2.mem_iff
    ·refine iteP (by rw [decide_eq_false em]; rfl) ?_
     exact no H9 (neg fun g=>em (uq Ls (List.Perm.refl _) g.srt)) S9
  | _=>exact iteT (no H (fun ⟨Ls,e,_⟩=>by cases e) (Same.refl H))
end
end Sw
namespace Sw
open PySem L2
def partsP:List (Str × Int):=[("row", 3),("least", 3),("walk", 5),("half", 4),("chain", 3),("counts", 3)]
def isPaper:PyData→Bool
 | .tuple (.str x :: ds)=>decide (numOf partsP x=some ((ds.length:Int)+1))
 | _=>false
def spPaper (g:PyData→Bool) (R:PyData→Prop) : Sp:=fun vs H Q _=>∃ (v:V) (P:Addr→Prop) (x:Str) (ds:List PyData),vs=[.str x,v]∧DT H P v (.tuple (.str x :: ds))∧isPaper (.tuple (.str x :: ds))=true∧R (.tuple (.str x :: ds))∧∀ H',Same H H'→Q (.bl (g (.tuple (.str x :: ds)))) H'
def spHolds (g:PyData→Bool) (R:PyData→Prop) : Sp:=fun vs H Q _=>∃ (v:V) (P:Addr→Prop) (d:PyData),vs=[v]∧DT H P v d∧(isPaper d=true→R d)∧∀ H',Same H H'→Q (.bl (isPaper d && g d)) H'
structure THd (P:Program) (w:World) (K:PySem.W.Frag) (mg:Str→Option Value) (base:Heap) (U:Addr) (g:PyData→Bool) (R:PyData→Prop) (n:Nat) : Prop extends T1 mg K where
 b_str:mg "str" = none
 g_PARTS:mg "PARTS_OF_PAPERS" = some (.ref U)
 r_PARTS:RelV (.ref U) (.ref U)
 k_PARTS:KNum K w.params U partsP
 f_paper_holds:FnAt P w K mg base "paper_holds" n ["word", "paper"] (spPaper g R)
section
variable {P:Program} {w:World} {K:PySem.W.Frag} {mg:Str→Option Value} {base:Heap}
def isS:PyData→Bool
 | .str _=>true
 | _=>false
theorem kit_strD (K:PySem.W.Frag) {H:Hp} {P:Addr→Prop} {v:V} {d:PyData} (h:DT H P v d) : PySem.W.kitOne K (.type (tyD d)) (.type "str")=some (isS d):=by
 cases h with
 | non=>exact kit_type K (show kitB "NoneType" "str" = some false by decide +kernel)
 | bl b=>exact kit_type K (show kitB "bool" "str" = some false by decide +kernel)
 | int i=>exact kit_type K (show kitB "int" "str" = some false by decide +kernel)
 | str x=>exact kit_type K (show kitB "str" "str" = some true by decide +kernel)
 | lst h p r=>exact kit_type K (show kitB "list" "str" = some false by decide +kernel)
 | tup h p r=>exact kit_type K (show kitB "tuple" "str" = some false by decide +kernel)
theorem ok_nev {x q:Str} {st:Stmt} {k:Nat} {ps:List Str} {sp:Sp} {f:Addr} {fd:FuncData} (F:Fun K x q st f fd) (no : ∀ vs H Q E,sp vs H Q E→False) : FnOk P w K mg base CX0 k f fd ps sp :=
 ⟨fun vs H Q E h=>(no vs H Q E h).elim,fun _ _ _ H _ _ vs Q E _ _ _ _ h=>(no vs H Q E h).elim⟩
theorem sc_holds:FnScope ["paper", "word"] ["paper"] (defScope (top 62)):=⟨rfl,rfl,rfl,by decide +kernel,rfl,by decide +kernel,by decide +kernel⟩
theorem ok_holds {U:Addr} {g:PyData→Bool} {R:PyData→Prop} {n:Nat} {f:Addr} {fd:FuncData} (F:Fun K "holds" "holds" (top 62) f fd) (T:THd P w K mg base U g R n) : FnOk P w K mg base CX0 (n+1) f fd ["paper"] (spHolds g R):=by
 refine F.ok sc_holds (fun vs H Q E h=>?_) (fun cdv A outer s H vs Q E hr h=>?_)
 ·obtain ⟨v,P,d,rfl,_⟩:=h
  rfl
 ·obtain ⟨v,P,d,rfl,hd,hR,k⟩:=h
  refine ⟨_,(pss_cons (ps_if (PW.pt (pw_or (pt_not (pt_val (pe_callB (call_isiK (K:=K) rfl) rfl T.b_isinstance (by decide +kernel) (pa_cons (pv 0) (pa_cons (pe_bltn (v:=.ty "tuple") rfl T.b_tuple (by decide +kernel) rfl) pa_nil))))) (pw_or (pt_cmpR op_eq (pe_callB (call_lenK (K:=K) rfl) rfl T.b_len (by decide +kernel) (pa_cons (pv 0) pa_nil)) pe_int (nomark _)) (pw_or1 (pt_not (pt_val (pe_callB (call_isiK (K:=K) rfl) rfl T.b_isinstance (by decide +kernel) (pa_cons (pe_ix (ix_tupK (K:=K) rfl) (pv 0) pe_int (fun _ _=>rfl)) (pa_cons (pe_bltn (v:=.ty "str") rfl T.b_str (by decide +kernel) rfl) pa_nil))))))))) (pss_one (ps_ret pe_bl)) pss_nil)
   (pss_cons (ps_set (i:=1) sc_holds.nd rfl (Or.inl rfl) (pe_ix (ix_tupK (K:=K) rfl) (pv 0) pe_int (fun _ _=>rfl)))
   (pss_one (ps_ret (pe_and (pe_cmpR op_eq (pe_kget1 T.k_PARTS (Nat.lt_trans (Nat.add_lt_add_left (by decide) _) hr.units) (pe_glob rfl T.g_PARTS T.r_PARTS) (pv 1) ⟨rfl,rfl,rfl,rfl⟩) (pe_callB (call_lenK (K:=K) rfl) rfl T.b_len (by decide +kernel) (pa_cons (pv 0) pa_nil)) (nomark _)) (pe_one (pe_callF T.f_paper_holds (hr.mono (by first | decide | omega)) rfl (pa_cons (pv 1) (pa_cons (pv 0) pa_nil))))))))),?_⟩
  refine ⟨_,rfl,_,_, "tuple", _,rfl,hd.ty,kit_tuple K hd,_,rfl,?_⟩
  cases hd with
  | @tup a us ds ha pa rs =>
   refine iteF ?_
   cases rs with
   | nil=>exact ⟨_,rfl,a,_,rfl,.inr (SqT.of ha),rfl,_,rfl,iteT (k H (Same.refl H))⟩
   | @cons v0 d0 us ds h0 rs =>
    refine ⟨_,rfl,a,_,rfl,.inr (SqT.of ha),rfl,_,rfl,iteE (decide_eq_false fun z=>by have:=V.int.inj z; rw [List.length_cons] at this; omega) ?_⟩
    refine ⟨_,rfl,a,_,_,_,rfl,rfl,SqT.of ha,atI_nat (j:=0) rfl,_,_, "str", _,rfl,h0.ty,kit_strD K h0,_,rfl,?_⟩
    cases h0 with
    | str x =>
     refine iteF ?_
     refine ⟨_,rfl,a,_,_,_,rfl,rfl,SqT.of ha,atI_nat (j:=0) rfl,?_⟩
     refine ⟨rfl,_,rfl,x,rfl,?_⟩
     have ul:=rs.length
     cases hnum:numOf partsP x with
     | none =>
      have pp:isPaper (.tuple (.str x :: ds))=false:=by
       show decide (numOf partsP x=some _)=false
       rw [hnum]; exact decide_eq_false fun z=>by cases z
      rw [pp] at k
      exact ⟨_,rfl,a,_,rfl,.inr (SqT.of ha),rfl,_,rfl,iteE (decide_eq_false fun z=>by cases z) (k H (Same.refl H))⟩
     | some m =>
      have e:isPaper (.tuple (.str x :: ds))=decide (V.int m=V.int ((V.str x :: us).length:Int)):=by
       show decide (numOf partsP x=some ((ds.length:Int)+1))=_
       rw [hnum,Bool.eq_iff_iff,decide_eq_true_eq,decide_eq_true_eq]
       constructor
       ·intro z; have:=Option.some.inj z; rw [List.length_cons]; congr 1; omega
       ·intro z; have:=V.int.inj z; rw [List.length_cons] at this; congr 1; omega
      refine ⟨_,rfl,a,_,rfl,.inr (SqT.of ha),rfl,_,rfl,ite2 (fun c=>?_) (fun c=>?_)⟩
      ·have pp:=e.trans c
       rw [pp] at k
       exact ⟨_,rfl,_,rfl,.ref a,P,x,ds,rfl,.tup ha pa (.cons (.str x) rs),pp,hR pp,fun H' s=>k H' s⟩
      ·have pp:=e.trans (Bool.eq_false_iff.mpr fun z=>c z)
       rw [pp] at k
       exact k H (Same.refl H)
    | _=>exact iteT (k H (Same.refl H))
  | _=>exact iteT (k H (Same.refl H))
end
end Sw
namespace Sw
open PySem L2
def ChainH (n d:PyData) : Prop:=∃ (i:Int) (SS:List (List (List Int))),n=.int i∧1≤i∧i≤12∧d=.list (SS.map shD)∧(∀ S∈SS,Gsd i S)∧ChG SS
theorem shD_inj7 {Ls Ms:List (List Int)} (h:shD Ls=shD Ms) : Ls=Ms:=by
 injection h with h
 have e:(fun d=>match d with | PyData.list es=>es.map intI | _=>[]) ∘ (fun L:List Int=>PyData.list (L.map PyData.int))=id:=funext fun L=>map_intI L
 have:=congrArg (List.map fun d=>match d with | PyData.list es=>es.map intI | _=>[]) h
 rw [List.map_map,List.map_map,e,List.map_id,List.map_id] at this
 exact this
theorem shDs_inj : ∀ {SS TT:List (List (List Int))},SS.map shD=TT.map shD→SS=TT
 | [],[],_=>rfl
 | [],_ :: _,h=>by simp at h
 | _ :: _,[],h=>by simp at h
 | S :: SS,T :: TT,h=>by
  rw [List.map_cons,List.map_cons] at h
  injection h with h1 h2
  rw [shD_inj7 h1,shDs_inj h2]
open Classical in
noncomputable def g67:PyData→Bool
 | .tuple [.str _,n,a]=>decide (ChainH n a)
 | _=>false
def FewC (d:PyData) : Prop:=∀ ds,d=.list ds→ds.length≤60∧∀ e∈ds,Few2 e
def R67 (d:PyData) : Prop:=∃ n a,d=.tuple [.str "chain", n,a]∧FewC a
def spChH7:Sp:=fun vs H Q _=>∃ (v1 v2:V) (P:Addr→Prop) (n a:PyData),vs=[v1,v2]∧DT H P v1 n∧DT H P v2 a∧FewC a∧∀ r H',(r=true↔ChainH n a)→Same H H'→Q (.bl r) H'
def spNev:Sp:=fun _ _ _ _=>False
theorem shs_of7 {H:Hp} {P:Addr→Prop} : ∀ {vs:List V} {SS:List (List (List Int))},DTs H P vs (SS.map shD)→∃ (as:List Addr) (uss:List (List V)),vs=as.map V.ref∧Shs H as uss SS
 | vs,[],h=>by cases h; exact ⟨[],[],rfl,Shs.nil⟩
 | vs,S :: SS,h=>by
  cases h with
  | cons h1 h2 =>
   obtain ⟨as,uss,e,x⟩:=shs_of7 h2
   cases h1 with
   | @lst a us _ ha pa rs =>
    have xl:=lsts_of rs
    refine ⟨a :: as,us :: uss,by rw [e]; rfl,by have:=x.1; simp; omega,by have:=x.2.1; simp; omega,fun i b vs T e1 e2 e3=>?_⟩
    cases i with
    | zero=>cases e1; cases e2; cases e3; exact ⟨ha,xl⟩
    | succ i=>exact x.2.2 i b vs T e1 e2 e3
theorem gsd_few {i:Int} {S:List (List Int)} (i1 : 1≤i) (i12:i≤12) (g:Gsd i S) : S.length≤60∧∀ L∈S,L.length≤60:=by
 have sz:=g.cv.sizes (by omega)
 exact ⟨by have:=sz.1; omega,fun L hL=>by have:=sz.2 L hL; omega⟩
theorem all_sh {i:Int} : ∀ {ds:List PyData},(∀ e∈ds,IsSh i e)→∃ SS:List (List (List Int)),ds=SS.map shD∧∀ S∈SS,Gsd i S
 | [],_=>⟨[],rfl,fun _ h=>by cases h⟩
 | d :: ds,h=>by
  obtain ⟨S,e,g⟩:=h d List.mem_cons_self
  obtain ⟨SS,e2,g2⟩:=all_sh fun e he=>h e (List.mem_cons_of_mem _ he)
  refine ⟨S :: SS,by rw [e,e2]; rfl,fun T hT=>?_⟩
  rcases List.mem_cons.mp hT with rfl | hT
  ·exact g
  ·exact g2 T hT
structure TCh7 (P:Program) (w:World) (K:PySem.W.Frag) (mg:Str→Option Value) (base:Heap) (u:Value) : Prop extends T1 mg K where
 g_MOST_THINGS:mg "MOST_THINGS" = some u
 r_MOST_THINGS:RelV (.int 12) u
 f_is_between:FnAt P w K mg base "is_between" 2 ["thing", "low", "high"] spBtD
 f_is_sharing:FnAt P w K mg base "is_sharing" 4 ["n", "thing"] spIssD
 f_is_chain:FnAt P w K mg base "is_chain" 4 ["chain"] spIscG
structure TPh7 (P:Program) (w:World) (K:PySem.W.Frag) (mg:Str→Option Value) (base:Heap) : Prop extends T1 mg K where
 f_walk_holds:FnAt P w K mg base "walk_holds" 8 ["n", "one", "moves", "other"] spNev
 f_row_holds:FnAt P w K mg base "row_holds" 8 ["order", "row"] spNev
 f_least_holds:FnAt P w K mg base "least_holds" 8 ["order", "row"] spNev
 f_half_holds:FnAt P w K mg base "half_holds" 8 ["n", "one", "other"] spNev
 f_chain_holds:FnAt P w K mg base "chain_holds" 8 ["n", "sharings"] spChH7
 f_counts_hold:FnAt P w K mg base "counts_hold" 8 ["n", "lists"] spNev
section
variable {P:Program} {w:World} {K:PySem.W.Frag} {mg:Str→Option Value} {base:Heap}
theorem sc_chain_holds:FnScope ["n", "sharings"] ["n", "sharings"] (defScope (top 58)):=⟨rfl,rfl,rfl,by decide +kernel,rfl,by decide +kernel,by decide +kernel⟩
theorem ok_chh {u:Value} {f:Addr} {fd:FuncData} (F:Fun K "chain_holds" "chain_holds" (top 58) f fd) (T:TCh7 P w K mg base u) : FnOk P w K mg base CX0 8 f fd ["n", "sharings"] spChH7:=by
 refine F.ok sc_chain_holds (fun vs H Q E h=>?_) (fun cdv A outer s H vs Q E hr h=>?_)
 ·obtain ⟨v1,v2,P,n,a,rfl,_⟩:=h
  rfl
 ·obtain ⟨v1,v2,P,n,a,rfl,dn,da,fa,k⟩:=h
  refine ⟨_,(pss_cons (ps_if (PW.pt (pw_or (pt_not (pt_val (pe_callF T.f_is_between (hr.mono (by first | decide | omega)) rfl (@pa_cons _ _ _ _ _ (pv 0) (@pa_cons _ _ _ _ _ pe_int (@pa_cons _ _ _ _ _ (pe_glob rfl T.g_MOST_THINGS T.r_MOST_THINGS) pa_nil st_name) st_con) st_name)))) (pw_or1 (pt_not (pt_val (pe_callB (call_isiK (K:=K) rfl) rfl T.b_isinstance (by decide +kernel) (pa_cons (pv 1) (pa_cons (pe_bltn (v:=.ty "list") rfl T.b_list (by decide +kernel) rfl) pa_nil)))))))) (pss_one (ps_ret pe_bl)) pss_nil)
   (pss_one (ps_ret (pe_and (pe_callB (call_allK (K:=K) rfl rfl) rfl T.b_all (by decide +kernel) (pa_cons (pe_comp (N:=(["sharing", "n"] : List Str)) (ix:=([none,some 0] : List (Option Nat))) (comp_ok rfl rfl) rfl (pi_listK (K:=K) rfl (pv 1)) (fun _ _ _ _=>(pg_name (i:=0) (show List.Nodup (["sharing", "n"] : List Str) from by decide +kernel) rfl (Or.inl rfl))) (fun _ _ _ _=>pif_nil) (fun _ _ _ _=>(pe_callF T.f_is_sharing (hr.mono (by first | decide | omega)) rfl (pa_cons (pv 1) (pa_cons (pv 0) pa_nil))))) pa_nil)) (pe_one (pe_callF T.f_is_chain (hr.mono (by first | decide | omega)) rfl (pa_cons (pv 1) pa_nil))))))),?_⟩
  have no : ∀ H',¬ ChainH n a→Same H H'→Q (.bl false) H':=fun H' z s=>k false H' ⟨fun q=>(by cases q),fun q=>absurd q z⟩ s
  refine ⟨_,rfl,v1,P,n,1,12,rfl,dn,_,rfl,?_⟩
  cases e1:btw 1 12 n with
  | false=>exact iteT (no H (fun ⟨i,SS,h,a1,a2,_⟩=>by subst h; rw [show btw 1 12 (.int i)=decide (1≤i∧i≤12) from rfl,decide_eq_true ⟨a1,a2⟩] at e1; cases e1) (Same.refl H))
  | true =>
   refine iteF ?_
   obtain ⟨i,rfl⟩ : ∃ i,n=.int i:=by cases n <;> first | exact ⟨_,rfl⟩ | cases e1
   cases dn
   have ib : 1≤i∧i≤12:=of_decide_eq_true e1
   refine ⟨_,rfl,_,_, "list", _,rfl,da.ty,kit_list K da,_,rfl,?_⟩
   cases da with
   | @lst q us ds hq pq rs =>
    refine iteF ?_
    obtain ⟨fl,fe⟩:=fa ds rfl
    have ul:=rs.length
    refine ⟨_,rfl,q,rfl,⟨_,SqL.of hq⟩,compL (K:=K) (a:=q) (xs:=us) (k:=0) (fun j ys σ' H'=>(∃ bs:List Bool,ys=bs.map V.bl∧bs.length=j∧(bs.all id=true↔∀ e∈ds.take j,IsSh i e))∧(∃ v,σ'=[v,some (.int i)])∧Same H H') (by omega) ⟨⟨[],rfl,rfl,by simp⟩,⟨none,rfl⟩,Same.refl _⟩ (fun j ys σ' H' _ z=>SqL.of (z.2.2 _ _ hq)) (fun j ys σ' H' z=>by obtain ⟨⟨bs,e,h,_⟩,_⟩:=z; rw [e,List.length_map]; omega) ?_ ?_⟩
    ·rintro j ys σ' H1 x R hx ⟨⟨bs,rfl,bl,ba⟩,⟨v,rfl⟩,s1⟩ done
     obtain ⟨d,hd,dx⟩:=rs.get hx
     refine ⟨_,rfl,_,rfl,x,P,d,i,rfl,DT.same dx s1,fe d (List.mem_of_getElem? hd),ib.1,ib.2,fun b H2 hb s2=>done _ _ _ ⟨⟨bs++[b],by rw [List.map_append]; rfl,by rw [List.length_append,bl]; rfl,?_⟩,⟨_,rfl⟩,s1.trans s2⟩⟩
     rw [List.all_append,Bool.and_eq_true,ba,take_snoc hd]
     have e1:([b].all id=true)↔IsSh i d:=by rw [← hb]; simp
     rw [e1]
     constructor
     ·rintro ⟨h1,h2⟩ e he
      rcases List.mem_append.mp he with he | he
      ·exact h1 e he
      ·rw [List.mem_singleton.mp he]; exact h2
     ·exact fun h=>⟨fun e he=>h e (List.mem_append_left _ he),h d (List.mem_append_right _ (List.mem_singleton.mpr rfl))⟩
    rintro ys σ' H1 r ⟨⟨bs,rfl,bl,ba⟩,_,s1⟩ fr
    rw [List.take_of_length_le (by omega)] at ba
    have s2:=s1.trans (Same.new (o:=.lst (bs.map V.bl)) fr)
    refine ⟨r,bs,rfl,SqL.of upd_same,_,rfl,?_⟩
    generalize upd H1 r (.lst (bs.map V.bl))=H2 at s2 ⊢
    cases hall:bs.all id with
    | false =>
     refine iteF (no H2 (fun ⟨j,SS,h,_,_,z,g,_⟩=>?_) s2)
     injection h with h
     subst h
     injection z with z
     rw [ba.mpr fun e he=>by rw [z] at he; obtain ⟨S,hS,rfl⟩:=List.mem_map.mp he; exact ⟨S,rfl,g S hS⟩] at hall
     cases hall
    | true =>
     refine iteT ?_
     obtain ⟨SS,rfl,g⟩:=all_sh (ba.mp hall)
     obtain ⟨as,uss,rfl,x⟩:=shs_of7 (DTs.same rs s2)
     rw [List.length_map] at fl
     refine ⟨_,rfl,q,as,uss,SS,rfl,s2 _ _ hq,x,⟨by omega,fun S hS=>gsd_few ib.1 ib.2 (g S hS)⟩,fun b H3 hb s3=>k b H3 ?_ (s2.trans s3)⟩
     rw [hb]
     constructor
     ·intro z; exact ⟨i,SS,rfl,ib.1,ib.2,rfl,g,z⟩
     ·rintro ⟨j,TT,_,_,_,z,_,c⟩
      injection z with z
      rw [shDs_inj z]; exact c
   | _=>exact iteT (no H (fun ⟨_,_,_,_,_,z,_⟩=>by cases z) (Same.refl H))
theorem sc_paper_holds:FnScope ["word", "paper"] ["word", "paper"] (defScope (top 61)):=⟨rfl,rfl,rfl,by decide +kernel,rfl,by decide +kernel,by decide +kernel⟩
theorem ok_ph7 {f:Addr} {fd:FuncData} (F:Fun K "paper_holds" "paper_holds" (top 61) f fd) (T:TPh7 P w K mg base) : FnOk P w K mg base CX0 9 f fd ["word", "paper"] (spPaper g67 R67):=by
 refine F.ok sc_paper_holds (fun vs H Q E h=>?_) (fun cdv A outer s H vs Q E hr h=>?_)
 ·obtain ⟨v,P,x,ds,rfl,_⟩:=h
  rfl
 ·obtain ⟨v,P,x,ds,rfl,hd,ip,⟨n,a,e,fa⟩,k⟩:=h
  refine ⟨_,(pss_cons (ps_if (pt_cmpR op_eq (pv 0) pe_str (nomark _)) (pss_one (ps_ret (pe_callF T.f_row_holds (hr.mono (by first | decide | omega)) rfl (pa_cons (pe_ix (ix_tupK (K:=K) rfl) (pv 1) pe_int (fun _ _=>rfl)) (pa_cons (pe_ix (ix_tupK (K:=K) rfl) (pv 1) pe_int (fun _ _=>rfl)) pa_nil))))) pss_nil)
   (pss_cons (ps_if (pt_cmpR op_eq (pv 0) pe_str (nomark _)) (pss_one (ps_ret (pe_callF T.f_least_holds (hr.mono (by first | decide | omega)) rfl (pa_cons (pe_ix (ix_tupK (K:=K) rfl) (pv 1) pe_int (fun _ _=>rfl)) (pa_cons (pe_ix (ix_tupK (K:=K) rfl) (pv 1) pe_int (fun _ _=>rfl)) pa_nil))))) pss_nil)
   (pss_cons (ps_if (pt_cmpR op_eq (pv 0) pe_str (nomark _)) (pss_one (ps_ret (pe_callF T.f_walk_holds (hr.mono (by first | decide | omega)) rfl (@pa_cons _ _ _ _ _ (pe_ix (ix_tupK (K:=K) rfl) (pv 1) pe_int (fun _ _=>rfl)) (@pa_cons _ _ _ _ _ (pe_ix (ix_tupK (K:=K) rfl) (pv 1) pe_int (fun _ _=>rfl)) (@pa_cons _ _ _ _ _ (pe_ix (ix_tupK (K:=K) rfl) (pv 1) pe_int (fun _ _=>rfl)) (@pa_cons _ _ _ _ _ (pe_ix (ix_tupK (K:=K) rfl) (pv 1) pe_int (fun _ _=>rfl)) pa_nil st_sub) st_sub) st_sub) st_sub)))) pss_nil)
   (pss_cons (ps_if (pt_cmpR op_eq (pv 0) pe_str (nomark _)) (pss_one (ps_ret (pe_callF T.f_half_holds (hr.mono (by first | decide | omega)) rfl (@pa_cons _ _ _ _ _ (pe_ix (ix_tupK (K:=K) rfl) (pv 1) pe_int (fun _ _=>rfl)) (@pa_cons _ _ _ _ _ (pe_ix (ix_tupK (K:=K) rfl) (pv 1) pe_int (fun _ _=>rfl)) (@pa_cons _ _ _ _ _ (pe_ix (ix_tupK (K:=K) rfl) (pv 1) pe_int (fun _ _=>rfl)) pa_nil st_sub) st_sub) st_sub)))) pss_nil)
   (pss_cons (ps_if (pt_cmpR op_eq (pv 0) pe_str (nomark _)) (pss_one (ps_ret (pe_callF T.f_chain_holds (hr.mono (by first | decide | omega)) rfl (pa_cons (pe_ix (ix_tupK (K:=K) rfl) (pv 1) pe_int (fun _ _=>rfl)) (pa_cons (pe_ix (ix_tupK (K:=K) rfl) (pv 1) pe_int (fun _ _=>rfl)) pa_nil))))) pss_nil)
   (pss_one (ps_ret (pe_callF T.f_counts_hold (hr.mono (by first | decide | omega)) rfl (pa_cons (pe_ix (ix_tupK (K:=K) rfl) (pv 1) pe_int (fun _ _=>rfl)) (pa_cons (pe_ix (ix_tupK (K:=K) rfl) (pv 1) pe_int (fun _ _=>rfl)) pa_nil)))))))))),?_⟩
  injection e with e
  injection e with e1 e2
  injection e1 with e1
  subst e1 e2
  cases hd with
  | tup hq pq r =>
   cases r with
   | cons r0 r =>
    cases r with
    | cons rn r =>
     cases r with
     | cons ra r =>
      cases r
      cases r0
      refine ⟨_,rfl,rfl,_,rfl,iteE (decide_eq_false fun z=>by injection z with z; exact absurd z (by decide)) ?_⟩
      refine ⟨_,rfl,rfl,_,rfl,iteE (decide_eq_false fun z=>by injection z with z; exact absurd z (by decide)) ?_⟩
      refine ⟨_,rfl,rfl,_,rfl,iteE (decide_eq_false fun z=>by injection z with z; exact absurd z (by decide)) ?_⟩
      refine ⟨_,rfl,rfl,_,rfl,iteE (decide_eq_false fun z=>by injection z with z; exact absurd z (by decide)) ?_⟩
      refine ⟨_,rfl,rfl,_,rfl,iteP (decide_eq_true rfl) ?_⟩
      refine ⟨_,rfl,_,_,_,_,rfl,rfl,SqT.of hq,rfl,_,rfl,_,_,_,_,rfl,rfl,SqT.of hq,rfl,_,_,P,n,a,rfl,rn,ra,fa,fun c H1 hc s1=>?_⟩
      have:=k H1 s1
      have gd:g67 (.tuple [.str "chain", n,a])=c:=by
       unfold g67
       rw [Bool.eq_iff_iff,@decide_eq_true_eq _ (Classical.propDecidable _)]
       exact hc.symm
      rw [gd] at this
      exact this
end
end Sw
namespace Sw
open PySem L2
def goneM (A B:List (List Int)) : List (List Int):=A.filter fun L=>!decide (L∈B)
theorem mem_gone {A B:List (List Int)} {L:List Int} : L∈goneM A B↔L∈A∧L∉B:=by
 unfold goneM
 rw [List.mem_filter]
 simp
theorem len_splitJ {α : Type} (p : α→Bool) : ∀ l:List α,(l.filter p).length+(l.filter fun x=>!p x).length=l.length
 | []=>rfl
 | a :: l=>by
  have:=len_splitJ p l
  cases h:p a with
  | true=>rw [List.filter_cons_of_pos h,List.filter_cons_of_neg (by rw [h]; decide),List.length_cons,List.length_cons]; omega
  | false=>rw [List.filter_cons_of_neg (by rw [h]; decide),List.filter_cons_of_pos (by rw [h]; rfl),List.length_cons,List.length_cons]; omega
theorem cnt_gone {A B:List (List Int)} (hA:A.Nodup) (hB:B.Nodup) : A.length+(goneM B A).length=B.length+(goneM A B).length:=by
 have a:=len_splitJ (fun L=>decide (L∈B)) A
 have b:=len_splitJ (fun L=>decide (L∈A)) B
 have p:(A.filter fun L=>decide (L∈B)).Perm (B.filter fun L=>decide (L∈A)):=by
  refine (List.perm_ext_iff_of_nodup (hA.filter _) (hB.filter _)).mpr fun L=>?_
  rw [List.mem_filter,List.mem_filter]
  simp
  exact and_comm
 have:=p.length_eq
 unfold goneM
 omega
def JoL (A B:List (List Int)) : Prop:=∃ x y z,goneM A B=[x,y]∧goneM B A=[z]∧z.Perm (x++y)
section
variable {n:Int} {A B:List (List Int)}
theorem jo_iff (gA:Gsd n A) (gB:Gsd n B) : (B.length+1=A.length∧∀ L∈A,∃ M∈B,∀ x∈L,x∈M)↔JoL A B:=by
 have ndA:=flat_nodup gA.cv
 have ndB:=flat_nodup gB.cv
 have fA:A.flatten.Nodup:=gA.cv.2.nodup_iff.mpr (ivl_nodup3 n)
 have fB:B.flatten.Nodup:=gB.cv.2.nodup_iff.mpr (ivl_nodup3 n)
 have hc:=cnt_gone ndA ndB
 have bdB : ∀ b∈B,∀ x∈b,∃ a∈A,x∈a:=fun b hb x hx=>by
  have xb:=ivl_mem3.mp (gB.cv.2.mem_iff.mp (List.mem_flatten.mpr ⟨b,hb,hx⟩))
  obtain ⟨a,ha,h⟩:=List.mem_flatten.mp (gA.cv.all xb.1 xb.2)
  exact ⟨a,ha,h⟩
 constructor
 ·rintro ⟨hl,wi⟩
  have ins : ∀ {a b:List Int} {x:Int},a∈A→b∈B→x∈a→x∈b→∀ y∈a,y∈b:=fun ha hb hx hxb y hy=>by
   obtain ⟨M,hM,s⟩:=wi _ ha
   have:=flat_uniq fB hM hb (s _ hx) hxb
   rw [← this]; exact s _ hy
  have two : ∀ b∈goneM B A,∃ a a',a∈goneM A B∧a'∈goneM A B∧a≠a'∧(∀ y∈a,y∈b)∧∀ y∈a',y∈b:=fun b hb'=>by
   obtain ⟨hb,hnA⟩:=mem_gone.mp hb'
   have one : ∀ x∈b,∃ a,a∈goneM A B∧x∈a∧∀ y∈a,y∈b:=fun x hx=>by
    obtain ⟨a,ha,hxa⟩:=bdB b hb x hx
    refine ⟨a,mem_gone.mpr ⟨ha,fun z=>hnA ?_⟩,hxa,ins ha hb hxa hx⟩
    rw [← flat_uniq fB z hb hxa hx]; exact ha
   obtain ⟨x0,hx0⟩:=List.exists_mem_of_ne_nil b (gB.cv.1 b hb)
   obtain ⟨a,ga,hxa,sa⟩:=one x0 hx0
   have ha:=(mem_gone.mp ga).1
   have ex : ∃ x1∈b,x1∉a:=Classical.byContradiction fun no=>hnA (by
    have all : ∀ y∈b,y∈a:=fun y hy=>Classical.byContradiction fun h=>no ⟨y,hy,h⟩
    have:=rise_uniq (gA.rise a ha) (gB.rise b hb) fun y=>⟨sa y,all y⟩
    rw [← this]; exact ha)
   obtain ⟨x1,hx1,n1⟩:=ex
   obtain ⟨a',ga',hxa',sa'⟩:=one x1 hx1
   exact ⟨a,a',ga,ga',fun z=>n1 (by rw [z]; exact hxa'),sa,sa'⟩
  have inB : ∀ a∈goneM A B,∃ b,b∈goneM B A∧∀ y∈a,y∈b:=fun a ga=>by
   obtain ⟨ha,nb⟩:=mem_gone.mp ga
   obtain ⟨b,hb,s⟩:=wi a ha
   refine ⟨b,mem_gone.mpr ⟨hb,fun z=>nb ?_⟩,s⟩
   obtain ⟨x,hx⟩:=List.exists_mem_of_ne_nil a (gA.cv.1 a ha)
   rw [flat_uniq fA ha z hx (s x hx)]; exact hb
  have lg:(goneM A B).length=(goneM B A).length+1:=by omega
  -- different new parts have nothing in common
  have dis : ∀ {b b' a:List Int},b∈goneM B A→b'∈goneM B A→a∈goneM A B→(∀ y∈a,y∈b)→(∀ y∈a,y∈b')→b=b':=fun {b b' a} hb hb' ga s s'=>by
   obtain ⟨x,hx⟩:=List.exists_mem_of_ne_nil a (gA.cv.1 a (mem_gone.mp ga).1)
   exact flat_uniq fB (mem_gone.mp hb).1 (mem_gone.mp hb').1 (s x hx) (s' x hx)
  have le1:(goneM B A).length≤1:=by
   apply Classical.byContradiction
   intro big
   obtain ⟨f,hf⟩ : ∃ f:List Int→List Int,∀ b∈goneM B A,f b∈goneM A B∧∀ y∈f b,y∈b:=by
    refine ⟨fun b=>if h:b∈goneM B A then (two b h).choose else [],fun b hb=>?_⟩
    dsimp only
    rw [dif_pos hb]
    obtain ⟨a',h1,h2,h3,h4,h5⟩:=(two b hb).choose_spec
    exact ⟨h1,h4⟩
   have other : ∀ b∈goneM B A,∃ a',a'∈goneM A B∧(∀ y∈a',y∈b)∧a'≠f b:=fun b hb=>by
    obtain ⟨a,a',g1,g2,ne,s1,s2⟩:=two b hb
    by_cases h:a'=f b
    ·exact ⟨a,g1,s1,fun z=>ne (by rw [z,h])⟩
    ·exact ⟨a',g2,s2,h⟩
   have ndN:(goneM B A).Nodup:=ndB.filter _
   match hN:goneM B A with
   | []=>rw [hN] at big; exact big (by decide)
   | [_]=>rw [hN] at big; exact big (Nat.le_refl _)
   | b1 :: b2 :: r =>
    have h1:b1∈goneM B A:=by rw [hN]; exact List.mem_cons_self
    have h2:b2∈goneM B A:=by rw [hN]; exact List.mem_cons_of_mem _ List.mem_cons_self
    have ne12:b1≠b2:=fun z=>by
     rw [hN] at ndN
     exact (List.nodup_cons.mp ndN).1 (by rw [z]; exact List.mem_cons_self)
    obtain ⟨c1,g1,s1,n1⟩:=other b1 h1
    obtain ⟨c2,g2,s2,n2⟩:=other b2 h2
    have nin : ∀ {c b:List Int},b∈goneM B A→c∈goneM A B→(∀ y∈c,y∈b)→c≠f b→c∉(goneM B A).map f:=fun hb gc sc nc z=>by
     obtain ⟨b',hb',e⟩:=List.mem_map.mp z
     have:=dis hb' hb gc (by rw [← e]; exact (hf b' hb').2) sc
     exact nc (by rw [← e,this])
    have nd:((goneM B A).map f++[c1,c2]).Nodup:=by
     refine List.nodup_append.mpr ⟨?_,?_,?_⟩
     ·rw [List.Nodup,List.pairwise_map]
      refine List.Pairwise.imp_of_mem (fun {a b} ha hb h e=>h ?_) ndN
      exact dis ha hb (hf a ha).1 (hf a ha).2 (by rw [e]; exact (hf b hb).2)
     ·refine List.nodup_cons.mpr ⟨fun z=>?_,List.nodup_cons.mpr ⟨by simp,List.nodup_nil⟩⟩
      have:=List.mem_singleton.mp z
      exact ne12 (dis h1 h2 g1 s1 (by rw [this]; exact s2))
     ·intro a ha b hb e
      subst e
      rcases List.mem_cons.mp hb with rfl | hb
      ·exact nin h1 g1 s1 n1 ha
      ·rw [List.mem_singleton.mp hb] at ha
       exact nin h2 g2 s2 n2 ha
    have:=sub_leA nd (bs:=goneM A B) fun c hc=>by
     rcases List.mem_append.mp hc with hc | hc
     ·obtain ⟨b,hb,rfl⟩:=List.mem_map.mp hc
      exact (hf b hb).1
     ·rcases List.mem_cons.mp hc with rfl | hc
      ·exact g1
      ·rw [List.mem_singleton.mp hc]; exact g2
    rw [List.length_append,List.length_map] at this
    have : [c1,c2].length=2:=rfl
    omega
  match hN:goneM B A,hG:goneM A B with
  | [],[]=>rw [hN,hG] at lg; cases lg
  | [],a :: r =>
   obtain ⟨b,hb,_⟩:=inB a (by rw [hG]; exact List.mem_cons_self)
   rw [hN] at hb; cases hb
  | _ :: _ :: _,_=>rw [hN] at le1; exact absurd le1 (by simp)
  | [z],[]=>rw [hN,hG] at lg; cases lg
  | [z],[x]=>rw [hN,hG] at lg; cases lg
  | [z],x :: y :: w :: r=>rw [hN,hG] at lg; simp at lg
  | [z],[x,y] =>
   refine ⟨x,y,z,hG,hN,?_⟩
   have hx:x∈goneM A B:=by rw [hG]; exact List.mem_cons_self
   have hy:y∈goneM A B:=by rw [hG]; exact List.mem_cons_of_mem _ List.mem_cons_self
   have hz:z∈goneM B A:=by rw [hN]; exact List.mem_cons_self
   have sub : ∀ a∈goneM A B,∀ t∈a,t∈z:=fun a ga=>by
    obtain ⟨b,hb,s⟩:=inB a ga
    rw [hN] at hb
    rw [← List.mem_singleton.mp hb]; exact s
   have ndG:(goneM A B).Nodup:=ndA.filter _
   have xy:x≠y:=fun e=>by
    rw [hG] at ndG
    exact (List.nodup_cons.mp ndG).1 (by rw [e]; exact List.mem_cons_self)
   have xA:=(mem_gone.mp hx).1
   have yA:=(mem_gone.mp hy).1
   have zB:=(mem_gone.mp hz).1
   have nd:(x++y).Nodup:=List.nodup_append.mpr ⟨(gA.rise x xA).imp fun h=>by omega,(gA.rise y yA).imp fun h=>by omega,fun s hs t ht e=>xy (flat_uniq fA xA yA hs (by rw [e]; exact ht))⟩
   refine (List.perm_ext_iff_of_nodup ((gB.rise z zB).imp fun h=>by omega) nd).mpr fun t=>⟨fun ht=>?_,fun ht=>?_⟩
   ·obtain ⟨a,ha,hta⟩:=bdB z zB t ht
    have aB:a∈goneM A B:=mem_gone.mpr ⟨ha,fun q=>(mem_gone.mp hz).2 (by rw [← flat_uniq fB q zB hta ht]; exact ha)⟩
    rw [hG] at aB
    rcases List.mem_cons.mp aB with rfl | aB
    ·exact List.mem_append_left _ hta
    ·rw [List.mem_singleton.mp aB] at hta
     exact List.mem_append_right _ hta
   ·rcases List.mem_append.mp ht with ht | ht
    ·exact sub x hx t ht
    ·exact sub y hy t ht
 ·rintro ⟨x,y,z,hG,hN,pm⟩
  rw [hG,hN] at hc
  have l2 : [x,y].length=2:=rfl
  have l1 : [z].length=1:=rfl
  refine ⟨by omega,fun L hL=>?_⟩
  by_cases h:L∈B
  ·exact ⟨L,h,fun _ q=>q⟩
  ·have g:L∈goneM A B:=mem_gone.mpr ⟨hL,h⟩
   have hz:z∈goneM B A:=by rw [hN]; exact List.mem_cons_self
   refine ⟨z,(mem_gone.mp hz).1,fun t ht=>pm.mem_iff.mpr ?_⟩
   rw [hG] at g
   rcases List.mem_cons.mp g with rfl | g
   ·exact List.mem_append_left _ ht
   ·rw [List.mem_singleton.mp g] at ht
    exact List.mem_append_right _ ht
theorem len_ones : ∀ {S:List (List Int)},(∀ L∈S,L≠[])→S.length=S.flatten.length→∀ L∈S,∃ x,L=[x]
 | [],_,_,L,hL=>by cases hL
 | M :: S,ne,h,L,hL=>by
  have nM:=List.length_pos_iff.mpr (ne M List.mem_cons_self)
  have:=(len_le_flat S fun L hL=>ne L (List.mem_cons_of_mem _ hL)).1
  rw [List.flatten_cons,List.length_append,List.length_cons] at h
  rcases List.mem_cons.mp hL with rfl | hL
  ·match L,nM,h with
   | [x],_,_=>exact ⟨x,rfl⟩
   | _ :: _ :: _,_,h=>rw [List.length_cons,List.length_cons] at h; omega
  ·exact len_ones (fun L hL=>ne L (List.mem_cons_of_mem _ hL)) (by omega) L hL
theorem alone_iff (n0 : 0≤n) {S:List (List Int)} (g:Gsd n S) : S.length=n.toNat↔S=alone n:=by
 have fl:=g.cv.flen n0
 constructor
 ·intro h
  have on:=len_ones g.cv.1 (by omega)
  have e:S=S.flatten.map fun x=>[x]:=by
   clear fl h g
   induction S with
   | nil=>rfl
   | cons L S ih =>
    obtain ⟨x,hx⟩:=on L List.mem_cons_self
    rw [List.flatten_cons,List.map_append,← ih fun M hM=>on M (List.mem_cons_of_mem _ hM),hx]
    rfl
  rw [e,alone]
  congr 1
  have srt:=g.srt
  rw [e,List.pairwise_map] at srt
  have nd:S.flatten.Nodup:=g.cv.2.nodup_iff.mpr (ivl_nodup3 n)
  refine rise_uniq ((srt.and nd).imp fun {a b} ⟨h1,h2⟩=>?_) (ivl_riseS 1 (n+1)) fun x=>g.cv.2.mem_iff
  apply Classical.byContradiction
  intro z
  have:lexB [b] [a]=true:=by
   unfold lexB
   have:b<a:=by omega
   have ne : ¬ b=a:=by omega
   simp [this,ne]
  rw [this] at h1
  cases h1
 ·intro h
  rw [h,alone,List.length_map,ivl_length]
  omega
theorem whole_iff (n1 : 1≤n) {S:List (List Int)} (g:Gsd n S) : S.length=1↔S=[ivl 1 (n+1)]:=by
 constructor
 ·intro h
  match S,h with
  | [L],_ =>
   congr 1
   refine rise_uniq (g.rise L List.mem_cons_self) (ivl_riseS 1 (n+1)) fun x=>?_
   have:=g.cv.2
   rw [List.flatten_cons,List.flatten_nil,List.append_nil] at this
   exact this.mem_iff
 ·intro h
  rw [h]; rfl
end
end Sw
namespace L2
open PySem PySem.Spec PyProof.Rows PySem.SeqAt
section
variable {X:Cx} {K:PySem.W.Frag}
def rNotInL (K:PySem.W.Frag) : R2:=fun x y H Q=>∃ (b p:Addr) (ms:List Int) (xs:List V) (rs:List (List Int)),x=.ref b∧y=.ref p∧H b=some (.lst (ms.map V.int))∧H p=some (.lst xs)∧xs.length=rs.length ∧
 (∀ (i:Nat) (v:V),xs[i]?=some v→∃ (a:Addr) (ns:List Int),v=.ref a∧H a=some (.lst (ns.map V.int))∧rs[i]?=some ns)∧Q (.bl (!decide (ms∈rs))) H
def sameAt (H:Hp) (ms:List Int) : Value→Bool
 | .ref a=>match H a with
  | some (.lst xs)=>decide (xs=ms.map V.int)
  | _=>false
 | _=>false
theorem map_intI : ∀ {a b:List Int},a.map V.int=b.map V.int→a=b
 | [],[],_=>rfl
 | [],_ :: _,h=>by simp at h
 | _ :: _,[],h=>by simp at h
 | x :: a,y :: b,h=>by
  rw [List.map_cons,List.map_cons] at h
  injection h with h1 h2
  injection h1 with h1
  rw [h1,map_intI h2]
theorem eqv_L (ns ms:List Int) : PyData.eqv (.list (ns.map PyData.int)) (.list (ms.map PyData.int))=decide (ns.map V.int=ms.map V.int):=by
 unfold PyData.eqv
 rw [Sw.eqv_ints,Bool.eq_iff_iff,decide_eq_true_iff,decide_eq_true_iff]
 exact ⟨fun h=>by rw [h],map_intI⟩
theorem op_notInL (hK:X.K=K) (hu:X.A.units+64<cLine) : OpR X (compareOp .NotIn) (rNotInL K):=by
 subst hK
 intro pins s σ H x y v u Q I rx ry h
 obtain ⟨b,p,ms,xs,rs,rfl,rfl,hb,hp,hl,ha,q⟩:=h
 cases rx
 cases ry
 obtain ⟨its,r,pl,hz⟩:=I.list (SqL.of hp)
 have hlen:=r.length
 have each : ∀ j (hj:j<its.length),∃ (a:Addr) (ns:List Int),its[j]=.ref a∧H a=some (.lst (ns.map V.int))∧rs[j]?=some ns:=fun j hj=>by
  obtain ⟨a,ns,e1,e2,e3⟩:=ha j xs[j] (List.getElem?_eq_getElem (by omega))
  obtain ⟨w',hw,rw'⟩:=r.get (i:=j) (x:=xs[j]) (List.getElem?_eq_getElem (by omega))
  rw [e1] at rw'
  cases rw'
  refine ⟨a,ns,?_,e2,e3⟩
  rw [List.getElem?_eq_getElem hj] at hw
  exact Option.some.inj hw
 have at_ : ∀ {a:Addr} {ns:List Int},H a=some (.lst (ns.map V.int))→sameAt H ms (.ref a)=decide (ns.map V.int=ms.map V.int):=fun {a ns} e=>by
  show (match H a with | some (.lst xs)=>decide (xs=ms.map V.int) | _=>false)=_
  rw [e]
 refine SeqAt.notIn_listAt (sameAt H ms) pl.isList (fun w hw=>?_) ⟨.bl _,H,I,rfl,?_⟩
 ·obtain ⟨j,hj,rfl⟩:=List.mem_iff_getElem.mp (show w∈its from by simpa using hw)
  obtain ⟨a,ns,e1,e2,e3⟩:=each j hj
  rw [e1]
  have d1:Dat X.K H (fun _=>True) (.ref a) (.list (ns.map PyData.int)):=.lst (SqL.of e2) True.intro (Sw.ints_dat _)
  have d2:Dat X.K H (fun _=>True) (.ref b) (.list (ms.map PyData.int)):=.lst (SqL.of hb) True.intro (Sw.ints_dat _)
  obtain ⟨as,qa⟩:=I.reads d1 rfl
  obtain ⟨bs,qb⟩:=I.reads d2 rfl
  rw [at_ e2,← eqv_L]
  refine eqAt_reads _ _ _ _ _ _ _ _ qa qb ?_ ?_ ?_
  ·unfold PyData.canLay0
   exact Sw.lay_ints ns
  ·unfold PyData.canLay0
   exact Sw.lay_ints ms
  ·have:(PyData.list (ns.map PyData.int)).depth≤1:=by unfold PyData.depth; rw [Sw.depth_ints]; exact Nat.le_refl _
   have:X.A.in1.units≤X.A.units+1:=by show _≤_; first | exact Nat.le_refl _ | exact Nat.le_succ _
   omega
 ·have:its.toArray.any (sameAt H ms)=decide (ms∈rs):=by
   rw [Bool.eq_iff_iff,Array.any_eq_true,decide_eq_true_iff]
   constructor
   ·rintro ⟨j,hj,e⟩
    have hj:j<its.length:=by simpa using hj
    obtain ⟨a,ns,e1,e2,e3⟩:=each j hj
    have e:sameAt H ms its[j]=true:=by simpa using e
    rw [e1,at_ e2] at e
    rw [map_intI (of_decide_eq_true e)] at e3
    exact List.mem_of_getElem? e3
   ·intro hm
    obtain ⟨j,hj,ej⟩:=List.mem_iff_getElem.mp hm
    have hj':j<its.length:=by omega
    refine ⟨j,by simpa using hj',?_⟩
    obtain ⟨a,ns,e1,e2,e3⟩:=each j hj'
    rw [List.getElem?_eq_getElem hj,ej] at e3
    have e3:=Option.some.inj e3
    have:sameAt H ms its[j]=true:=by rw [e1,at_ e2,← e3]; exact decide_eq_true rfl
    simpa using this
  rw [this]
  exact q
end
end L2
namespace Sw
open PySem L2
theorem manyM_flat7 : ∀ (Ls:List (List Int)),manyM Ls=(Ls.flatten.length:Int)
 | []=>rfl
 | L :: r=>by
  have ih:=manyM_flat7 r
  unfold manyM at ih ⊢
  rw [List.map_cons,List.sum_cons,ih,List.flatten_cons,List.length_append]
  omega
theorem Cov.many7 {n:Int} {Ls:List (List Int)} (h:Cov n Ls) (n0 : 0≤n) : manyM Ls=n:=by
 rw [manyM_flat7,h.flen n0]; omega
theorem withB_iff7 {Ls Ms:List (List Int)} : withB Ls Ms=true↔∀ L∈Ls,∃ M∈Ms,∀ x∈L,x∈M:=by
 unfold withB
 rw [List.all_eq_true]
 refine ⟨fun h L hL=>?_,fun h L hL=>?_⟩
 ·obtain ⟨M,hM,e⟩:=List.any_eq_true.mp (h L hL)
  unfold insB at e
  rw [List.all_eq_true] at e
  exact ⟨M,hM,fun x hx=>of_decide_eq_true (e x hx)⟩
 ·obtain ⟨M,hM,s⟩:=h L hL
  refine List.any_eq_true.mpr ⟨M,hM,?_⟩
  unfold insB
  rw [List.all_eq_true]
  exact fun x hx=>decide_eq_true (s x hx)
theorem jb_iff7 {n:Int} {S S':List (List Int)} (g:Gsd n S) (g':Gsd n S') : jbG S S'=true↔JoL S S':=by
 rw [← jo_iff g g']
 unfold jbG
 rw [Bool.and_eq_true,withB_iff7,decide_eq_true_eq]
 exact ⟨fun ⟨h1,h2⟩=>⟨by omega,h2⟩,fun ⟨h1,h2⟩=>⟨by omega,h2⟩⟩
theorem chG_iff {n:Int} {SS:List (List (List Int))} (n1 : 1≤n) (g : ∀ S∈SS,Gsd n S) : ChG SS↔SS≠[]∧SS.getD 0 []=alone n∧SS.getD (SS.length - 1) []=[ivl 1 (n+1)]∧∀ t,t+1<SS.length→JoL (SS.getD t []) (SS.getD (t+1) []):=by
 have at_ : ∀ t,t<SS.length→Gsd n (SS.getD t []):=fun t ht=>by
  rw [List.getD_eq_getElem?_getD,List.getElem?_eq_getElem ht]
  exact g _ (List.getElem_mem ht)
 have mn : ∀ S∈SS,manyM S=n:=fun S hS=>(g S hS).cv.many7 (by omega)
 constructor
 ·intro z
  have lp:=List.length_pos_iff.mpr z.ne
  have g0:=at_ 0 lp
  refine ⟨z.ne,?_,?_,fun t ht=>(jb_iff7 (at_ t (by omega)) (at_ (t+1) ht)).mp (z.step t ht)⟩
  ·have:=z.first
   rw [g0.cv.many7 (by omega)] at this
   exact (alone_iff (by omega) g0).mp (by omega)
  ·exact (whole_iff n1 (at_ _ (by omega))).mp z.last
 ·rintro ⟨ne,h0,hl,st⟩
  have lp:=List.length_pos_iff.mpr ne
  have g0:=at_ 0 lp
  refine ⟨ne,fun S hS=>?_,?_,?_,fun t ht=>(jb_iff7 (at_ t (by omega)) (at_ (t+1) ht)).mpr (st t ht)⟩
  ·rw [mn S hS,g0.cv.many7 (by omega)]
  ·rw [g0.cv.many7 (by omega)]
   have:=(alone_iff (by omega) g0).mpr h0
   omega
  ·exact (whole_iff n1 (at_ _ (by omega))).mpr hl
theorem eqNil7 {K:PySem.W.Frag} {H:Hp} {P:Addr→Prop} {v:V} {m:Addr} {ds:List PyData} {Q:VK} (h1:DT H P v (.list ds)) (n:Nice 12 (.list ds)) (h2:H m=some (.lst [])) (q:Q (.bl (decide (ds=[]))) H) : rEqD K v (.ref m) H Q:=by
 refine ⟨fun _=>True,.list ds,.list [],(h1.imp fun _ _=>True.intro).dat,.lst (SqL.of h2) True.intro .nil,n.lay,rfl,by have:=n.dp; omega,?_⟩
 have:PyData.eqv (.list ds) (.list [])=decide (ds=[]):=by
  unfold PyData.eqv
  cases ds with
  | nil=>rfl
  | cons d ds=>unfold PyData.eqvAll; exact (decide_eq_false (by intro z; cases z)).symm
 rw [this]
 exact q
theorem neLq7 {K:PySem.W.Frag} {H:Hp} {l m:Addr} {vs ws:List V} {r q:List (List Int)} {Q:VK} (h1:H l=some (.lst vs)) (x1:Lsts H vs r) (h2:H m=some (.lst ws)) (x2:Lsts H ws q) (hq:Q (.bl (!decide (r=q))) H) : rNeD K (.ref l) (.ref m) H Q:=by
 refine ⟨fun _=>True,.list (r.map fun p=>PyData.list (p.map PyData.int)),.list (q.map fun p=>PyData.list (p.map PyData.int)),.lst (SqL.of h1) True.intro x1.dat,.lst (SqL.of h2) True.intro x2.dat,?_,?_,?_,?_⟩
 ·unfold PyData.canLay0; exact lay_ll r
 ·unfold PyData.canLay0; exact lay_ll q
 ·unfold PyData.depth; have:=depth_ll r; omega
 ·unfold PyData.eqv; rw [eqv_ll]; exact hq
def spJoL:Sp:=fun vs H Q _=>∃ (l m:Addr) (ws us:List V) (A B:List (List Int)),vs=[.ref l,.ref m]∧H l=some (.lst ws)∧Lsts H ws A∧H m=some (.lst us)∧Lsts H us B∧A.length≤60∧B.length≤60∧(∀ L∈A,L.length≤20)∧(∀ L∈B,L.Pairwise (· < ·))∧∀ b H',(b=true↔JoL A B)→Same H H'→Q (.bl b) H'
def spDue7:Sp:=fun vs H Q _=>∃ (v1 v2:V) (P:Addr→Prop) (n a:PyData),vs=[v1,v2]∧DT H P v1 n∧DT H P v2 a∧FewC a∧Nice 12 a∧(∀ ds,a=.list ds→∀ e∈ds,Nice 10 e)∧∀ r H',(r=true↔ChainH n a)→Same H H'→Q (.bl r) H'
structure TJo7 (mg:Str→Option Value) (K:PySem.W.Frag) : Prop extends T1 mg K where
 b_sorted:mg "sorted" = none
structure TDue7 (P:Program) (w:World) (K:PySem.W.Frag) (mg:Str→Option Value) (base:Heap) : Prop extends T1 mg K where
 f__law_is_size:FnAt P w K mg base "_law_is_size" 2 ["_law_thing"] spSz6
 f__law_is_sharing:FnAt P w K mg base "_law_is_sharing" 3 ["_law_n", "_law_thing"] spIshD
 f__law_joins:FnAt P w K mg base "_law_joins" 1 ["_law_ahead", "_law_sharing"] spJoL
section
variable {P:Program} {w:World} {K:PySem.W.Frag} {mg:Str→Option Value} {base:Heap}
theorem sc__law_joins:FnScope ["_law_ahead", "_law_sharing", "_law_gone", "_law_new"] ["_law_ahead", "_law_sharing"] (defScope (top 75)):=⟨rfl,rfl,rfl,by decide +kernel,rfl,by decide +kernel,by decide +kernel⟩
theorem ok_jol {f:Addr} {fd:FuncData} (F:Fun K "_law_joins" "_law_joins" (top 75) f fd) (T:TJo7 mg K) : FnOk P w K mg base CX0 1 f fd ["_law_ahead", "_law_sharing"] spJoL:=by
 refine F.ok sc__law_joins (fun vs H Q E h=>?_) (fun cdv A outer s H vs Q E hr h=>?_)
 ·obtain ⟨l,m,ws,us,A,B,rfl,_⟩:=h
  rfl
 ·obtain ⟨l,m,ws,us,AA,B,rfl,hl,xl,hm,xm,lA,lB,lAs,rB,k⟩:=h
  refine ⟨_,(pss_cons (ps_comp (i:=2) sc__law_joins.nd rfl rfl (N:=(["_law_part", "_law_sharing"] : List Str)) (ix:=([none,some 1] : List (Option Nat))) (comp_ok rfl rfl) rfl (pi_listK (K:=K) rfl (pv 0)) (fun _ _ _ _=>(pg_name (i:=0) (show List.Nodup (["_law_part", "_law_sharing"] : List Str) from by decide +kernel) rfl (Or.inl rfl))) (fun _ _ _ _=>(pif_one (pt_cmpR (op_notInL (K:=K) rfl hr.units) (pv 0) (pv 1) rfl))) (fun _ _ _ _=>(pv 0)))
   (pss_cons (ps_comp (i:=3) sc__law_joins.nd rfl rfl (N:=(["_law_part", "_law_ahead"] : List Str)) (ix:=([none,some 0] : List (Option Nat))) (comp_ok rfl rfl) rfl (pi_listK (K:=K) rfl (pv 1)) (fun _ _ _ _=>(pg_name (i:=0) (show List.Nodup (["_law_part", "_law_ahead"] : List Str) from by decide +kernel) rfl (Or.inl rfl))) (fun _ _ _ _=>(pif_one (pt_cmpR (op_notInL (K:=K) rfl hr.units) (pv 0) (pv 1) rfl))) (fun _ _ _ _=>(pv 0)))
   (pss_one (ps_ret (pe_and (pe_cmpR op_eq (pe_callB (call_lenK (K:=K) rfl) rfl T.b_len (by decide +kernel) (pa_cons (pv 2) pa_nil)) pe_int (nomark _)) (pe_and (pe_cmpR op_eq (pe_callB (call_lenK (K:=K) rfl) rfl T.b_len (by decide +kernel) (pa_cons (pv 3) pa_nil)) pe_int (nomark _)) (pe_one (pe_cmpR (op_eqD hr.units) (pe_callB (call_sorted (K:=K) rfl) rfl T.b_sorted (by decide +kernel) (pa_cons (pe_op op_cat (pe_ix (ix_listK (K:=K) rfl) (pv 2) pe_int (fun _ _=>rfl)) (pe_ix (ix_listK (K:=K) rfl) (pv 2) pe_int (fun _ _=>rfl))) pa_nil)) (pe_ix (ix_listK (K:=K) rfl) (pv 3) pe_int (fun _ _=>rfl)) (nomark _))))))))),?_⟩
  have big:(10000000:Nat)≤sizeLine:=by decide
  have wl:=xl.length
  have ul:=xm.length
  have no : ∀ H',¬ JoL AA B→Same H H'→Q (.bl false) H':=fun H' z s=>k false H' ⟨fun q=>(by cases q),fun q=>absurd q z⟩ s
  have snocF : ∀ {A B:List (List Int)} {i:Nat} {L:List Int},A[i]?=some L→((A.take (i+1)).filter fun L=>!decide (L∈B))=((A.take i).filter fun L=>!decide (L∈B))++[L].filter fun L=>!decide (L∈B):=fun h=>by rw [take_snoc h,List.filter_append]
  refine ⟨_,rfl,l,rfl,⟨_,SqL.of hl⟩,compLif (K:=K) (a:=l) (xs:=ws) (k:=0) (fun i zs σ' H'=>(∃ v,σ'=[v,some (.ref m)])∧H'=H∧zs.length≤i∧Lsts H' zs ((AA.take i).filter fun L=>!decide (L∈B))) (by omega) ⟨⟨none,rfl⟩,rfl,Nat.zero_le _,.nil⟩ (fun i zs σ' H' _ q=>by rw [q.2.1]; exact SqL.of hl) (fun i zs σ' H' q=>q.2.2.1) ?_ ?_⟩
  ·rintro i zs σ' H1 x R hx ⟨⟨v,rfl⟩,rfl,zl,xz⟩ done
   obtain ⟨c,L,rfl,hc,hL⟩:=xl.get hx
   refine ⟨_,rfl,_,rfl,c,m,L,us,B,rfl,rfl,hc,hm,ul,fun i v hv=>xm.get hv,_,rfl,ite2 (fun cc=>?_) (fun cc=>?_)⟩
   ·refine ⟨_,rfl,done _ _ _ ⟨⟨_,rfl⟩,rfl,by rw [List.length_append]; show _+1≤_; omega,?_⟩⟩
    rw [snocF hL,List.filter_cons_of_pos (p:=fun L=>!decide (L∈B)) cc,List.filter_nil]
    exact xz.snoc hc
   ·refine done _ _ _ ⟨⟨_,rfl⟩,rfl,by omega,?_⟩
    rw [snocF hL,List.filter_cons_of_neg (p:=fun L=>!decide (L∈B)) cc,List.filter_nil,List.append_nil]
    exact xz
  rintro gs σ' H1 lg ⟨_,rfl,gl,xg⟩ flg
  rw [List.take_of_length_le (by omega)] at xg
  have s1:Same H1 (upd H1 lg (.lst gs)):=Same.new flg
  have hg:upd H1 lg (.lst gs) lg=some (.lst gs):=upd_same
  have xg1:=xg.keep s1
  generalize upd H1 lg (.lst gs)=H2 at s1 hg xg1 ⊢
  have hl2:=s1 _ _ hl
  have hm2:=s1 _ _ hm
  have xl2:=xl.keep s1
  have xm2:=xm.keep s1
  refine ⟨_,rfl,m,rfl,⟨_,SqL.of hm2⟩,compLif (K:=K) (a:=m) (xs:=us) (k:=0) (fun i zs σ' H'=>(∃ v,σ'=[v,some (.ref l)])∧H'=H2∧zs.length≤i∧Lsts H' zs ((B.take i).filter fun L=>!decide (L∈AA))) (by omega) ⟨⟨none,rfl⟩,rfl,Nat.zero_le _,.nil⟩ (fun i zs σ' H' _ q=>by rw [q.2.1]; exact SqL.of hm2) (fun i zs σ' H' q=>q.2.2.1) ?_ ?_⟩
  ·rintro i zs σ' H3 x R hx ⟨⟨v,rfl⟩,rfl,zl,xz⟩ done
   obtain ⟨c,L,rfl,hc,hL⟩:=xm2.get hx
   refine ⟨_,rfl,_,rfl,c,l,L,ws,AA,rfl,rfl,hc,hl2,wl,fun i v hv=>xl2.get hv,_,rfl,ite2 (fun cc=>?_) (fun cc=>?_)⟩
   ·refine ⟨_,rfl,done _ _ _ ⟨⟨_,rfl⟩,rfl,by rw [List.length_append]; show _+1≤_; omega,?_⟩⟩
    rw [snocF hL,List.filter_cons_of_pos (p:=fun L=>!decide (L∈AA)) cc,List.filter_nil]
    exact xz.snoc hc
   ·refine done _ _ _ ⟨⟨_,rfl⟩,rfl,by omega,?_⟩
    rw [snocF hL,List.filter_cons_of_neg (p:=fun L=>!decide (L∈AA)) cc,List.filter_nil,List.append_nil]
    exact xz
  rintro hs σ' H3 lh ⟨_,rfl,hl',xh⟩ flh
  rw [List.take_of_length_le (by omega)] at xh
  have s2:Same H3 (upd H3 lh (.lst hs)):=Same.new flh
  have hh:upd H3 lh (.lst hs) lh=some (.lst hs):=upd_same
  have xh1:=xh.keep s2
  generalize upd H3 lh (.lst hs)=H4 at s2 hh xh1 ⊢
  have s12:=s1.trans s2
  have hg4:=s2 _ _ hg
  have xg4:=xg1.keep s2
  have e1:(AA.filter fun L=>!decide (L∈B))=goneM AA B:=rfl
  have e2:(B.filter fun L=>!decide (L∈AA))=goneM B AA:=rfl
  rw [e1] at xg4
  rw [e2] at xh1
  have gsl:=xg4.length
  have hsl:=xh1.length
  refine ⟨_,rfl,lg,_,rfl,.inl (SqL.of hg4),rfl,?_⟩
  by_cases c1:(goneM AA B).length=2
  ·have ev:V.int ((gs.length:Nat) : Int)=V.int 2:=congrArg V.int (by omega)
   refine ⟨true,by rw [decide_eq_true ev],iteT ?_⟩
   refine ⟨_,rfl,lh,_,rfl,.inl (SqL.of hh),rfl,?_⟩
   by_cases c2:(goneM B AA).length=1
   ·have ev2:V.int ((hs.length:Nat) : Int)=V.int 1:=congrArg V.int (by omega)
    refine ⟨true,by rw [decide_eq_true ev2],iteT ?_⟩
    obtain ⟨x,y,hxy⟩ : ∃ x y,goneM AA B=[x,y]:=by
     match goneM AA B,c1 with
     | [x,y],_=>exact ⟨x,y,rfl⟩
    obtain ⟨z,hz⟩ : ∃ z,goneM B AA=[z]:=by
     match goneM B AA,c2 with
     | [z],_=>exact ⟨z,rfl⟩
    rw [hxy] at xg4
    rw [hz] at xh1
    cases xg4 with
    | @cons va a _ _ ha xr =>
     cases xr with
     | @cons vb b _ _ hb xr2 =>
      cases xr2
      cases xh1 with
      | @cons vc c _ _ hc xr3 =>
       cases xr3
       have xin:x∈AA:=(mem_gone.mp (by rw [hxy]; exact List.mem_cons_self)).1
       have yin:y∈AA:=(mem_gone.mp (by rw [hxy]; exact List.mem_cons_of_mem _ List.mem_cons_self)).1
       have zin:z∈B:=(mem_gone.mp (by rw [hz]; exact List.mem_cons_self)).1
       have lx:=lAs x xin
       have ly:=lAs y yin
       refine ⟨_,rfl,lg,_,0,_,rfl,rfl,SqL.of hg4,rfl,_,rfl,lg,_,1,_,rfl,rfl,SqL.of hg4,rfl,_,_,_,_,rfl,rfl,ha,hb,by rw [List.length_map,List.length_map]; omega,fun q2 f2=>?_⟩
       have ee:x.map V.int++y.map V.int=(x++y).map V.int:=by rw [List.map_append]
       rw [ee]
       have z2:Same H4 (upd H4 q2 (.lst ((x++y).map V.int))):=Same.new f2
       have h2:upd H4 q2 (.lst ((x++y).map V.int)) q2=some (.lst ((x++y).map V.int)):=upd_same
       generalize upd H4 q2 (.lst ((x++y).map V.int))=H5 at z2 h2 ⊢
       have ll:(x++y).length=x.length+y.length:=List.length_append
       refine ⟨q2,x++y,rfl,SqL.of h2,by omega,fun q3 ns f3 pm pw=>?_⟩
       have z3:Same H5 (upd H5 q3 (.lst (ns.map V.int))):=Same.new f3
       have h3:upd H5 q3 (.lst (ns.map V.int)) q3=some (.lst (ns.map V.int)):=upd_same
       generalize upd H5 q3 (.lst (ns.map V.int))=H6 at z3 h3 ⊢
       have y3:=z2.trans z3
       refine ⟨_,rfl,lh,_,0,_,rfl,rfl,SqL.of (y3 _ _ hh),rfl,eqLL6 h3 (y3 _ _ hc) (k _ H6 ?_ (s12.trans y3))⟩
       rw [decide_eq_true_eq]
       constructor
       ·intro e
        subst e
        exact ⟨x,y,ns,hxy,hz,pm⟩
       ·rintro ⟨x',y',z',e1,e2,p⟩
        rw [hxy] at e1
        rw [hz] at e2
        injection e1 with e1 e3
        injection e3 with e3 _
        injection e2 with e2 _
        subst e1 e3 e2
        have pz:ns.Perm z:=pm.trans p.symm
        have rz:=rB z zin
        have nd:ns.Nodup:=pz.nodup_iff.mpr (rz.imp fun h=>by omega)
        exact rise_uniq ((pw.and nd).imp fun ⟨a,b⟩=>by omega) rz fun t=>pz.mem_iff
   ·have ev2 : ¬ V.int ((hs.length:Nat) : Int)=V.int 1:=fun z=>c2 (by have:=V.int.inj z; omega)
    refine ⟨false,by rw [decide_eq_false ev2],iteF ?_⟩
    exact no H4 (fun ⟨x,y,z,_,e,_⟩=>c2 (by rw [e]; rfl)) s12
  ·have ev : ¬ V.int ((gs.length:Nat) : Int)=V.int 2:=fun z=>c1 (by have:=V.int.inj z; omega)
   refine ⟨false,by rw [decide_eq_false ev],iteF ?_⟩
   exact no H4 (fun ⟨x,y,z,e,_,_⟩=>c1 (by rw [e]; rfl)) s12
theorem sc__law_due:FnScope ["_law_n", "_law_some"] ["_law_n", "_law_some"] (defScope (top 76)):=⟨rfl,rfl,rfl,by decide +kernel,rfl,by decide +kernel,by decide +kernel⟩
theorem ok_due7 {f:Addr} {fd:FuncData} (F:Fun K "_law_due" "_law_due" (top 76) f fd) (T:TDue7 P w K mg base) : FnOk P w K mg base CX0 4 f fd ["_law_n", "_law_some"] spDue7:=by
 refine F.ok sc__law_due (fun vs H Q E h=>?_) (fun cdv A outer s H vs Q E hr h=>?_)
 ·obtain ⟨v1,v2,P,n,a,rfl,_⟩:=h
  rfl
 ·obtain ⟨v1,v2,P,n,a,rfl,dn,da,fa,na,nas,k⟩:=h
  refine ⟨_,(pss_cons (ps_if (PW.pt (pw_or (pt_not (pt_val (pe_callF T.f__law_is_size (hr.mono (by first | decide | omega)) rfl (pa_cons (pv 0) pa_nil)))) (pw_or (pt_not (pt_val (pe_callB (call_isiK (K:=K) rfl) rfl T.b_isinstance (by decide +kernel) (pa_cons (pv 1) (pa_cons (pe_bltn (v:=.ty "list") rfl T.b_list (by decide +kernel) rfl) pa_nil))))) (pw_or1 (pt_cmpR (op_eqD hr.units) (pv 1) (pe_lst pa_nil) (nomark _)))))) (pss_one (ps_ret pe_bl)) pss_nil)
   (pss_cons (ps_if (PW.pt (pw_or (pt_not (pt_val (pe_callB (call_allK (K:=K) rfl rfl) rfl T.b_all (by decide +kernel) (pa_cons (pe_comp (N:=(["_law_sharing", "_law_n"] : List Str)) (ix:=([none,some 0] : List (Option Nat))) (comp_ok rfl rfl) rfl (pi_listK (K:=K) rfl (pv 1)) (fun _ _ _ _=>(pg_name (i:=0) (show List.Nodup (["_law_sharing", "_law_n"] : List Str) from by decide +kernel) rfl (Or.inl rfl))) (fun _ _ _ _=>pif_nil) (fun _ _ _ _=>(pe_callF T.f__law_is_sharing (hr.mono (by first | decide | omega)) rfl (pa_cons (pv 1) (pa_cons (pv 0) pa_nil))))) pa_nil)))) (pw_or1 (pt_cmpR (op_neD hr.units) (pe_ix (ix_listK (K:=K) rfl) (pv 1) pe_int (fun _ _=>rfl)) (pe_comp (N:=(["_law_k"] : List Str)) (ix:=([none] : List (Option Nat))) (comp_ok rfl rfl) rfl (pi_range2 rfl T.b_range (pa_cons pe_int (pa_cons (pe_op op_add (pv 0) pe_int) pa_nil))) (fun _ _ _ _=>(pg_name (i:=0) (show List.Nodup (["_law_k"] : List Str) from by decide +kernel) rfl (Or.inl rfl))) (fun _ _ _ _=>pif_nil) (fun _ _ _ _=>(pe_lst (pa_cons (pv 0) pa_nil)))) (nomark _))))) (pss_one (ps_ret pe_bl)) pss_nil)
   (pss_cons (ps_if (pt_cmpR (op_neD hr.units) (pe_ix (ix_listK (K:=K) rfl) (pv 1) (pe_un un_neg pe_int) (fun _ _=>rfl)) (pe_lst (pa_cons (pe_callTy (call_list_rng rfl) rfl T.b_list (by decide +kernel) (pa_cons (pe_callTy call_range rfl T.b_range (by decide +kernel) (pa_cons pe_int (pa_cons (pe_op op_add (pv 0) pe_int) pa_nil))) pa_nil)) pa_nil)) (nomark _)) (pss_one (ps_ret pe_bl)) pss_nil)
   (pss_one (ps_ret (pe_callB (call_allK (K:=K) rfl rfl) rfl T.b_all (by decide +kernel) (pa_cons (pe_comp (N:=(["_law_k", "_law_some"] : List Str)) (ix:=([none,some 1] : List (Option Nat))) (comp_ok rfl rfl) rfl (pi_range1 rfl T.b_range (pa_cons (pe_op op_sub (pe_callB (call_lenK (K:=K) rfl) rfl T.b_len (by decide +kernel) (pa_cons (pv 1) pa_nil)) pe_int) pa_nil)) (fun _ _ _ _=>(pg_name (i:=0) (show List.Nodup (["_law_k", "_law_some"] : List Str) from by decide +kernel) rfl (Or.inl rfl))) (fun _ _ _ _=>pif_nil) (fun _ _ _ _=>(pe_callF T.f__law_joins (hr.mono (by first | decide | omega)) rfl (pa_cons (pe_ix (ix_listK (K:=K) rfl) (pv 1) (pv 0) (fun _ _=>rfl)) (pa_cons (pe_ix (ix_listK (K:=K) rfl) (pv 1) (pe_op op_add (pv 0) pe_int) (fun _ _=>rfl)) pa_nil))))) pa_nil))))))),?_⟩
  have one : 1≤sizeLine:=by decide
  have no : ∀ H',¬ ChainH n a→Same H H'→Q (.bl false) H':=fun H' z s=>k false H' ⟨fun q=>(by cases q),fun q=>absurd q z⟩ s
  refine ⟨_,rfl,v1,P,n,rfl,dn,_,rfl,?_⟩
  cases e1:btw 1 12 n with
  | false=>exact iteT (no H (fun ⟨i,SS,h,a1,a2,_⟩=>by subst h; rw [show btw 1 12 (.int i)=decide (1≤i∧i≤12) from rfl,decide_eq_true ⟨a1,a2⟩] at e1; cases e1) (Same.refl H))
  | true =>
   refine iteF ?_
   obtain ⟨i,rfl⟩ : ∃ i,n=.int i:=by cases n <;> first | exact ⟨_,rfl⟩ | cases e1
   cases dn
   have ib : 1≤i∧i≤12:=of_decide_eq_true e1
   refine ⟨_,rfl,_,_, "list", _,rfl,da.ty,kit_list K da,_,rfl,?_⟩
   cases da with
   | @lst q us ds hq pq rs =>
    refine iteF ?_
    obtain ⟨fl,fe⟩:=fa ds rfl
    have ul:=rs.length
    refine ⟨_,rfl,Nat.zero_le _,fun r0 fr0=>?_⟩
    have s0:Same H (upd H r0 (.lst [])):=Same.new fr0
    have h0:upd H r0 (.lst []) r0=some (.lst []):=upd_same
    generalize upd H r0 (.lst [])=H0 at s0 h0 ⊢
    have hq0:=s0 _ _ hq
    have rs0:=DTs.same rs s0
    refine eqNil7 (DT.lst hq0 pq rs0) na h0 ⟨_,rfl,?_⟩
    by_cases ne:ds=[]
    ·refine iteP (decide_eq_true ne) ?_
     refine no H0 (fun ⟨_,SS,_,_,_,z,_,c⟩=>c.ne ?_) s0
     injection z with z
     rw [ne] at z
     exact List.map_eq_nil_iff.mp z.symm
    refine iteE (decide_eq_false ne) ?_
    have lp:=List.length_pos_iff.mpr ne
    refine ⟨_,rfl,q,rfl,⟨_,SqL.of hq0⟩,compL (K:=K) (a:=q) (xs:=us) (k:=0) (fun j ys σ' H'=>(∃ bs:List Bool,ys=bs.map V.bl∧bs.length=j∧(bs.all id=true↔∀ e∈ds.take j,IsSh i e))∧(∃ v,σ'=[v,some (.int i)])∧Same H H') (by omega) ⟨⟨[],rfl,rfl,by simp⟩,⟨none,rfl⟩,s0⟩ (fun j ys σ' H' _ z=>SqL.of (z.2.2 _ _ hq)) (fun j ys σ' H' z=>by obtain ⟨⟨bs,e,h,_⟩,_⟩:=z; rw [e,List.length_map]; omega) ?_ ?_⟩
    ·rintro j ys σ' H1 x R hx ⟨⟨bs,rfl,bl,ba⟩,⟨v,rfl⟩,s1⟩ done
     obtain ⟨d,hd,dx⟩:=rs.get hx
     have dm:=List.mem_of_getElem? hd
     refine ⟨_,rfl,_,rfl,x,P,d,i,rfl,DT.same dx s1,fe d dm,nas ds rfl d dm,ib.1,ib.2,fun b H2 hb s2=>done _ _ _ ⟨⟨bs++[b],by rw [List.map_append]; rfl,by rw [List.length_append,bl]; rfl,?_⟩,⟨_,rfl⟩,s1.trans s2⟩⟩
     rw [List.all_append,Bool.and_eq_true,ba,take_snoc hd]
     have e1:([b].all id=true)↔IsSh i d:=by rw [← hb]; simp
     rw [e1]
     constructor
     ·rintro ⟨h1,h2⟩ e he
      rcases List.mem_append.mp he with he | he
      ·exact h1 e he
      ·rw [List.mem_singleton.mp he]; exact h2
     ·exact fun h=>⟨fun e he=>h e (List.mem_append_left _ he),h d (List.mem_append_right _ (List.mem_singleton.mpr rfl))⟩
    rintro ys σ' H1 r ⟨⟨bs,rfl,bl,ba⟩,_,s1⟩ fr
    rw [List.take_of_length_le (by omega)] at ba
    have s2:=s1.trans (Same.new (o:=.lst (bs.map V.bl)) fr)
    refine ⟨r,bs,rfl,SqL.of upd_same,_,rfl,?_⟩
    generalize upd H1 r (.lst (bs.map V.bl))=H2 at s2 ⊢
    cases hall:bs.all id with
    | false =>
     refine iteT (no H2 (fun ⟨j,SS,h,_,_,z,g,_⟩=>?_) s2)
     injection h with h
     subst h
     injection z with z
     rw [ba.mpr fun e he=>by rw [z] at he; obtain ⟨S,hS,rfl⟩:=List.mem_map.mp he; exact ⟨S,rfl,g S hS⟩] at hall
     cases hall
    | true =>
     refine iteF ?_
     obtain ⟨SS,rfl,g⟩:=all_sh (ba.mp hall)
     obtain ⟨as,uss,rfl,x⟩:=shs_of7 (DTs.same rs s2)
     rw [List.length_map] at fl lp
     have hq2:=s2 _ _ hq
     have al:=x.1
     have ull:=x.2.1
     have asl:(as.map V.ref).length=SS.length:=by rw [List.length_map,al]
     have cEq:ChainH (.int i) (.list (SS.map shD))↔ChG SS:=by
      constructor
      ·rintro ⟨j,TT,_,_,_,z,_,c⟩
       injection z with z
       rw [shDs_inj z]; exact c
      ·intro z; exact ⟨i,SS,rfl,ib.1,ib.2,rfl,g,z⟩
     rw [cEq] at k no
     rw [chG_iff ib.1 g] at k no
     have each : ∀ (H':Hp),Same H2 H'→∀ (i:Nat) (v:V),(as.map V.ref)[i]?=some v→∃ (a:Addr) (us:List V) (S:List (List Int)),v=.ref a∧H' a=some (.lst us)∧Lsts H' us S∧SS[i]?=some S:=fun H' s' i v hv=>by
      rw [List.getElem?_map] at hv
      obtain ⟨a,ha,rfl⟩:=Option.map_eq_some_iff.mp hv
      have hi:=(List.getElem?_eq_some_iff.mp ha).1
      obtain ⟨us,hus⟩ : ∃ us,uss[i]?=some us:=⟨_,List.getElem?_eq_getElem (by omega)⟩
      obtain ⟨S,hS⟩ : ∃ S,SS[i]?=some S:=⟨_,List.getElem?_eq_getElem (by omega)⟩
      obtain ⟨h1,h2⟩:=x.2.2 i a us S ha hus hS
      exact ⟨a,us,S,rfl,s' _ _ h1,h2.keep s',hS⟩
     obtain ⟨v0,hv0⟩ : ∃ v,(as.map V.ref)[0]?=some v:=⟨_,List.getElem?_eq_getElem (by omega)⟩
     obtain ⟨a0,u0,S0,rfl,ha0,x0,hS0⟩:=each H2 (Same.refl _) 0 v0 hv0
     have d0:SS.getD 0 []=S0:=getDG hS0
     refine ⟨_,rfl,q,_,0,_,rfl,rfl,SqL.of hq2,atI_nat hv0,?_⟩
     refine ⟨_,rfl,_,_,rfl,rfl,1,i+1,rfl,⟨by decide,by decide,by omega,by omega⟩,compR (k:=0) (fun j ys σ' H'=>Lsts H' ys ((alone i).take j)∧ys.length=j∧(∃ v,σ'=[v])∧Same H2 H') (by omega) ⟨.nil,rfl,⟨none,rfl⟩,Same.refl _⟩ (fun j ys σ' H'' q=>Nat.le_of_eq q.2.1) ?_ ?_⟩
     ·rintro j ys σ' H3 R hj ⟨xy,yl,⟨v,rfl⟩,s3⟩ done
      have hx:(alone i)[j]?=some [1+(j:Int)]:=by
       unfold alone
       rw [List.getElem?_map,get_ivl (by omega)]; rfl
      refine ⟨_,rfl,one,fun c fc=>done _ _ _ ⟨?_,by rw [List.length_append,yl]; rfl,⟨_,rfl⟩,s3.trans (Same.new fc)⟩⟩
      rw [take_snoc hx]
      exact (xy.keep (Same.new fc)).snoc upd_same
     rintro ys σ' H3 r3 ⟨xy,yl,_,s3⟩ fr3
     have all:(alone i).take (i+1 - 1).toNat=alone i:=List.take_of_length_le (by unfold alone; rw [List.length_map,ivl_length]; omega)
     rw [all] at xy
     have z3:Same H3 (upd H3 r3 (.lst ys)):=Same.new fr3
     have h3:upd H3 r3 (.lst ys) r3=some (.lst ys):=upd_same
     have xy3:=xy.keep z3
     generalize upd H3 r3 (.lst ys)=H4 at z3 h3 xy3 ⊢
     have s4:=s3.trans z3
     refine neLq7 (s4 _ _ ha0) (x0.keep s4) h3 xy3 ⟨_,rfl,?_⟩
     by_cases c0:S0=alone i
     ·refine iteE (by rw [decide_eq_true c0]; rfl) ?_
      obtain ⟨vl,hvl⟩ : ∃ v,(as.map V.ref)[SS.length - 1]?=some v:=⟨_,List.getElem?_eq_getElem (by omega)⟩
      obtain ⟨al',ulv,Sl,rfl,hal,xSl,hSl⟩:=each H4 s4 _ vl hvl
      have dl':SS.getD (SS.length - 1) []=Sl:=getDG hSl
      have atl:atI (as.map V.ref) (-1)=some (.ref al'):=by
       unfold atI ixN
       rw [if_neg (by decide),if_pos (by omega)]
       show (as.map V.ref)[(-1+((as.map V.ref).length:Int)).toNat]?=_
       rw [show (-1+((as.map V.ref).length:Int)).toNat=SS.length - 1 by omega]
       exact hvl
      refine ⟨_,rfl,_,rfl,q,_,_,_,rfl,rfl,SqL.of (s4 _ _ hq2),atl,_,rfl,_,_,rfl,rfl,.inr ⟨1,i+1,rfl,fun rg hrg=>⟨rg,1,i+1,rfl,upd_same,by decide,by decide,by omega,by omega,fun r5 f5=>?_⟩⟩⟩
      have z5:=(Same.new (o:=.rng 1 (i+1)) hrg).trans (Same.new (o:=.lst ((ivl 1 (i+1)).map V.int)) f5)
      have h5:upd (upd H4 rg (.rng 1 (i+1))) r5 (.lst ((ivl 1 (i+1)).map V.int)) r5=some (.lst ((ivl 1 (i+1)).map V.int)):=upd_same
      generalize upd (upd H4 rg (.rng 1 (i+1))) r5 (.lst ((ivl 1 (i+1)).map V.int))=H5 at z5 h5 ⊢
      refine ⟨one,fun r6 f6=>?_⟩
      have z6:Same H5 (upd H5 r6 (.lst [.ref r5])):=Same.new f6
      have h6:upd H5 r6 (.lst [.ref r5]) r6=some (.lst [.ref r5]):=upd_same
      generalize upd H5 r6 (.lst [.ref r5])=H6 at z6 h6 ⊢
      have y6:=z5.trans z6
      have s6:=s4.trans y6
      refine neLq7 (y6 _ _ hal) (xSl.keep y6) h6 (.cons (z6 _ _ h5) .nil) ⟨_,rfl,?_⟩
      by_cases c1:Sl=[ivl 1 (i+1)]
      ·refine iteE (by rw [decide_eq_true c1]; rfl) ?_
       have hq6:=s6 _ _ hq2
       refine ⟨_,rfl,q,_,rfl,.inl (SqL.of hq6),_,_,rfl,rfl,_,rfl,by omega,by omega,compR (k:=0) (fun j ys σ' H'=>(∃ bs:List Bool,ys=bs.map V.bl∧bs.length=j∧(bs.all id=true↔∀ t,t<j→JoL (SS.getD t []) (SS.getD (t+1) [])))∧(∃ v,σ'=[v,some (.ref q)])∧Same H6 H') (by omega) ⟨⟨[],rfl,rfl,by simp⟩,⟨none,rfl⟩,Same.refl _⟩ (fun j ys σ' H'' z=>by obtain ⟨⟨bs,e,h,_⟩,_⟩:=z; rw [e,List.length_map]; omega) ?_ ?_⟩
       ·rintro j ys σ' H7 R hj ⟨⟨bs,rfl,bl,ba⟩,⟨v,rfl⟩,s7⟩ done
        have s27:=s6.trans s7
        obtain ⟨va,hva⟩ : ∃ v,(as.map V.ref)[j]?=some v:=⟨_,List.getElem?_eq_getElem (by omega)⟩
        obtain ⟨vb,hvb⟩ : ∃ v,(as.map V.ref)[j+1]?=some v:=⟨_,List.getElem?_eq_getElem (by omega)⟩
        obtain ⟨b1,us1,S1,rfl,hb1,xS1,hS1⟩:=each H7 s27 j va hva
        obtain ⟨b2,us2,S2,rfl,hb2,xS2,hS2⟩:=each H7 s27 (j+1) vb hvb
        have g1:=g S1 (List.mem_of_getElem? hS1)
        have g2:=g S2 (List.mem_of_getElem? hS2)
        have sz1:=g1.cv.sizes (by omega)
        have sz2:=g2.cv.sizes (by omega)
        have hq7:=s27 _ _ hq2
        refine ⟨_,rfl,_,rfl,q,_,_,_,rfl,rfl,SqL.of hq7,at_refI (by omega) (by rw [show (0+(j:Int)).toNat=j by omega]; exact hva),_,rfl,_,rfl,_,_,rfl,rfl,q,_,_,_,rfl,rfl,SqL.of hq7,at_refI (by omega) (by rw [show (0+(j:Int)+1).toNat=j+1 by omega]; exact hvb),b1,b2,us1,us2,S1,S2,rfl,hb1,xS1,hb2,xS2,by omega,by omega,fun L hL=>by have:=sz1.2 L hL; omega,g2.rise,fun b H8 hb s8=>done _ _ _ ⟨⟨bs++[b],by rw [List.map_append]; rfl,by rw [List.length_append,bl]; rfl,?_⟩,⟨_,rfl⟩,s7.trans s8⟩⟩
        rw [List.all_append,Bool.and_eq_true,ba]
        have e1:([b].all id=true)↔JoL (SS.getD j []) (SS.getD (j+1) []):=by rw [getDG hS1,getDG hS2,← hb]; simp
        rw [e1]
        constructor
        ·rintro ⟨h1,h2⟩ t ht
         by_cases e:t=j
         ·subst e; exact h2
         ·exact h1 t (by omega)
        ·exact fun h=>⟨fun t ht=>h t (by omega),h j (by omega)⟩
       rintro ys σ' H7 r7 ⟨⟨bs,rfl,bl,ba⟩,_,s7⟩ fr7
       refine ⟨r7,bs,rfl,SqL.of upd_same,k _ _ ?_ (s2.trans (s6.trans (s7.trans (Same.new fr7))))⟩
       rw [ba]
       constructor
       ·intro h
        exact ⟨fun z=>by rw [z] at lp; exact absurd lp (by decide),by rw [d0]; exact c0,by rw [dl']; exact c1,fun t ht=>h t (by omega)⟩
       ·rintro ⟨_,_,_,h⟩ t ht
        exact h t (by omega)
      ·refine iteP (by rw [decide_eq_false c1]; rfl) ?_
       exact no H6 (fun ⟨_,_,z,_⟩=>c1 (by rw [← dl']; exact z)) (s2.trans s6)
     ·refine iteP (by rw [decide_eq_false c0]; rfl) ?_
      exact no H4 (fun ⟨_,z,_⟩=>c0 (by rw [← d0]; exact z)) (s2.trans s4)
   | _=>exact iteT (no H (fun ⟨_,_,_,_,_,z,_⟩=>by cases z) (Same.refl H))
end
end Sw
namespace Sw
open PySem L2
theorem call_reprK6 {X:Cx} {K:PySem.W.Frag} (h:X.K=K) (hg:X.A.guards=some []) (hu:X.A.units+64<cLine) : CallR X (.builtin "repr") (rRepr K):=by subst h; exact call_repr hg hu
theorem nop6 {y:Str} (h:numOf partsP y=none) (ds:List PyData) : isPaper (.tuple (.str y :: ds))=false:=decide_eq_false (by rw [h]; intro z; cases z)
theorem sml6 {n:Int} {Ls:List (List Int)} (c:Cov n Ls) (n1 : 1≤n) (n12:n≤12) : SmL6 Ls:=by
 have fl:=c.flen (by omega)
 have sz:=c.sizes (by omega)
 refine ⟨fun z=>?_,c.1,by omega,by omega,fun x hx=>?_⟩
 ·rw [z] at fl
  have:([] : List (List Int)).flatten.length=0:=rfl
  omega
 ·have:=ivl_mem3.mp (c.2.mem_iff.mp hx); omega
theorem upd_upd7 {H:Hp} {a:Addr} {o o':HO} : upd (upd H a o) a o'=upd H a o':=by
 funext b
 by_cases h:b=a
 ·subst h; rw [upd_same,upd_same]
 ·rw [upd_ne h,upd_ne h,upd_ne h]
theorem sm6_of {Ls:List (List Int)} (h:SmL6 Ls) : Sm6 Ls:=⟨by have:=h.2.2.1; omega,by have:=h.2.2.2.1; omega,fun x hx=>by have:=h.2.2.2.2 x hx; omega⟩
theorem great_ord6 {n:Int} (n1 : 1≤n) : Ord n (grM n):=by
 have ne:ivl 1 (n+1)≠[]:=fun z=>by
  have:=congrArg List.length z
  rw [ivl_length] at this
  have:([] : List Int).length=0:=rfl
  omega
 have c:Cov n [ivl 1 (n+1)]:=⟨fun L hL=>by rw [List.mem_singleton.mp hL]; exact ne,by rw [List.flatten_cons,List.flatten_nil,List.append_nil]⟩
 have g:Gsd n [ivl 1 (n+1)]:=⟨c,fun L hL=>by rw [List.mem_singleton.mp hL]; exact ivl_riseS 1 (n+1),fun L hL M hM a b c d _ _ _ _ _ _ _=>by rw [List.mem_singleton.mp hL,List.mem_singleton.mp hM],List.pairwise_singleton ..⟩
 rw [← whole_great n1 g rfl]
 exact made_ord c
theorem str_small6 {y:Int} (h1 : 1≤y) (h2:y≤12) : PyData.strOk (Str.ofString (toString y))=true:=by
 have:y=1∨y=2∨y=3∨y=4∨y=5∨y=6∨y=7∨y=8∨y=9∨y=10∨y=11∨y=12:=by omega
 rcases this with rfl | rfl | rfl | rfl | rfl | rfl | rfl | rfl | rfl | rfl | rfl | rfl <;> decide +kernel
theorem fit_small6 {y:Int} (h1 : 1≤y) (h2:y≤12) : Fit 10 (.str (Str.ofString (toString y)))∧(PyData.str (Str.ofString (toString y))).depth≤0:=by
 have:y=1∨y=2∨y=3∨y=4∨y=5∨y=6∨y=7∨y=8∨y=9∨y=10∨y=11∨y=12:=by omega
 rcases this with rfl | rfl | rfl | rfl | rfl | rfl | rfl | rfl | rfl | rfl | rfl | rfl <;> exact f0_str (by decide +kernel)
theorem dts_P7 {H:Hp} {P:Addr→Prop} : ∀ {vs:List V} {ds:List PyData},DTs H P vs ds→∀ a,V.ref a∈vs→P a
 | _,_,.nil,a,h=>by cases h
 | _,_,.cons h r,a,hm=>by
  rcases List.mem_cons.mp hm with e | hm
  ·subst e
   cases h with
   | lst _ p _=>exact p
   | tup _ p _=>exact p
  ·exact dts_P7 r a hm
theorem DTs.rev7 {H:Hp} {P:Addr→Prop} : ∀ {us:List V} {ds:List PyData},DTs H P us ds→DTs H P us.reverse ds.reverse
 | _,_,.nil=>.nil
 | _,_,.cons h r=>by rw [List.reverse_cons,List.reverse_cons]; exact (DTs.rev7 r).append (.cons h .nil)
def OkC (d:PyData) : Prop:=FewC d∧Nice 12 d∧(∀ ds,d=.list ds→∀ e∈ds,Nice 10 e)∧Fit 15000 d∧d.depth≤4
theorem okc_list {ds:List PyData} (h : ∀ d∈ds,OkS d) (l:ds.length≤14) : OkC (.list ds):=by
 have f:=fit_list (k:=3) (by decide) fun d hd=>(h d hd).2.2
 exact ⟨fun es e=>by injection e with e; subst e; exact ⟨by omega,fun e he=>(h e he).1⟩,(nice_list (k:=10) fun d hd=>(h d hd).2.1).mono (by decide),fun es e=>by injection e with e; subst e; exact fun e he=>(h e he).2.1,f.1.mono (by omega),f.2⟩
theorem okc_tup {ds:List PyData} (h : ∀ d∈ds,OkS d) (l:ds.length≤14) : OkC (.tuple ds):=by
 have f:=fit_tuple (k:=3) (by decide) fun d hd=>(h d hd).2.2
 exact ⟨fun es e=>(by cases e),(nice_tuple (k:=10) fun d hd=>(h d hd).2.1).mono (by decide),fun es e=>(by cases e),f.1.mono (by omega),f.2⟩
theorem okc_flat {d:PyData} (h:Fit 10 d∧d.depth≤0) (n:Nice 10 d) (n2 : ∀ ds,d≠.list ds) : OkC d:=⟨fun ds z=>absurd z (n2 ds),n.mono (by decide),fun ds z=>absurd z (n2 ds),h.1.mono (by decide),by omega⟩
theorem okc_sh {S:List (List Int)} (h:SmL6 S) : OkC (shD S):=by
 have o:=(sm6_of h).ok
 have fl : ∀ L∈S,L.length≤12:=fun L hL=>by have:=mem_flat6 hL; have:=h.2.2.2.1; omega
 refine ⟨fun es e=>?_,o.2.1.mono (by decide),fun es e=>?_,o.2.2.1.mono (by decide),by have:=o.2.2.2; omega⟩
 ·injection e with e
  subst e
  refine ⟨by rw [List.length_map]; have:=h.2.2.1; omega,fun e he=>?_⟩
  obtain ⟨L,hL,rfl⟩:=List.mem_map.mp he
  intro es e
  injection e with e
  subst e
  refine ⟨by rw [List.length_map]; have:=fl L hL; omega,?_⟩
  rw [List.map_map]
  have:(lenI ∘ PyData.int)=fun _=>0:=rfl
  rw [this]
  have z : ∀ L:List Int,(L.map fun _=>0).sum=0:=fun L=>by
   induction L with
   | nil=>rfl
   | cons _ _ ih=>rw [List.map_cons,List.sum_cons,ih]
  rw [z]; omega
 ·injection e with e
  subst e
  intro e he
  obtain ⟨L,hL,rfl⟩:=List.mem_map.mp he
  exact (nice_list (k:=0) (nice_ints L)).mono (by decide)
structure TL (P:Program) (w:World) (K:PySem.W.Frag) (mg:Str→Option Value) (base:Heap) : Prop extends T1 mg K where
 b_repr:mg "repr" = none
 b_str:mg "str" = none
 f__law_pool:FnAt P w K mg base "_law_pool" 1 ["_law_script", "_law_at"] (spPool K)
 f__law_take:FnAt P w K mg base "_law_take" 1 ["_law_pool_here", "_law_many"] spTk
 f__law_cut_by:FnAt P w K mg base "_law_cut_by" 2 ["_law_pool_here", "_law_order"] spCb
 f__law_rounds:FnAt P w K mg base "_law_rounds" 1 ["_law_order"] spShb
 f__law_spoilt_sharing:FnAt P w K mg base "_law_spoilt_sharing" 2 ["_law_pool_here", "_law_sharing"] spSpS
 f__law_due:FnAt P w K mg base "_law_due" 4 ["_law_n", "_law_some"] spDue7
 f_holds:FnAt P w K mg base "holds" 10 ["paper"] (spHolds g67 R67)
section
variable {P:Program} {w:World} {K:PySem.W.Frag} {mg:Str→Option Value} {base:Heap}
theorem sc_law:FnScope ["_law_script", "_law_pool_here", "_law_way", "_law_n", "_law_order", "_law_some", "_law_turn", "_law_at", "_law_other", "_law_size", "_law_due_here", "_law_paper", "_law_kept", "_law_told"] ["_law_script"] (defScope (top 77)):=⟨rfl,rfl,rfl,by decide +kernel,rfl,by decide +kernel,by decide +kernel⟩
theorem ok_law {f:Addr} {fd:FuncData} (F:Fun K "law" "law" (top 77) f fd) (T:TL P w K mg base) : FnOk P w K mg base CX0 11 f fd ["_law_script"] (spLaw K):=by
 refine F.ok sc_law (fun vs H Q E h=>?_) (fun cdv A outer s H vs Q E hr h=>?_)
 ·obtain ⟨a,ns,rfl,_⟩:=h
  rfl
 ·obtain ⟨a,ns,rfl,hS,hlen,k⟩:=h
  refine ⟨_,(@pss_cons _ _ _ _ _ (ps_set (i:=1) sc_law.nd rfl (Or.inl rfl) (pe_callF T.f__law_pool (hr.mono (by first | decide | omega)) rfl (pa_cons (pv 0) (pa_cons pe_int pa_nil))))
   (@pss_cons _ _ _ _ _ (ps_set (i:=2) sc_law.nd rfl (Or.inl rfl) (pe_callF T.f__law_take (hr.mono (by first | decide | omega)) rfl (pa_cons (pv 1) (pa_cons pe_int pa_nil))))
   (@pss_cons _ _ _ _ _ (ps_set (i:=3) sc_law.nd rfl (Or.inr rfl) (pe_op op_add pe_int (pe_callF T.f__law_take (hr.mono (by first | decide | omega)) rfl (pa_cons (pv 1) (pa_cons pe_int pa_nil)))))
   (@pss_cons _ _ _ _ _ (ps_set (i:=4) sc_law.nd rfl (Or.inl rfl) (pe_callTy (call_tuple_ofK (K:=K) rfl) rfl T.b_tuple (by decide +kernel) (pa_cons (pe_comp (N:=(["_law_k", "_law_n"] : List Str)) (ix:=([none,some 3] : List (Option Nat))) (comp_ok rfl rfl) rfl (pi_range2 rfl T.b_range (pa_cons pe_int (pa_cons (pe_op op_add (pv 3) pe_int) pa_nil))) (fun _ _ _ _=>(pg_name (i:=0) (show List.Nodup (["_law_k", "_law_n"] : List Str) from by decide +kernel) rfl (Or.inl rfl))) (fun _ _ _ _=>pif_nil) (fun _ _ _ _=>(pe_op op_add (pe_op op_mod (pv 0) (pv 1)) pe_int))) pa_nil)))
   (@pss_cons _ _ _ _ _ (ps_set (i:=5) sc_law.nd rfl (Or.inl rfl) (pe_lst (pa_cons (pe_callF T.f__law_rounds (hr.mono (by first | decide | omega)) rfl (pa_cons (pv 4) pa_nil)) pa_nil)))
   (@pss_cons _ _ _ _ _ (ps_for PassesOwn.never rfl (pi_range1 rfl T.b_range (pa_cons (pe_op op_sub (pv 3) pe_int) pa_nil)) (pg_name (i:=6) sc_law.nd rfl (Or.inl rfl)) (pss_cons (ps_set (i:=4) sc_law.nd rfl (Or.inl rfl) (pe_callF T.f__law_cut_by (hr.mono (by first | decide | omega)) rfl (pa_cons (pv 1) (pa_cons (pv 4) pa_nil))))
   (pss_one (ps_set (i:=5) sc_law.nd rfl (Or.inl rfl) (pe_op op_cat (pe_lst (pa_cons (pe_callF T.f__law_rounds (hr.mono (by first | decide | omega)) rfl (pa_cons (pv 4) pa_nil)) pa_nil)) (pv 5))))))
   (@pss_cons _ _ _ _ _ (ps_set (i:=7) sc_law.nd rfl (Or.inl rfl) (pe_callF T.f__law_take (hr.mono (by first | decide | omega)) rfl (pa_cons (pv 1) (pa_cons (pv 3) pa_nil))))
   (@pss_cons _ _ _ _ _ (ps_set (i:=8) sc_law.nd rfl (Or.inl rfl) (pe_callF T.f__law_take (hr.mono (by first | decide | omega)) rfl (pa_cons (pv 1) (pa_cons (pv 3) pa_nil))))
   (@pss_cons _ _ _ _ _ (ps_set (i:=9) sc_law.nd rfl (Or.inl rfl) (pv 3))
   (@pss_cons _ _ _ _ _ (ps_if (pt_cmpR op_lt (pv 2) pe_int (nomark _)) (pss_one (ps_asg (pe_callF T.f__law_spoilt_sharing (hr.mono (by first | decide | omega)) rfl (pa_cons (pv 1) (pa_cons (pe_ix (ix_listK (K:=K) rfl) (pv 5) (pv 7) (fun _ _=>rfl)) pa_nil))) (pg_sub (pv 5) (pv 7) set_list))) pss_nil)
   (@pss_cons _ _ _ _ _ (ps_if (pt_cmpR op_eq (pv 2) pe_int (nomark _)) (pss_one (ps_set (i:=5) sc_law.nd rfl (Or.inl rfl) (pe_op op_cat (pe_slice (sl_listK (K:=K) rfl) (pv 5) po_none (po_some (pv 7))) (pe_slice (sl_listK (K:=K) rfl) (pv 5) (po_some (pe_op op_add (pv 7) pe_int)) po_none)))) pss_nil)
   (@pss_cons _ _ _ _ _ (ps_if (pt_cmpR op_eq (pv 2) pe_int (nomark _)) (pss_one (ps_set (i:=5) sc_law.nd rfl (Or.inl rfl) (pe_op op_cat (pe_op op_cat (pe_slice (sl_listK (K:=K) rfl) (pv 5) po_none (po_some (pv 7))) (pe_lst (pa_cons (pe_ix (ix_listK (K:=K) rfl) (pv 5) (pv 7) (fun _ _=>rfl)) pa_nil))) (pe_slice (sl_listK (K:=K) rfl) (pv 5) (po_some (pv 7)) po_none)))) pss_nil)
   (@pss_cons _ _ _ _ _ (ps_if (pt_cmpR op_eq (pv 2) pe_int (nomark _)) (pss_one (ps_asg (pe_tup (pa_cons (pe_ix (ix_listK (K:=K) rfl) (pv 5) (pv 8) (fun _ _=>rfl)) (pa_cons (pe_ix (ix_listK (K:=K) rfl) (pv 5) (pv 7) (fun _ _=>rfl)) pa_nil))) (pg_tupK (K:=K) (n:=2) rfl rfl (pgs_cons (pg_sub (pv 5) (pv 7) set_list) (pgs_cons (pg_sub (pv 5) (pv 8) set_list) pgs_nil))))) pss_nil)
   (@pss_cons _ _ _ _ _ (@ps_if _ _ _ _ _ _ _ _ (pt_cmpR op_eq (pv 2) pe_int (nomark _)) (@pss_one _ _ _ (@ps_set _ _ 5 _ _ _ _ sc_law.nd rfl (Or.inl rfl) (@pe_ix _ _ _ _ _ _ _ (ix_listK (K:=K) rfl) (@pe_lst _ _ _ _ (@pa_cons _ _ _ _ _ (pe_revL (pv 5)) (@pa_cons _ _ _ _ _ (pe_callTy (call_tuple_ofK (K:=K) rfl) rfl T.b_tuple (by decide +kernel) (pa_cons (pv 5) pa_nil)) (@pa_cons _ _ _ _ _ (pe_lst pa_nil) (@pa_cons _ _ _ _ _ pe_non (@pa_cons _ _ _ _ _ pe_str (@pa_cons _ _ _ _ _ (pe_ix (ix_listK (K:=K) rfl) (pv 5) (pv 7) (fun _ _=>rfl)) pa_nil st_sub) st_con) st_con) st_list) st_call) st_sub)) (pe_callF T.f__law_take (hr.mono (by first | decide | omega)) rfl (pa_cons (pv 1) (pa_cons pe_int pa_nil))) (fun _ _=>rfl)) (by rfl) (by first | exact .inl rfl | exact .inr rfl))) pss_nil)
   (@pss_cons _ _ _ _ _ (@ps_if _ _ _ _ _ _ _ _ (pt_cmpR op_eq (pv 2) pe_int (nomark _)) (@pss_one _ _ _ (@ps_set _ _ 9 _ _ _ _ sc_law.nd rfl (Or.inl rfl) (@pe_ix _ _ _ _ _ _ _ (ix_listK (K:=K) rfl) (@pe_lst _ _ _ _ (@pa_cons _ _ _ _ _ (pe_op op_add (pv 3) pe_int) (@pa_cons _ _ _ _ _ (pe_op op_sub (pv 3) pe_int) (@pa_cons _ _ _ _ _ pe_int (@pa_cons _ _ _ _ _ pe_int (@pa_cons _ _ _ _ _ pe_bl (@pa_cons _ _ _ _ _ pe_non (@pa_cons _ _ _ _ _ (pe_callTy call_str_int rfl T.b_str (by decide +kernel) (pa_cons (pv 3) pa_nil)) (@pa_cons _ _ _ _ _ (pe_un un_neg (pv 3)) pa_nil st_un) st_call) st_con) st_con) st_con) st_con) st_bin) st_bin)) (pe_callF T.f__law_take (hr.mono (by first | decide | omega)) rfl (pa_cons (pv 1) (pa_cons pe_int pa_nil))) (fun _ _=>rfl)) (by rfl) (by first | exact .inl rfl | exact .inr rfl))) pss_nil)
   (@pss_cons _ _ _ _ _ (ps_set (i:=10) sc_law.nd rfl (Or.inl rfl) (pe_callF T.f__law_due (hr.mono (by first | decide | omega)) rfl (pa_cons (pv 9) (pa_cons (pv 5) pa_nil))))
   (@pss_cons _ _ _ _ _ (ps_set (i:=11) sc_law.nd rfl (Or.inl rfl) (pe_tup (@pa_cons _ _ _ _ _ pe_str (@pa_cons _ _ _ _ _ (pv 9) (@pa_cons _ _ _ _ _ (pv 5) pa_nil st_name) st_name) st_con)))
   (@pss_cons _ _ _ _ _ (@ps_if _ _ _ _ _ _ _ _ (pt_cmpR op_eq (pv 2) pe_int (nomark _)) (@pss_cons _ _ _ _ _ (@ps_set _ _ 11 _ _ _ _ sc_law.nd rfl (Or.inl rfl) (@pe_ix _ _ _ _ _ _ _ (ix_listK (K:=K) rfl) (@pe_lst _ _ _ _ (@pa_cons _ _ _ _ _ (pe_op (op_catTK (K:=K) rfl) (pe_tup (pa_cons pe_str pa_nil)) (pe_slice (sl_tupK (K:=K) rfl) (pv 11) (po_some pe_int) po_none)) (@pa_cons _ _ _ _ _ (pe_slice (sl_tupK (K:=K) rfl) (pv 11) po_none (po_some pe_int)) (@pa_cons _ _ _ _ _ (pe_op (op_catTK (K:=K) rfl) (pv 11) (pe_tup (pa_cons (pv 3) pa_nil))) (@pa_cons _ _ _ _ _ (pe_callTy (call_list_ofK (K:=K) rfl) rfl T.b_list (by decide +kernel) (pa_cons (pv 11) pa_nil)) (@pa_cons _ _ _ _ _ (pe_op (op_catTK (K:=K) rfl) (pe_tup (pa_cons (pe_lst pa_nil) pa_nil)) (pe_slice (sl_tupK (K:=K) rfl) (pv 11) (po_some pe_int) po_none)) pa_nil st_bin) st_call) st_bin) st_sub) st_bin)) (pe_callF T.f__law_take (hr.mono (by first | decide | omega)) rfl (pa_cons (pv 1) (pa_cons pe_int pa_nil))) (fun _ _=>rfl)) (by rfl) (by first | exact .inl rfl | exact .inr rfl))
   (pss_one (ps_set (i:=10) sc_law.nd rfl (Or.inl rfl) pe_bl))) pss_nil)
   (pss_cons (ps_set (i:=12) sc_law.nd rfl (Or.inl rfl) (pe_callB (call_reprK6 (K:=K) rfl hr.gd hr.units) rfl T.b_repr (by decide +kernel) (pa_cons (pv 11) pa_nil)))
   (pss_cons (ps_set (i:=13) sc_law.nd rfl (Or.inl rfl) (pe_callF T.f_holds (hr.mono (by first | decide | omega)) rfl (pa_cons (pv 11) pa_nil)))
   (pss_one (ps_ret (pe_and (pe_callB (call_isiK (K:=K) rfl) rfl T.b_isinstance (by decide +kernel) (pa_cons (pv 13) (pa_cons (pe_bltn (v:=.ty "bool") rfl T.b_bool (by decide +kernel) rfl) pa_nil))) (pe_and (pe_cmpR op_eq (pv 13) (pv 10) (nomark _)) (pe_one (pe_cmpR op_eq (pe_callB (call_reprK6 (K:=K) rfl hr.gd hr.units) rfl T.b_repr (by decide +kernel) (pa_cons (pv 11) pa_nil)) (pv 12) (nomark _))))))))))))))))))))))))))),?_⟩
  have big:(10000000:Nat)≤sizeLine:=by decide
  have two : 2≤sizeLine:=by decide
  have one : 1≤sizeLine:=by decide
  refine ⟨_,rfl,a,ns,0,rfl,hS,by decide,by decide,fun p H1 fp pu1 s1=>?_⟩
  refine ⟨_,rfl,p,12,rfl,pu1,by decide,by decide,fun wy H2 w0 w1 pu2 s2=>?_⟩
  refine ⟨_,rfl,p,12,rfl,pu2,by decide,by decide,fun r5 H5 r50 r51 pu5 s5=>?_⟩
  obtain ⟨n,hn⟩ : ∃ n:Int,1+r5=n:=⟨_,rfl⟩
  refine add_at hn ?_
  have n1 : 1≤n:=by omega
  have n12:n≤12:=by omega
  -- the great round
  refine ⟨_,rfl,_,_,rfl,rfl,1,n+1,rfl,⟨by decide,by decide,by omega,by omega⟩,compR (k:=0) (fun i ys σ' H''=>ys=((ivl 1 (n+1)).take i).map (fun x=>V.int (x % n+1))∧(∃ v,σ'=[v,some (.int n)])∧H''=H5) (by omega) ⟨rfl,⟨none,rfl⟩,rfl⟩ (fun i ys σ' H'' q=>by rw [q.1,List.length_map,List.length_take]; omega) ?_ ?_⟩
  ·rintro i ys σ' H'' R hi ⟨rfl,⟨v,rfl⟩,rfl⟩ done
   have hx:(ivl 1 (n+1))[i]?=some (1+(i:Int)):=get_ivl (by omega)
   refine ⟨_,rfl,_,rfl,_,_,rfl,rfl,n1,_,_,rfl,rfl,done _ _ _ ⟨?_,⟨_,rfl⟩,rfl⟩⟩
   exact (take_succ_map (fun x=>V.int (x % n+1)) hx).symm
  rintro ys σ' H'' pq ⟨rfl,_,rfl⟩ hpq
  have s6:=Same.new (o:=.lst (((ivl 1 (n+1)).take (n+1 - 1).toNat).map (fun x=>V.int (x % n+1)))) hpq
  refine ⟨pq,_,rfl,.inl ⟨SqL.of upd_same,fun t0 ft0=>?_⟩⟩
  have s7:=s6.trans (Same.new (o:=.tup (((ivl 1 (n+1)).take (n+1 - 1).toNat).map (fun x=>V.int (x % n+1)))) ft0)
  have egr:((ivl 1 (n+1)).take (n+1 - 1).toNat).map (fun x=>V.int (x % n+1))=(grM n).map V.int:=by
   rw [List.take_of_length_le (by rw [ivl_length]; omega)]
   unfold grM
   rw [List.map_map]; rfl
  rw [egr] at s7 ⊢
  have ht0:upd (upd H'' pq (.lst ((grM n).map V.int))) t0 (.tup ((grM n).map V.int)) t0=some (.tup ((grM n).map V.int)):=upd_same
  have pu7:=pu5.keep s7
  generalize upd (upd H'' pq (.lst ((grM n).map V.int))) t0 (.tup ((grM n).map V.int))=H7 at s7 ht0 pu7 ⊢
  have nt0:t0≠p:=fun z=>by
   obtain ⟨_,e⟩:=pu7.at
   rw [← z,ht0] at e; cases e
  -- the chain
  refine ⟨_,rfl,t0,n,grM n,rfl,ht0,great_ord6 n1,n12,fun q0 H8 sq0 s8=>?_⟩
  obtain ⟨ws0,fq0,hq0,x0,fr0,nq0⟩:=sq0
  refine ⟨one,fun l0 fl0=>?_⟩
  have z8:Same H8 (upd H8 l0 (.lst [.ref q0])):=Same.new fl0
  have hl0:upd H8 l0 (.lst [.ref q0]) l0=some (.lst [.ref q0]):=upd_same
  generalize upd H8 l0 (.lst [.ref q0])=H9 at z8 hl0 ⊢
  have pu8:=pu7.keep s8
  have mkD : ∀ {G G2 G3:Hp} {q l:Addr} {ws:List V} {S:List (List Int)},Pool G p→G q=none→Same G G2→G2 q=some (.lst ws)→Lsts G2 ws S→Fresh G ws→G2 l=none→Same G2 G3→DT G3 (fun b=>b≠p∧b≠l) (.ref q) (shD S):=fun {G G2 G3 q l ws S} pu fq s hq x fr fl s'=>by
   have al : ∀ b ob,G2 b=some ob→b≠l:=fun b ob e z=>by rw [z,fl] at e; cases e
   refine .lst (s' _ _ hq) ⟨(pu.ne fq).symm,al _ _ hq⟩ ((x.keep s').dtsF fun b hb=>?_)
   obtain ⟨b',e,h'⟩:=fr.2 _ hb
   injection e with e
   subst e
   obtain ⟨ns,e⟩:=x.mem hb
   exact ⟨(pu.ne h').symm,al _ _ e⟩
  refine ⟨_,rfl,_,_,rfl,rfl,_,rfl,by omega,by omega,for_range (fun i σ H'=>∃ t xs ls us,∃ SS:List (List (List Int)),∃ v6,σ=[some (.ref a),some (.ref p),some (.int wy),some (.int n),some (.ref t),some (.ref ls),v6,none,none,none,none,none,none,none]∧H' t=some (.tup (xs.map V.int))∧Ord n xs∧H' ls=some (.lst us)∧ls≠p∧DTs H' (fun b=>b≠p∧b≠ls) us (SS.map shD)∧(∀ S∈SS,Cov n S)∧SS.length=i+1∧Pool H' p) ⟨t0,grM n,l0,_,[shM n (grM n)],_,rfl,z8 _ _ (s8 _ _ ht0),great_ord6 n1,hl0,(pu8.ne fl0).symm,.cons (mkD pu7 fq0 s8 hq0 x0 fr0 fl0 z8) .nil,fun S hS=>by rw [List.mem_singleton.mp hS]; exact sh_cov (great_ord6 n1),rfl,pu8.keep z8⟩ ?_ ?_⟩
  ·rintro i σ H10 hi ⟨t,xs,ls,us,SS,v6,rfl,ht,o,hls,nls,dd,cvs,sl,pu10⟩
   refine ⟨_,rfl,_,rfl,p,t,n,xs,rfl,pu10,ht,o,n12,fun t' ys H11 ht' o' pu11 s11=>?_⟩
   have dd11:=dd.keep fun b ob hb e=>s11 b ob hb.1 e
   have hls11:=s11 _ _ nls hls
   refine ⟨_,rfl,t',n,ys,rfl,ht',o',n12,fun q H12 sq s12=>?_⟩
   obtain ⟨ws,fq,hq,x,fr,nq⟩:=sq
   refine ⟨one,fun r1 f1=>?_⟩
   have z13:Same H12 (upd H12 r1 (.lst [.ref q])):=Same.new f1
   have h13:upd H12 r1 (.lst [.ref q]) r1=some (.lst [.ref q]):=upd_same
   generalize upd H12 r1 (.lst [.ref q])=H13 at z13 h13 ⊢
   have s13:=s12.trans z13
   have ul:=dd11.length
   rw [List.length_map] at ul
   have lim:us.length≤20:=by omega
   refine ⟨_,rfl,r1,ls,_,_,rfl,rfl,h13,s13 _ _ hls11,by show 1+us.length≤_; omega,fun r2 f2=>?_⟩
   have z14:Same H13 (upd H13 r2 (.lst ([.ref q]++us))):=Same.new f2
   have pu13:=pu11.keep s13
   refine ⟨t',ys,r2,_,shM n ys :: SS,_,rfl,z14 _ _ (s13 _ _ ht'),o',upd_same,(pu13.ne f2).symm,.cons (mkD pu11 fq s13 (z13 _ _ hq) (x.keep z13) fr f2 z14) ?_,fun S hS=>?_,by rw [List.length_cons,sl],pu13.keep z14⟩
   ·refine (DTs.same (DTs.same dd11.alive s13) z14).imp fun b hb=>⟨hb.1.1,fun z=>hb.2 ?_⟩
    cases e:H11 b with
    | none=>rfl
    | some ob=>rw [z] at e; rw [s13 _ _ e] at f2; cases f2
   ·rcases List.mem_cons.mp hS with rfl | hS
    ·exact sh_cov o'
    ·exact cvs S hS
  clear z8 hl0 pu8 s8 hq0 x0 ht0 pu7 s7
  rintro σ H10 ⟨t,xs,ls,us,SS,v6,rfl,ht,o,hls,nls,dd,cvs,sl,pu10⟩
  have ul:=dd.length
  rw [List.length_map] at ul
  have uln:(us.length:Int)=n:=by omega
  refine ⟨_,rfl,_,rfl,p,n,rfl,pu10,by omega,by omega,fun at' H11 a0 a1 pu11 s11=>?_⟩
  refine ⟨_,rfl,_,rfl,p,n,rfl,pu11,by omega,by omega,fun ot H12 o0 o1 pu12 s12=>?_⟩
  have s1012:=s11.trans s12
  have hls12:=s1012 _ _ nls hls
  have dd12:=dd.keep fun b ob hb e=>s1012 b ob hb.1 e
  refine ⟨_,rfl,?_⟩
  refine gNJ ?_
  dsimp only
  have smS : ∀ S∈SS,SmL6 S:=fun S hS=>sml6 (cvs S hS) n1 n12
  have okS : ∀ d∈SS.map shD,OkS d:=fun d hd=>by
   obtain ⟨S,hS,rfl⟩:=List.mem_map.mp hd
   exact (sm6_of (smS S hS)).ok
  -- one of them spoilt
  refine seq_byJ (t:=tIfS _ _ _) (fun σ' H'=>∃ us ds,σ'=[some (.ref a),some (.ref p),some (.int wy),some (.int n),some (.ref t),some (.ref ls),v6,some (.int at'),some (.int ot),some (.int n),none,none,none,none]∧H' ls=some (.lst us)∧DTs H' (fun b=>b≠p∧b≠ls) us ds∧(∀ d∈ds,OkS d)∧(us.length:Int)=n∧(4≤wy→∀ d∈ds,∃ S,d=shD S∧SmL6 S)∧Pool H' p) (fun D' hD=>?_) ?_
  ·refine ⟨_,rfl,_,_,rfl,rfl,_,rfl,ite2 (fun c=>?_) (fun c=>?_)⟩
   ·have c:wy<4:=of_decide_eq_true c
    obtain ⟨u,hu⟩ : ∃ u,us[at'.toNat]?=some u:=⟨_,List.getElem?_eq_getElem (by omega)⟩
    obtain ⟨d,hd,du⟩:=dd12.get hu
    rw [List.getElem?_map] at hd
    obtain ⟨S,hS,rfl⟩:=Option.map_eq_some_iff.mp hd
    have Sm:=List.mem_of_getElem? hS
    cases du with
    | @lst q ws _ hq pq rs =>
     refine ⟨_,rfl,_,rfl,_,rfl,ls,_,_,.ref q,rfl,rfl,SqL.of hls12,at_refI a0 hu,p,q,ws,S,rfl,pu12,hq,pq.1,lsts_of rs,fun z=>(dts_P7 rs p z).1 rfl,smS S Sm,fun v d H13 dv ov pu13 s13=>?_⟩
     have hls13:=s13 _ _ nls hls12
     refine ⟨_,rfl,_,rfl,ls,_,_,at'.toNat,rfl,rfl,hls13,ixN_lt a0 (by omega),?_⟩
     refine hD _ _ ⟨us.set at'.toNat v,(SS.map shD).set at'.toNat d,rfl,upd_same,?_,fun e he=>?_,by rw [List.length_set]; exact uln,fun z=>absurd c (by omega),pu13.upd nls.symm⟩
     ·refine ((dd12.keep fun b ob hb e=>s13 b ob hb.1 e).setP at'.toNat (dv.imp fun b hb=>⟨(pu12.ne hb).symm,(ne_of_none hls12 hb).symm⟩)).keep fun b ob hb e=>?_
      rw [upd_ne hb.2]; exact e
     ·rcases List.mem_or_eq_of_mem_set he with he | rfl
      ·exact okS e he
      ·exact ov
   ·refine hD _ _ ⟨us,SS.map shD,rfl,hls12,dd12,okS,uln,fun _ d hd=>?_,pu12⟩
    obtain ⟨S,hS,rfl⟩:=List.mem_map.mp hd
    exact ⟨S,rfl,smS S hS⟩
  clear hls dd hls12 dd12 okS smS cvs sl ul uln pu12 pu11 pu10
  rintro σ H13 ⟨us,ds,rfl,hls,dd,oks,uln,big4,pu13⟩
  -- one left out
  refine seq_byJ (t:=tIfS _ _ _) (fun σ' H'=>∃ ls us ds,σ'=[some (.ref a),some (.ref p),some (.int wy),some (.int n),some (.ref t),some (.ref ls),v6,some (.int at'),some (.int ot),some (.int n),none,none,none,none]∧ls≠p∧H' ls=some (.lst us)∧DTs H' (fun b=>b≠p∧b≠ls) us ds∧(∀ d∈ds,OkS d)∧us.length≤12∧(wy≠4→(us.length:Int)=n)∧(4≤wy→∀ d∈ds,∃ S,d=shD S∧SmL6 S)∧Pool H' p) (fun D' hD=>?_) ?_
  ·refine ⟨_,rfl,rfl,_,rfl,ite2 (fun c=>?_) (fun c=>?_)⟩
   ·have c:wy=4:=V.int.inj (of_decide_eq_true c)
    refine ⟨_,rfl,_,rfl,at',rfl,ls,us,rfl,SqL.of hls,fun q1 e1=>?_⟩
    rw [cutT9 a0 (by omega)]
    have z1:Same H13 (upd H13 q1 (.lst (us.take at'.toNat))):=Same.new e1
    have h1:upd H13 q1 (.lst (us.take at'.toNat)) q1=some (.lst (us.take at'.toNat)):=upd_same
    generalize upd H13 q1 (.lst (us.take at'.toNat))=G1 at z1 h1 ⊢
    refine ⟨_,rfl,_,rfl,_,_,rfl,rfl,_,rfl,?_⟩
    try unfold tNoPart
    refine ⟨ls,us,rfl,SqL.of (z1 _ _ hls),fun q2 e2=>?_⟩
    rw [cutDg (by omega)]
    have z2:Same G1 (upd G1 q2 (.lst (us.drop (at'+1).toNat))):=Same.new e2
    have h2:upd G1 q2 (.lst (us.drop (at'+1).toNat)) q2=some (.lst (us.drop (at'+1).toNat)):=upd_same
    generalize upd G1 q2 (.lst (us.drop (at'+1).toNat))=G2 at z2 h2 ⊢
    have y2:=z1.trans z2
    refine ⟨q1,q2,_,_,rfl,rfl,z2 _ _ h1,h2,by rw [List.length_take,List.length_drop]; omega,fun q3 e3=>?_⟩
    have z3:Same G2 (upd G2 q3 (.lst (us.take at'.toNat++us.drop (at'+1).toNat))):=Same.new e3
    have y3:=y2.trans z3
    have dA:DTs _ (fun b=>b≠p∧b≠q3) us ds:=(DTs.same dd.alive y3).imp fun b hb=>⟨hb.1.1,fun z=>hb.2 (by rw [z]; exact y2.free e3)⟩
    refine hD _ _ ⟨q3,_,_,rfl,((pu13.keep y2).ne e3).symm,upd_same,(dA.take at'.toNat).append (dA.drop (at'+1).toNat),fun d hd=>?_,by rw [List.length_append,List.length_take,List.length_drop]; omega,fun z=>absurd c z,fun z d hd=>?_,pu13.keep y3⟩
    ·rcases List.mem_append.mp hd with hd | hd
     ·exact oks d (List.mem_of_mem_take hd)
     ·exact oks d (List.mem_of_mem_drop hd)
    ·rcases List.mem_append.mp hd with hd | hd
     ·exact big4 z d (List.mem_of_mem_take hd)
     ·exact big4 z d (List.mem_of_mem_drop hd)
   ·exact hD _ _ ⟨ls,us,ds,rfl,nls,hls,dd,oks,by omega,fun _=>uln,big4,pu13⟩
  clear hls dd oks uln big4 pu13 nls
  rintro σ H14 ⟨ls,us,ds,rfl,nls,hls,dd,oks,ulm,uln,big4,pu14⟩
  -- one twice
  refine seq_byJ (t:=tIfS _ _ _) (fun σ' H'=>∃ ls us ds,σ'=[some (.ref a),some (.ref p),some (.int wy),some (.int n),some (.ref t),some (.ref ls),v6,some (.int at'),some (.int ot),some (.int n),none,none,none,none]∧ls≠p∧H' ls=some (.lst us)∧DTs H' (fun b=>b≠p∧b≠ls) us ds∧(∀ d∈ds,OkS d)∧us.length≤13∧(6≤wy→(us.length:Int)=n)∧(4≤wy→∀ d∈ds,∃ S,d=shD S∧SmL6 S)∧Pool H' p) (fun D' hD=>?_) ?_
  ·refine ⟨_,rfl,rfl,_,rfl,ite2 (fun c=>?_) (fun c=>?_)⟩
   ·have c:wy=5:=V.int.inj (of_decide_eq_true c)
    have uln:=uln (by omega)
    obtain ⟨u,hu⟩ : ∃ u,us[at'.toNat]?=some u:=⟨_,List.getElem?_eq_getElem (by omega)⟩
    refine ⟨_,rfl,_,rfl,at',rfl,ls,us,rfl,SqL.of hls,fun q1 e1=>?_⟩
    rw [cutT9 a0 (by omega)]
    have z1:Same H14 (upd H14 q1 (.lst (us.take at'.toNat))):=Same.new e1
    have h1:upd H14 q1 (.lst (us.take at'.toNat)) q1=some (.lst (us.take at'.toNat)):=upd_same
    generalize upd H14 q1 (.lst (us.take at'.toNat))=G1 at z1 h1 ⊢
    refine ⟨_,rfl,_,rfl,ls,_,_,u,rfl,rfl,SqL.of (z1 _ _ hls),at_refI a0 hu,one,fun q2 e2=>?_⟩
    have z2:Same G1 (upd G1 q2 (.lst [u])):=Same.new e2
    have h2:upd G1 q2 (.lst [u]) q2=some (.lst [u]):=upd_same
    generalize upd G1 q2 (.lst [u])=G2 at z2 h2 ⊢
    have y2:=z1.trans z2
    refine ⟨q1,q2,_,_,rfl,rfl,z2 _ _ h1,h2,by rw [List.length_take]; show _+1≤_; omega,fun q3 e3=>?_⟩
    have z3:Same G2 (upd G2 q3 (.lst (us.take at'.toNat++[u]))):=Same.new e3
    have h3:upd G2 q3 (.lst (us.take at'.toNat++[u])) q3=some (.lst (us.take at'.toNat++[u])):=upd_same
    generalize upd G2 q3 (.lst (us.take at'.toNat++[u]))=G3 at z3 h3 ⊢
    have y3:=y2.trans z3
    refine ⟨_,rfl,_,rfl,_,rfl,?_⟩
    try unfold tNoPart
    refine ⟨ls,us,rfl,SqL.of (y3 _ _ hls),fun q4 e4=>?_⟩
    rw [cutDg a0]
    have z4:Same G3 (upd G3 q4 (.lst (us.drop at'.toNat))):=Same.new e4
    have h4:upd G3 q4 (.lst (us.drop at'.toNat)) q4=some (.lst (us.drop at'.toNat)):=upd_same
    generalize upd G3 q4 (.lst (us.drop at'.toNat))=G4 at z4 h4 ⊢
    have y4:=y3.trans z4
    refine ⟨q3,q4,_,_,rfl,rfl,z4 _ _ h3,h4,by rw [List.length_append,List.length_take,List.length_drop]; show _+1+_≤_; omega,fun q5 e5=>?_⟩
    have z5:Same G4 (upd G4 q5 (.lst (us.take at'.toNat++[u]++us.drop at'.toNat))):=Same.new e5
    have y5:=y4.trans z5
    have dA:DTs _ (fun b=>b≠p∧b≠q5) us ds:=(DTs.same dd.alive y5).imp fun b hb=>⟨hb.1.1,fun z=>hb.2 (by rw [z]; exact y4.free e5)⟩
    obtain ⟨d,hd,du⟩:=dA.get hu
    have dm:=List.mem_of_getElem? hd
    have mem : ∀ e∈ds.take at'.toNat++[d]++ds.drop at'.toNat,e∈ds:=fun e he=>by
     rcases List.mem_append.mp he with he | he
     ·rcases List.mem_append.mp he with he | he
      ·exact List.mem_of_mem_take he
      ·rw [List.mem_singleton.mp he]; exact dm
     ·exact List.mem_of_mem_drop he
    exact hD _ _ ⟨q5,_,_,rfl,((pu14.keep y4).ne e5).symm,upd_same,((dA.take at'.toNat).append (.cons du .nil)).append (dA.drop at'.toNat),fun e he=>oks e (mem e he),by rw [List.length_append,List.length_append,List.length_take,List.length_drop]; show _+1+_≤13; omega,fun z=>absurd c (by omega),fun z e he=>big4 z e (mem e he),pu14.keep y5⟩
   ·exact hD _ _ ⟨ls,us,ds,rfl,nls,hls,dd,oks,by omega,fun z=>uln (by omega),big4,pu14⟩
  clear hls dd oks uln big4 pu14 nls ulm
  rintro σ H15 ⟨ls,us,ds,rfl,nls,hls,dd,oks,ulm,uln,big4,pu15⟩
  -- two changed about
  refine seq_byJ (t:=tIfS _ _ _) (fun σ' H'=>∃ us ds,σ'=[some (.ref a),some (.ref p),some (.int wy),some (.int n),some (.ref t),some (.ref ls),v6,some (.int at'),some (.int ot),some (.int n),none,none,none,none]∧H' ls=some (.lst us)∧DTs H' (fun b=>b≠p∧b≠ls) us ds∧(∀ d∈ds,OkS d)∧us.length≤13∧(6≤wy→(us.length:Int)=n)∧(4≤wy→∀ d∈ds,∃ S,d=shD S∧SmL6 S)∧Pool H' p) (fun D' hD=>?_) ?_
  ·refine ⟨_,rfl,rfl,_,rfl,ite2 (fun c=>?_) (fun c=>?_)⟩
   ·have c:wy=6:=V.int.inj (of_decide_eq_true c)
    have uln:=uln (by omega)
    obtain ⟨u,hu⟩ : ∃ u,us[at'.toNat]?=some u:=⟨_,List.getElem?_eq_getElem (by omega)⟩
    obtain ⟨u2,hu2⟩ : ∃ u,us[ot.toNat]?=some u:=⟨_,List.getElem?_eq_getElem (by omega)⟩
    obtain ⟨d,hd,du⟩:=dd.get hu
    obtain ⟨d2,hd2,du2⟩:=dd.get hu2
    refine ⟨_,rfl,_,rfl,ls,_,_,u2,rfl,rfl,SqL.of hls,at_refI o0 hu2,_,rfl,_,rfl,ls,_,_,u,rfl,rfl,SqL.of hls,at_refI a0 hu,two,fun tt ftt=>?_⟩
    have z1:Same H15 (upd H15 tt (.tup [u2,u])):=Same.new ftt
    have h1:upd H15 tt (.tup [u2,u]) tt=some (.tup [u2,u]):=upd_same
    generalize upd H15 tt (.tup [u2,u])=G1 at z1 h1 ⊢
    refine ⟨tt,_,rfl,SqT.of h1,rfl,_,_,rfl,_,rfl,_,rfl,ls,_,_,at'.toNat,rfl,rfl,z1 _ _ hls,ixN_lt a0 (by omega),?_⟩
    refine ⟨_,_,rfl,_,rfl,_,rfl,ls,_,_,ot.toNat,rfl,rfl,upd_same,ixN_lt o0 (by rw [List.length_set]; omega),rfl,?_⟩
    rw [upd_upd7]
    have dG:=DTs.same dd z1
    have eG:DTs (upd G1 ls (.lst ((us.set at'.toNat u2).set ot.toNat u))) (fun b=>b≠p∧b≠ls) ((us.set at'.toNat u2).set ot.toNat u) ((ds.set at'.toNat d2).set ot.toNat d):=((dG.setP at'.toNat (DT.same du2 z1)).setP ot.toNat (DT.same du z1)).keep fun b ob hb e=>by rw [upd_ne hb.2]; exact e
    have mem : ∀ e∈(ds.set at'.toNat d2).set ot.toNat d,e∈ds:=fun e he=>by
     rcases List.mem_or_eq_of_mem_set he with he | rfl
     ·rcases List.mem_or_eq_of_mem_set he with he | rfl
      ·exact he
      ·exact List.mem_of_getElem? hd2
     ·exact List.mem_of_getElem? hd
    exact hD _ _ ⟨_,_,rfl,upd_same,eG,fun e he=>oks e (mem e he),by rw [List.length_set,List.length_set]; omega,fun _=>by rw [List.length_set,List.length_set]; exact uln,fun z e he=>big4 z e (mem e he),(pu15.keep z1).upd nls.symm⟩
   ·exact hD _ _ ⟨us,ds,rfl,hls,dd,oks,ulm,uln,big4,pu15⟩
  clear hls dd oks uln big4 pu15 ulm
  rintro σ H16 ⟨us,ds,rfl,hls,dd,oks,ulm,uln,big4,pu16⟩
  have dl:=dd.length
  -- another thing
  refine seq_byJ (t:=tIfS _ _ _) (fun σ' H'=>∃ v d,σ'=[some (.ref a),some (.ref p),some (.int wy),some (.int n),some (.ref t),some v,v6,some (.int at'),some (.int ot),some (.int n),none,none,none,none]∧DT H' (·≠p) v d∧OkC d∧Pool H' p) (fun D' hD=>?_) ?_
  ·have ddp:DTs H16 (·≠p) us ds:=dd.imp fun b hb=>hb.1
   refine ⟨_,rfl,rfl,_,rfl,ite2 (fun c=>?_) (fun c=>?_)⟩
   ·have c:wy=7:=V.int.inj (of_decide_eq_true c)
    have uln:=uln (by omega)
    have hP : ∀ x,H16 x=none→x≠p:=fun x hx=>(pu16.ne hx).symm
    obtain ⟨u,hu⟩ : ∃ u,us[at'.toNat]?=some u:=⟨_,List.getElem?_eq_getElem (by omega)⟩
    obtain ⟨d,hd,du⟩:=ddp.get hu
    obtain ⟨S,rfl,smS⟩:=big4 (by omega) d (List.mem_of_getElem? hd)
    refine ⟨_,rfl,ls,_,rfl,SqL.of hls,fun q1 f1=>?_⟩
    obtain ⟨A1,S1⟩:=acc_lst hP (Same.refl _) .nil f1 (DTs.rev7 ddp)
    generalize upd H16 q1 (.lst us.reverse)=J1 at A1 S1 ⊢
    refine ⟨_,rfl,ls,_,rfl,.inl ⟨SqL.of (S1 _ _ hls),fun q2 f2=>?_⟩⟩
    obtain ⟨A2,S2⟩:=acc_tup hP S1 A1 f2 (DTs.same ddp S1)
    generalize upd J1 q2 (.tup us)=J2 at A2 S2 ⊢
    refine ⟨Nat.zero_le _,fun q3 f3=>?_⟩
    obtain ⟨A3,S3⟩:=acc_lst hP S2 A2 f3 .nil
    generalize upd J2 q3 (.lst [])=J3 at A3 S3 ⊢
    have A4:=(A3.snoc .non).snoc (.str "none")
    refine ⟨_,rfl,_,rfl,ls,_,_,u,rfl,rfl,SqL.of (S3 _ _ hls),at_refI a0 hu,(by show 6≤sizeLine; decide),fun l5 f5=>?_⟩
    have A5:=A4.snoc (DT.same du S3)
    have z5:Same J3 (upd J3 l5 (.lst [.ref q1,.ref q2,.ref q3,.non,.str "none", u])):=Same.new f5
    have h5:upd J3 l5 (.lst [.ref q1,.ref q2,.ref q3,.non,.str "none", u]) l5=some (.lst [.ref q1,.ref q2,.ref q3,.non,.str "none", u]):=upd_same
    have n5:l5≠p:=hP _ (S3.free f5)
    have A6:=DTs.same A5 z5
    have S6:=S3.trans z5
    generalize upd J3 l5 (.lst [.ref q1,.ref q2,.ref q3,.non,.str "none", u])=J5 at A6 S6 h5 ⊢
    refine ⟨_,rfl,p,6,rfl,pu16.keep S6,by decide,by decide,fun r6 J6 r60 r61 pu6 s6=>?_⟩
    obtain ⟨xv,hxv⟩ : ∃ v,([.ref q1,.ref q2,.ref q3,.non,.str "none", u] : List V)[r6.toNat]?=some v:=⟨_,List.getElem?_eq_getElem (by show r6.toNat<6; omega)⟩
    refine ⟨l5,_,r6,xv,rfl,rfl,SqL.of (s6 _ _ n5 h5),at_refI r60 hxv,?_⟩
    obtain ⟨xd,hxd,dX⟩:=(A6.keep fun b ob hb e=>s6 b ob hb e).get hxv
    refine hD _ _ ⟨xv,xd,rfl,dX,?_,pu6⟩
    have:r6.toNat=0∨r6.toNat=1∨r6.toNat=2∨r6.toNat=3∨r6.toNat=4∨r6.toNat=5:=by omega
    rcases this with e | e | e | e | e | e <;> rw [e] at hxd <;> injection hxd with hxd <;> subst hxd
    ·exact okc_list (fun d hd=>oks d (List.mem_reverse.mp hd)) (by rw [List.length_reverse]; omega)
    ·exact okc_tup oks (by omega)
    ·exact okc_list (fun d hd=>by cases hd) (by decide)
    ·exact okc_flat f0_none nice_none (fun _ z=>by cases z)
    ·exact okc_flat (f0_str (by decide +kernel)) (nice_str (by decide +kernel)) (fun _ z=>by cases z)
    ·exact okc_sh smS
   ·exact hD _ _ ⟨.ref ls,.list ds,rfl,.lst hls nls ddp,okc_list oks (by omega),pu16⟩
  clear hls dd oks uln big4 pu16 ulm dl
  rintro σ H17 ⟨v,d,rfl,dv,ov,pu17⟩
  -- the number of things
  refine seq_byJ (t:=tIfS _ _ _) (fun σ' H'=>∃ u0 e0,σ'=[some (.ref a),some (.ref p),some (.int wy),some (.int n),some (.ref t),some v,v6,some (.int at'),some (.int ot),some u0,none,none,none,none]∧DT H' (·≠p) u0 e0∧OkS e0∧DT H' (·≠p) v d∧Pool H' p) (fun D' hD=>?_) ?_
  ·refine ⟨_,rfl,rfl,_,rfl,ite2 (fun c=>?_) (fun c=>?_)⟩
   ·have nlog:n.natAbs.log2<1920:=by
     have:n.natAbs<2 ^ 4:=by omega
     by_cases z:n.natAbs=0
     ·rw [z]; decide
     ·have:=(Nat.log2_lt z).mpr this; omega
    refine ⟨_,rfl,_,_,rfl,rfl,_,rfl,_,_,rfl,rfl,_,rfl,n,rfl,nlog,_,rfl,_,rfl,(by show 8≤sizeLine; decide),fun l21 f21=>?_⟩
    have z21:Same H17 (upd H17 l21 (.lst [.int (n+1),.int (n - 1),.int 0,.int 13,.bl true,.non,.str (Str.ofString (toString n)),.int (-n)])):=Same.new f21
    have h21:upd H17 l21 (.lst [.int (n+1),.int (n - 1),.int 0,.int 13,.bl true,.non,.str (Str.ofString (toString n)),.int (-n)]) l21=some (.lst [.int (n+1),.int (n - 1),.int 0,.int 13,.bl true,.non,.str (Str.ofString (toString n)),.int (-n)]):=upd_same
    have n21:l21≠p:=(pu17.ne f21).symm
    generalize upd H17 l21 (.lst [.int (n+1),.int (n - 1),.int 0,.int 13,.bl true,.non,.str (Str.ofString (toString n)),.int (-n)])=H21 at z21 h21 ⊢
    refine ⟨_,rfl,p,8,rfl,pu17.keep z21,by decide,by decide,fun r22 H22 r220 r221 pu22 s22=>?_⟩
    obtain ⟨u0,e0,hu0,du0,ou0⟩ : ∃ u0 d0,([.int (n+1),.int (n - 1),.int 0,.int 13,.bl true,.non,.str (Str.ofString (toString n)),.int (-n)] : List V)[r22.toNat]?=some u0∧(∀ (G:Hp) (P:Addr→Prop),DT G P u0 d0)∧OkS d0:=by
     have intL : ∀ {i:Int},i.natAbs<1000→OkS (.int i):=fun h=>oks_flat (f0_int h) (nice_int _) (fun _ z=>by cases z)
     have:r22.toNat=0∨r22.toNat=1∨r22.toNat=2∨r22.toNat=3∨r22.toNat=4∨r22.toNat=5∨r22.toNat=6∨r22.toNat=7:=by omega
     rcases this with e | e | e | e | e | e | e | e <;> rw [e]
     ·exact ⟨_,_,rfl,fun _ _=>.int _,intL (by omega)⟩
     ·exact ⟨_,_,rfl,fun _ _=>.int _,intL (by omega)⟩
     ·exact ⟨_,_,rfl,fun _ _=>.int _,intL (by decide)⟩
     ·exact ⟨_,_,rfl,fun _ _=>.int _,intL (by decide)⟩
     ·exact ⟨_,_,rfl,fun _ _=>.bl _,oks_flat (f0_bool _) (nice_bool _) (fun _ z=>by cases z)⟩
     ·exact ⟨_,_,rfl,fun _ _=>.non,oks_flat f0_none nice_none (fun _ z=>by cases z)⟩
     ·refine ⟨_,_,rfl,fun _ _=>.str _,fun _ z=>(by cases z),nice_str (str_small6 n1 n12),(fit_small6 n1 n12).1.mono (by decide),by unfold PyData.depth; omega⟩
     ·exact ⟨_,_,rfl,fun _ _=>.int _,intL (by omega)⟩
    refine ⟨l21,_,r22,u0,rfl,rfl,SqL.of (s22 _ _ n21 h21),at_refI r220 hu0,?_⟩
    have q22:SameX p H17 H22:=z21.x.trans s22
    exact hD _ _ ⟨u0,e0,rfl,du0 _ _,ou0,dv.keep fun b ob hb e=>q22 _ _ hb e,pu22⟩
   ·exact hD _ _ ⟨.int n,.int n,rfl,.int n,oks_flat (f0_int (by omega)) (nice_int _) (fun _ z=>by cases z),dv,pu17⟩
  clear dv pu17
  rintro σ H18 ⟨v0,c0,rfl,y0,o0',y1,pu18⟩
  refine ⟨_,rfl,_,rfl,v0,v,_,c0,d,rfl,y0,y1,ov.1,ov.2.1,ov.2.2.1,fun b H19 hb s19=>?_⟩
  refine ⟨_,rfl,_,rfl,(by show 3≤sizeLine; decide),fun tp ftp=>?_⟩
  have z20:Same H19 (upd H19 tp (.tup [.str "chain", v0,v])):=Same.new ftp
  have htp:upd H19 tp (.tup [.str "chain", v0,v]) tp=some (.tup [.str "chain", v0,v]):=upd_same
  have ptp:tp≠p:=((pu18.keep s19).ne ftp).symm
  generalize upd H19 tp (.tup [.str "chain", v0,v])=H20 at z20 htp ⊢
  have s20:=s19.trans z20
  have t0:=DT.same y0 s20
  have t1:=DT.same y1 s20
  have pu20:=pu18.keep s20
  have fw : ∀ {x:Str},Fit 10 (.str x)∧(PyData.str x).depth≤0→Fit 15000 (.str x)∧(PyData.str x).depth≤4:=fun h=>⟨h.1.mono (by decide),by omega⟩
  have f0:Fit 15000 c0∧c0.depth≤4:=⟨o0'.2.2.1.mono (by decide),by have:=o0'.2.2.2; omega⟩
  have f1:Fit 15000 d∧d.depth≤4:=ov.2.2.2
  have fn:Fit 15000 (.int n)∧(PyData.int n).depth≤4:=⟨(f0_int (i:=n) (by omega)).1.mono (by decide),by unfold PyData.depth; omega⟩
  have fnil:Fit 15000 (.list [])∧(PyData.list []).depth≤4:=(fun h:Fit 0 (.list [])∧(PyData.list []).depth≤1=>⟨h.1.mono (by decide),by omega⟩) (fit_list (k:=0) (B:=10) (ds:=[]) (by decide) fun d hd=>by cases hd)
  have fch:=fw (x := "chain") (f0_str (by decide +kernel))
  have fCh:=fw (x := "Chain") (f0_str (by decide +kernel))
  have few : ∀ ds:List PyData,ds.length≤6→(15000+1) * ds.length≤100000:=fun ds h=>by omega
  refine gNJ ?_
  dsimp only
  refine seq_byJ (t:=tIfS _ _ _) (fun σ' H'=>∃ pv d' b',σ'=[some (.ref a),some (.ref p),some (.int wy),some (.int n),some (.ref t),some v,v6,some (.int at'),some (.int ot),some v0,some (.bl b'),some pv,none,none]∧DT H' (·≠p) pv d'∧Fit 100000 d'∧(isPaper d'=true→R67 d')∧(isPaper d' && g67 d')=b') (fun D' hD=>?_) ?_
  ·refine ⟨_,rfl,rfl,_,rfl,ite2 (fun c=>?_) (fun c=>?_)⟩
   ·refine ⟨one,fun tw ftw=>?_⟩
    have hP : ∀ x,H20 x=none→x≠p:=fun x hx=>(pu20.ne hx).symm
    have zw:Same H20 (upd H20 tw (.tup [.str "Chain"])):=Same.new ftw
    have hw:upd H20 tw (.tup [.str "Chain"]) tw=some (.tup [.str "Chain"]):=upd_same
    generalize upd H20 tw (.tup [.str "Chain"])=J1 at zw hw ⊢
    refine ⟨_,rfl,1,rfl,?_⟩
    unfold tNoPart
    refine ⟨tp,_,rfl,SqT.of (zw _ _ htp),(by show ¬ (1=0∧_); omega),fun q1 fq1=>?_⟩
    have zq:Same J1 (upd J1 q1 (.tup [v0,v])):=Same.new fq1
    have hq1:upd J1 q1 (.tup [v0,v]) q1=some (.tup [v0,v]):=upd_same
    rw [show cutV [.str "chain", v0,v] (some 1) none=[v0,v] from rfl]
    generalize upd J1 q1 (.tup [v0,v])=J2 at zq hq1 ⊢
    refine ⟨tw,q1,_,_,rfl,rfl,SqT.of (zq _ _ hw),SqT.of hq1,(by intro z; cases z),(by show 1+2≤sizeLine; decide),(fun z=>by cases z),fun _ r1 fr1=>?_⟩
    have S2:=zw.trans zq
    obtain ⟨A3,S3⟩:=acc_tup hP S2 .nil fr1 (.cons (.str "Chain") (.cons (DT.same t0 S2) (.cons (DT.same t1 S2) .nil)))
    have er1:([V.str "Chain"]++[v0,v])=[.str "Chain", v0,v]:=rfl
    rw [er1]
    generalize upd J2 r1 (.tup [.str "Chain", v0,v])=J3 at A3 S3 ⊢
    refine ⟨_,rfl,2,rfl,tp,_,rfl,SqT.of (S3 _ _ htp),(by show ¬ (_∧2=3); omega),fun q2 fq2=>?_⟩
    rw [show cutV [.str "chain", v0,v] none (some 2)=[.str "chain", v0] from rfl]
    obtain ⟨A4,S4⟩:=acc_tup hP S3 A3 fq2 (.cons (.str "chain") (.cons (DT.same t0 S3) .nil))
    generalize upd J3 q2 (.tup [.str "chain", v0])=J4 at A4 S4 ⊢
    refine ⟨_,rfl,_,rfl,one,fun to fto=>?_⟩
    have z5:Same J4 (upd J4 to (.tup [.int n])):=Same.new fto
    have h5:upd J4 to (.tup [.int n]) to=some (.tup [.int n]):=upd_same
    generalize upd J4 to (.tup [.int n])=J5 at z5 h5 ⊢
    have S5:=S4.trans z5
    refine ⟨tp,to,_,_,rfl,rfl,SqT.of (S5 _ _ htp),SqT.of h5,(by intro z; cases z),(by show 3+1≤sizeLine; decide),(fun z=>by cases z),fun _ r2 fr2=>?_⟩
    have er2:([V.str "chain", v0,v]++[.int n])=[.str "chain", v0,v,.int n]:=rfl
    rw [er2]
    obtain ⟨A6,S6⟩:=acc_tup hP S5 (DTs.same A4 z5) fr2 (.cons (.str "chain") (.cons (DT.same t0 S5) (.cons (DT.same t1 S5) (.cons (.int n) .nil))))
    generalize upd J5 r2 (.tup [.str "chain", v0,v,.int n])=J6 at A6 S6 ⊢
    refine ⟨_,rfl,tp,_,rfl,.inr (SqT.of (S6 _ _ htp)),fun r3 fr3=>?_⟩
    obtain ⟨A7,S7⟩:=acc_lst hP S6 A6 fr3 (.cons (.str "chain") (.cons (DT.same t0 S6) (.cons (DT.same t1 S6) .nil)))
    generalize upd J6 r3 (.lst [.str "chain", v0,v])=J7 at A7 S7 ⊢
    refine ⟨Nat.zero_le _,fun ln fln=>?_⟩
    have z7:Same J7 (upd J7 ln (.lst [])):=Same.new fln
    have h7:upd J7 ln (.lst []) ln=some (.lst []):=upd_same
    have nln:ln≠p:=hP _ (S7.free fln)
    generalize upd J7 ln (.lst [])=J7' at z7 h7 ⊢
    refine ⟨one,fun tn ftn=>?_⟩
    have z8:Same J7' (upd J7' tn (.tup [.ref ln])):=Same.new ftn
    have h8:upd J7' tn (.tup [.ref ln]) tn=some (.tup [.ref ln]):=upd_same
    have h78:=z8 _ _ h7
    generalize upd J7' tn (.tup [.ref ln])=J8 at z8 h8 h78 ⊢
    have S8:=S7.trans (z7.trans z8)
    refine ⟨_,rfl,1,rfl,?_⟩
    try unfold tNoPart
    refine ⟨tp,_,rfl,SqT.of (S8 _ _ htp),(by show ¬ (1=0∧_); omega),fun q9 fq9=>?_⟩
    have z9:Same J8 (upd J8 q9 (.tup [v0,v])):=Same.new fq9
    have h9:upd J8 q9 (.tup [v0,v]) q9=some (.tup [v0,v]):=upd_same
    rw [show cutV [.str "chain", v0,v] (some 1) none=[v0,v] from rfl]
    generalize upd J8 q9 (.tup [v0,v])=J9 at z9 h9 ⊢
    refine ⟨tn,q9,_,_,rfl,rfl,SqT.of (z9 _ _ h8),SqT.of h9,(by intro z; cases z),(by show 1+2≤sizeLine; decide),(fun z=>by cases z),fun _ r4 fr4=>?_⟩
    have S9:=S8.trans z9
    obtain ⟨A10,S10⟩:=acc_tup hP S9 (DTs.same A7 ((z7.trans z8).trans z9)) fr4 (.cons (.lst (z9 _ _ h78) nln .nil) (.cons (DT.same t0 S9) (.cons (DT.same t1 S9) .nil)))
    have er3:([V.ref ln]++[v0,v])=[.ref ln,v0,v]:=rfl
    rw [er3]
    generalize upd J9 r4 (.tup [.ref ln,v0,v])=J10 at A10 S10 ⊢
    refine ⟨(by show 5≤sizeLine; decide),fun l8 f8=>?_⟩
    have z11:Same J10 (upd J10 l8 (.lst [.ref r1,.ref q2,.ref r2,.ref r3,.ref r4])):=Same.new f8
    have h11:upd J10 l8 (.lst [.ref r1,.ref q2,.ref r2,.ref r3,.ref r4]) l8=some (.lst [.ref r1,.ref q2,.ref r2,.ref r3,.ref r4]):=upd_same
    have n8:l8≠p:=hP _ (S10.free f8)
    have A11:=DTs.same A10 z11
    have S11:=S10.trans z11
    generalize upd J10 l8 (.lst [.ref r1,.ref q2,.ref r2,.ref r3,.ref r4])=J11 at A11 S11 h11 ⊢
    refine ⟨_,rfl,p,5,rfl,pu20.keep S11,by decide,by decide,fun r9 J12 r90 r91 pu9 s9=>?_⟩
    obtain ⟨u,hu⟩ : ∃ v,([.ref r1,.ref q2,.ref r2,.ref r3,.ref r4] : List V)[r9.toNat]?=some v:=⟨_,List.getElem?_eq_getElem (by show r9.toNat<5; omega)⟩
    refine ⟨l8,_,r9,u,rfl,rfl,SqL.of (s9 _ _ n8 h11),at_refI r90 hu,?_⟩
    obtain ⟨d',hd,hdt⟩:=(A11.keep fun b ob hb e=>s9 b ob hb e).get hu
    have fin : ∀ {d:PyData},DT J12 (·≠p) u d→Fit 100000 d→isPaper d=false→D'.nx [some (.ref a),some (.ref p),some (.int wy),some (.int n),some (.ref t),some v,v6,some (.int at'),some (.int ot),some v0,some (.bl false),some u,none,none] J12:=fun {d} h1 h2 h3=>hD _ _ ⟨u,d,false,rfl,h1,h2,(fun z=>(by rw [h3] at z; cases z)),(by rw [h3]; rfl)⟩
    have w5:numOf partsP "chain" = some 3:=by decide +kernel
    have nlen : ∀ (ds:List PyData),ds.length≠2→isPaper (.tuple (.str "chain" :: ds))=false:=fun ds h=>decide_eq_false (by rw [w5]; intro z; have:=Option.some.inj z; omega)
    have W5:numOf partsP "Chain" = none:=by decide +kernel
    have q2':=all2 (Q:=fun d=>Fit 15000 d∧d.depth≤4) f0 f1
    have qc : ∀ {e:PyData} {ds:List PyData},(Fit 15000 e∧e.depth≤4)→(∀ d∈ds,Fit 15000 d∧d.depth≤4)→∀ d∈e :: ds,Fit 15000 d∧d.depth≤4:=fun h1 h2 d hd=>by
     rcases List.mem_cons.mp hd with rfl | hd
     ·exact h1
     ·exact h2 d hd
    have c4:r9.toNat=0∨r9.toNat=1∨r9.toNat=2∨r9.toNat=3∨r9.toNat=4:=by omega
    rcases c4 with e | e | e | e | e <;> rw [e] at hd <;> injection hd with hd <;> subst hd
    ·exact fin hdt ((fit_tuple (k:=4) (by decide) (qc fCh q2')).1.mono (few _ (by show 3≤6; decide))) (nop6 W5 _)
    ·exact fin hdt ((fit_tuple (k:=4) (by decide) (qc fch (all1 (Q:=fun d=>Fit 15000 d∧d.depth≤4) f0))).1.mono (few _ (by show 2≤6; decide))) (nlen _ (by show 1≠2; decide))
    ·exact fin hdt ((fit_tuple (k:=4) (by decide) (qc fch (all3 (Q:=fun d=>Fit 15000 d∧d.depth≤4) f0 f1 fn))).1.mono (few _ (by show 4≤6; decide))) (nlen _ (by show 3≠2; decide))
    ·exact fin hdt ((fit_list (k:=4) (by decide) (qc fch q2')).1.mono (few _ (by show 3≤6; decide))) rfl
    ·exact fin hdt ((fit_tuple (k:=4) (by decide) (qc fnil q2')).1.mono (few _ (by show 3≤6; decide))) rfl
   ·refine hD _ _ ⟨.ref tp,.tuple [.str "chain", c0,d],b,rfl,.tup htp ptp (.cons (.str _) (.cons t0 (.cons t1 .nil))),(fit_tuple (k:=4) (by decide) (all3 (Q:=fun d=>Fit 15000 d∧d.depth≤4) fch f0 f1)).1.mono (few _ (by show 3≤6; decide)),fun _=>⟨c0,d,rfl,ov.1⟩,?_⟩
    have ip:isPaper (.tuple [.str "chain", c0,d])=true:=decide_eq_true (show numOf partsP "chain" = some 3 by decide +kernel)
    rw [ip,Bool.true_and]
    unfold g67
    rw [Bool.eq_iff_iff,@decide_eq_true_eq _ (Classical.propDecidable _)]
    exact hb.symm
  rintro σ H26 ⟨pv,d,b',rfl,dt,ft',hR,hg⟩
  refine ⟨_,rfl,pv,_,d,100000,rfl,dt.dat,ft',Nat.le_refl _,?_⟩
  refine ⟨_,rfl,pv,_,d,rfl,dt,hR,fun H27 s27=>?_⟩
  rw [hg]
  refine ⟨_,rfl,_,_, "bool", _,rfl,(DT.bl (H:=H27) (P:=fun _=>True) b').ty,kit_self _ _,true,rfl,iteT ?_⟩
  refine ⟨_,rfl,_,rfl,rfl,_,rfl,iteP (decide_eq_true rfl) ?_⟩
  refine ⟨_,rfl,pv,_,d,100000,rfl,(DT.same dt s27).dat,ft',Nat.le_refl _,_,rfl,rfl,?_⟩
  rw [decide_eq_true rfl]
  exact k H27
end
end Sw
namespace Sw
open PySem L2
section
variable {P:Program} {w:World} {K:PySem.W.Frag} {mg:Str→Option Value} {base:Heap}
theorem sc_is_whole:FnScope ["thing"] ["thing"] (defScope (top 6)):=⟨rfl,rfl,rfl,by decide +kernel,rfl,by decide +kernel,by decide +kernel⟩
theorem ok_iwD {f:Addr} {fd:FuncData} (F:Fun K "is_whole" "is_whole" (top 6) f fd) (T:T1 mg K) : FnOk P w K mg base CX0 1 f fd ["thing"] spIwD:=by
 refine F.ok sc_is_whole (fun vs H Q E h=>?_) (fun cdv A outer s H vs Q E hr h=>?_)
 ·obtain ⟨v,P,d,rfl,_⟩:=h
  rfl
 ·obtain ⟨v,P,d,rfl,hd,k⟩:=h
  refine ⟨_,(pss_one (ps_ret (pe_and (pe_callB (call_isiK (K:=K) rfl) rfl T.b_isinstance (by decide +kernel) (pa_cons (pv 0) (pa_cons (pe_bltn (v:=.ty "int") rfl T.b_int (by decide +kernel) rfl) pa_nil))) (pe_one (pe_not (pe_callB (call_isiK (K:=K) rfl) rfl T.b_isinstance (by decide +kernel) (pa_cons (pv 0) (pa_cons (pe_bltn (v:=.ty "bool") rfl T.b_bool (by decide +kernel) rfl) pa_nil)))))))),?_⟩
  refine ⟨_,rfl,_,_, "int", _,rfl,hd.ty,kit_int K hd,_,rfl,ite2 (fun c=>?_) (fun c=>?_)⟩
  ·refine ⟨_,rfl,_,_, "bool", _,rfl,hd.ty,kit_bool K hd,_,rfl,?_⟩
   cases hd <;> first | exact k | exact absurd c Bool.false_ne_true
  ·cases hd <;> first | exact k | exact absurd rfl c
theorem sc_is_between:FnScope ["thing", "low", "high"] ["thing", "low", "high"] (defScope (top 7)):=⟨rfl,rfl,rfl,by decide +kernel,rfl,by decide +kernel,by decide +kernel⟩
theorem ok_btD {f:Addr} {fd:FuncData} (F:Fun K "is_between" "is_between" (top 7) f fd) (T:TD P w K mg base) : FnOk P w K mg base CX0 2 f fd ["thing", "low", "high"] spBtD:=by
 refine F.ok sc_is_between (fun vs H Q E h=>?_) (fun cdv A outer s H vs Q E hr h=>?_)
 ·obtain ⟨v,P,d,lo,hi,rfl,_⟩:=h
  rfl
 ·obtain ⟨v,P,d,lo,hi,rfl,hd,k⟩:=h
  refine ⟨_,(pss_one (ps_ret (pe_and (pe_callF T.f_is_whole (hr.mono (by first | decide | omega)) rfl (pa_cons (pv 0) pa_nil)) (pe_one (pe_chain op_le op_le (pv 1) (pv 0) (pv 2)))))),?_⟩
  refine ⟨_,rfl,v,P,d,rfl,hd,_,rfl,?_⟩
  cases hd with
  | int x =>
   refine iteT ?_
   refine ⟨_,rfl,_,rfl,_,_,rfl,rfl,_,rfl,ite2 (fun c=>?_) (fun c=>?_)⟩
   ·have c:lo≤x:=of_decide_eq_true c
    have e:btw lo hi (.int x)=decide (x≤hi):=by show decide (lo≤x∧x≤hi)=_; rw [Bool.eq_iff_iff]; simp [c]
    rw [e] at k
    exact ⟨_,rfl,_,_,rfl,rfl,k⟩
   ·have c : ¬ lo≤x:=of_decide_eq_false (by simpa using c)
    have e:btw lo hi (.int x)=false:=by show decide (lo≤x∧x≤hi)=_; simp [c]
    rw [e] at k
    exact k
  | _=>exact iteF k
end
end Sw
namespace Sw
open PySem L2
theorem all_mk {l:PySem.W.OpenLaw} {w:World} {K:PySem.W.Frag} {h:Heap} {mg:Str→Option Value} {fa:Addr} {tk_MOST_THINGS:Tok} {U:Addr} {ta0 tb0 ta1 tb1 ta2 tb2 ta3 tb3 ta4 tb4 ta5 tb5:Tok} {ep:Nat} (X:K.In h) (G:h.Ns mainGlobals mg) (hfa:mg "law" = some (.ref fa))
  {f0:Addr} {od0 an0:Option Addr} {sl0:Array (Option Value)} {oc0 kV0 dc0 pm0 cd0 ct0:Value}
  {f1:Addr} {od1 an1:Option Addr} {sl1:Array (Option Value)} {oc1 kV1 dc1 pm1 cd1 ct1:Value}
  {f2:Addr} {od2 an2:Option Addr} {sl2:Array (Option Value)} {oc2 kV2 dc2 pm2 cd2 ct2:Value}
  {f3:Addr} {od3 an3:Option Addr} {sl3:Array (Option Value)} {oc3 kV3 dc3 pm3 cd3 ct3:Value}
  {f4:Addr} {od4 an4:Option Addr} {sl4:Array (Option Value)} {oc4 kV4 dc4 pm4 cd4 ct4:Value}
  {f5:Addr} {od5 an5:Option Addr} {sl5:Array (Option Value)} {oc5 kV5 dc5 pm5 cd5 ct5:Value}
  {f6:Addr} {od6 an6:Option Addr} {sl6:Array (Option Value)} {oc6 kV6 dc6 pm6 cd6 ct6:Value}
  {f7:Addr} {od7 an7:Option Addr} {sl7:Array (Option Value)} {oc7 kV7 dc7 pm7 cd7 ct7:Value}
  {f8:Addr} {od8 an8:Option Addr} {sl8:Array (Option Value)} {oc8 kV8 dc8 pm8 cd8 ct8:Value}
  {f9:Addr} {od9 an9:Option Addr} {sl9:Array (Option Value)} {oc9 kV9 dc9 pm9 cd9 ct9:Value}
  {f10:Addr} {od10 an10:Option Addr} {sl10:Array (Option Value)} {oc10 kV10 dc10 pm10 cd10 ct10:Value}
  {f11:Addr} {od11 an11:Option Addr} {sl11:Array (Option Value)} {oc11 kV11 dc11 pm11 cd11 ct11:Value}
  {f12:Addr} {od12 an12:Option Addr} {sl12:Array (Option Value)} {oc12 kV12 dc12 pm12 cd12 ct12:Value}
  {f13:Addr} {od13 an13:Option Addr} {sl13:Array (Option Value)} {oc13 kV13 dc13 pm13 cd13 ct13:Value}
  {f14:Addr} {od14 an14:Option Addr} {sl14:Array (Option Value)} {oc14 kV14 dc14 pm14 cd14 ct14:Value}
  {f15:Addr} {od15 an15:Option Addr} {sl15:Array (Option Value)} {oc15 kV15 dc15 pm15 cd15 ct15:Value}
  {f16:Addr} {od16 an16:Option Addr} {sl16:Array (Option Value)} {oc16 kV16 dc16 pm16 cd16 ct16:Value}
  {f17:Addr} {od17 an17:Option Addr} {sl17:Array (Option Value)} {oc17 kV17 dc17 pm17 cd17 ct17:Value}
  {f18:Addr} {od18 an18:Option Addr} {sl18:Array (Option Value)} {oc18 kV18 dc18 pm18 cd18 ct18:Value}
  {f19:Addr} {od19 an19:Option Addr} {sl19:Array (Option Value)} {oc19 kV19 dc19 pm19 cd19 ct19:Value}
  {f20:Addr} {od20 an20:Option Addr} {sl20:Array (Option Value)} {oc20 kV20 dc20 pm20 cd20 ct20:Value}
  {f21:Addr} {od21 an21:Option Addr} {sl21:Array (Option Value)} {oc21 kV21 dc21 pm21 cd21 ct21:Value}
  {f22:Addr} {od22 an22:Option Addr} {sl22:Array (Option Value)} {oc22 kV22 dc22 pm22 cd22 ct22:Value}
  {f23:Addr} {od23 an23:Option Addr} {sl23:Array (Option Value)} {oc23 kV23 dc23 pm23 cd23 ct23:Value}
  {f24:Addr} {od24 an24:Option Addr} {sl24:Array (Option Value)} {oc24 kV24 dc24 pm24 cd24 ct24:Value}
  {f25:Addr} {od25 an25:Option Addr} {sl25:Array (Option Value)} {oc25 kV25 dc25 pm25 cd25 ct25:Value}
  {f26:Addr} {od26 an26:Option Addr} {sl26:Array (Option Value)} {oc26 kV26 dc26 pm26 cd26 ct26:Value}
  {f27:Addr} {od27 an27:Option Addr} {sl27:Array (Option Value)} {oc27 kV27 dc27 pm27 cd27 ct27:Value}
  {f28:Addr} {od28 an28:Option Addr} {sl28:Array (Option Value)} {oc28 kV28 dc28 pm28 cd28 ct28:Value}
  {f29:Addr} {od29 an29:Option Addr} {sl29:Array (Option Value)} {oc29 kV29 dc29 pm29 cd29 ct29:Value}
  {f30:Addr} {od30 an30:Option Addr} {sl30:Array (Option Value)} {oc30 kV30 dc30 pm30 cd30 ct30:Value}
  {f31:Addr} {od31 an31:Option Addr} {sl31:Array (Option Value)} {oc31 kV31 dc31 pm31 cd31 ct31:Value}
  {f32:Addr} {od32 an32:Option Addr} {sl32:Array (Option Value)} {oc32 kV32 dc32 pm32 cd32 ct32:Value}
  (a0:PySem.W.nsIn K mainGlobals "is_whole" = some (some (.ref f0))) (l0:K.lookup f0=some ⟨oc0,od0,.func (PySem.W.fnOf "is_whole" "is_whole" (defArgs (top 6)) (defBody (top 6)) (defScope (top 6)) .none kV0 dc0 pm0 an0 cd0 ct0),sl0⟩) (c0:PySem.W.codeIn K cd0 "is_whole" = true) (k0:PySem.W.keepIn K (.ref f0)=true)
  (a1:PySem.W.nsIn K mainGlobals "is_between" = some (some (.ref f1))) (l1:K.lookup f1=some ⟨oc1,od1,.func (PySem.W.fnOf "is_between" "is_between" (defArgs (top 7)) (defBody (top 7)) (defScope (top 7)) .none kV1 dc1 pm1 an1 cd1 ct1),sl1⟩) (c1:PySem.W.codeIn K cd1 "is_between" = true) (k1:PySem.W.keepIn K (.ref f1)=true)
  (a2:PySem.W.nsIn K mainGlobals "is_part" = some (some (.ref f2))) (l2:K.lookup f2=some ⟨oc2,od2,.func (PySem.W.fnOf "is_part" "is_part" (defArgs (top 40)) (defBody (top 40)) (defScope (top 40)) .none kV2 dc2 pm2 an2 cd2 ct2),sl2⟩) (c2:PySem.W.codeIn K cd2 "is_part" = true) (k2:PySem.W.keepIn K (.ref f2)=true)
  (a3:PySem.W.nsIn K mainGlobals "crosses" = some (some (.ref f3))) (l3:K.lookup f3=some ⟨oc3,od3,.func (PySem.W.fnOf "crosses" "crosses" (defArgs (top 41)) (defBody (top 41)) (defScope (top 41)) .none kV3 dc3 pm3 an3 cd3 ct3),sl3⟩) (c3:PySem.W.codeIn K cd3 "crosses" = true) (k3:PySem.W.keepIn K (.ref f3)=true)
  (a4:PySem.W.nsIn K mainGlobals "is_crossed" = some (some (.ref f4))) (l4:K.lookup f4=some ⟨oc4,od4,.func (PySem.W.fnOf "is_crossed" "is_crossed" (defArgs (top 42)) (defBody (top 42)) (defScope (top 42)) .none kV4 dc4 pm4 an4 cd4 ct4),sl4⟩) (c4:PySem.W.codeIn K cd4 "is_crossed" = true) (k4:PySem.W.keepIn K (.ref f4)=true)
  (a5:PySem.W.nsIn K mainGlobals "is_sharing" = some (some (.ref f5))) (l5:K.lookup f5=some ⟨oc5,od5,.func (PySem.W.fnOf "is_sharing" "is_sharing" (defArgs (top 43)) (defBody (top 43)) (defScope (top 43)) .none kV5 dc5 pm5 an5 cd5 ct5),sl5⟩) (c5:PySem.W.codeIn K cd5 "is_sharing" = true) (k5:PySem.W.keepIn K (.ref f5)=true)
  (a6:PySem.W.nsIn K mainGlobals "many_things" = some (some (.ref f6))) (l6:K.lookup f6=some ⟨oc6,od6,.func (PySem.W.fnOf "many_things" "many_things" (defArgs (top 44)) (defBody (top 44)) (defScope (top 44)) .none kV6 dc6 pm6 an6 cd6 ct6),sl6⟩) (c6:PySem.W.codeIn K cd6 "many_things" = true) (k6:PySem.W.keepIn K (.ref f6)=true)
  (a7:PySem.W.nsIn K mainGlobals "is_inside" = some (some (.ref f7))) (l7:K.lookup f7=some ⟨oc7,od7,.func (PySem.W.fnOf "is_inside" "is_inside" (defArgs (top 46)) (defBody (top 46)) (defScope (top 46)) .none kV7 dc7 pm7 an7 cd7 ct7),sl7⟩) (c7:PySem.W.codeIn K cd7 "is_inside" = true) (k7:PySem.W.keepIn K (.ref f7)=true)
  (a8:PySem.W.nsIn K mainGlobals "within" = some (some (.ref f8))) (l8:K.lookup f8=some ⟨oc8,od8,.func (PySem.W.fnOf "within" "within" (defArgs (top 47)) (defBody (top 47)) (defScope (top 47)) .none kV8 dc8 pm8 an8 cd8 ct8),sl8⟩) (c8:PySem.W.codeIn K cd8 "within" = true) (k8:PySem.W.keepIn K (.ref f8)=true)
  (a9:PySem.W.nsIn K mainGlobals "joins_two" = some (some (.ref f9))) (l9:K.lookup f9=some ⟨oc9,od9,.func (PySem.W.fnOf "joins_two" "joins_two" (defArgs (top 48)) (defBody (top 48)) (defScope (top 48)) .none kV9 dc9 pm9 an9 cd9 ct9),sl9⟩) (c9:PySem.W.codeIn K cd9 "joins_two" = true) (k9:PySem.W.keepIn K (.ref f9)=true)
  (a10:PySem.W.nsIn K mainGlobals "is_chain" = some (some (.ref f10))) (l10:K.lookup f10=some ⟨oc10,od10,.func (PySem.W.fnOf "is_chain" "is_chain" (defArgs (top 49)) (defBody (top 49)) (defScope (top 49)) .none kV10 dc10 pm10 an10 cd10 ct10),sl10⟩) (c10:PySem.W.codeIn K cd10 "is_chain" = true) (k10:PySem.W.keepIn K (.ref f10)=true)
  (a11:PySem.W.nsIn K mainGlobals "row_holds" = some (some (.ref f11))) (l11:K.lookup f11=some ⟨oc11,od11,.func (PySem.W.fnOf "row_holds" "row_holds" (defArgs (top 52)) (defBody (top 52)) (defScope (top 52)) .none kV11 dc11 pm11 an11 cd11 ct11),sl11⟩) (c11:PySem.W.codeIn K cd11 "row_holds" = true) (k11:PySem.W.keepIn K (.ref f11)=true)
  (a12:PySem.W.nsIn K mainGlobals "least_holds" = some (some (.ref f12))) (l12:K.lookup f12=some ⟨oc12,od12,.func (PySem.W.fnOf "least_holds" "least_holds" (defArgs (top 53)) (defBody (top 53)) (defScope (top 53)) .none kV12 dc12 pm12 an12 cd12 ct12),sl12⟩) (c12:PySem.W.codeIn K cd12 "least_holds" = true) (k12:PySem.W.keepIn K (.ref f12)=true)
  (a13:PySem.W.nsIn K mainGlobals "walk_holds" = some (some (.ref f13))) (l13:K.lookup f13=some ⟨oc13,od13,.func (PySem.W.fnOf "walk_holds" "walk_holds" (defArgs (top 56)) (defBody (top 56)) (defScope (top 56)) .none kV13 dc13 pm13 an13 cd13 ct13),sl13⟩) (c13:PySem.W.codeIn K cd13 "walk_holds" = true) (k13:PySem.W.keepIn K (.ref f13)=true)
  (a14:PySem.W.nsIn K mainGlobals "half_holds" = some (some (.ref f14))) (l14:K.lookup f14=some ⟨oc14,od14,.func (PySem.W.fnOf "half_holds" "half_holds" (defArgs (top 57)) (defBody (top 57)) (defScope (top 57)) .none kV14 dc14 pm14 an14 cd14 ct14),sl14⟩) (c14:PySem.W.codeIn K cd14 "half_holds" = true) (k14:PySem.W.keepIn K (.ref f14)=true)
  (a15:PySem.W.nsIn K mainGlobals "chain_holds" = some (some (.ref f15))) (l15:K.lookup f15=some ⟨oc15,od15,.func (PySem.W.fnOf "chain_holds" "chain_holds" (defArgs (top 58)) (defBody (top 58)) (defScope (top 58)) .none kV15 dc15 pm15 an15 cd15 ct15),sl15⟩) (c15:PySem.W.codeIn K cd15 "chain_holds" = true) (k15:PySem.W.keepIn K (.ref f15)=true)
  (a16:PySem.W.nsIn K mainGlobals "counts_hold" = some (some (.ref f16))) (l16:K.lookup f16=some ⟨oc16,od16,.func (PySem.W.fnOf "counts_hold" "counts_hold" (defArgs (top 60)) (defBody (top 60)) (defScope (top 60)) .none kV16 dc16 pm16 an16 cd16 ct16),sl16⟩) (c16:PySem.W.codeIn K cd16 "counts_hold" = true) (k16:PySem.W.keepIn K (.ref f16)=true)
  (a17:PySem.W.nsIn K mainGlobals "paper_holds" = some (some (.ref f17))) (l17:K.lookup f17=some ⟨oc17,od17,.func (PySem.W.fnOf "paper_holds" "paper_holds" (defArgs (top 61)) (defBody (top 61)) (defScope (top 61)) .none kV17 dc17 pm17 an17 cd17 ct17),sl17⟩) (c17:PySem.W.codeIn K cd17 "paper_holds" = true) (k17:PySem.W.keepIn K (.ref f17)=true)
  (a18:PySem.W.nsIn K mainGlobals "holds" = some (some (.ref f18))) (l18:K.lookup f18=some ⟨oc18,od18,.func (PySem.W.fnOf "holds" "holds" (defArgs (top 62)) (defBody (top 62)) (defScope (top 62)) .none kV18 dc18 pm18 an18 cd18 ct18),sl18⟩) (c18:PySem.W.codeIn K cd18 "holds" = true) (k18:PySem.W.keepIn K (.ref f18)=true)
  (a19:PySem.W.nsIn K mainGlobals "_law_pool" = some (some (.ref f19))) (l19:K.lookup f19=some ⟨oc19,od19,.func (PySem.W.fnOf "_law_pool" "_law_pool" (defArgs (top 64)) (defBody (top 64)) (defScope (top 64)) .none kV19 dc19 pm19 an19 cd19 ct19),sl19⟩) (c19:PySem.W.codeIn K cd19 "_law_pool" = true) (k19:PySem.W.keepIn K (.ref f19)=true)
  (a20:PySem.W.nsIn K mainGlobals "_law_take" = some (some (.ref f20))) (l20:K.lookup f20=some ⟨oc20,od20,.func (PySem.W.fnOf "_law_take" "_law_take" (defArgs (top 65)) (defBody (top 65)) (defScope (top 65)) .none kV20 dc20 pm20 an20 cd20 ct20),sl20⟩) (c20:PySem.W.codeIn K cd20 "_law_take" = true) (k20:PySem.W.keepIn K (.ref f20)=true)
  (a21:PySem.W.nsIn K mainGlobals "_law_whole" = some (some (.ref f21))) (l21:K.lookup f21=some ⟨oc21,od21,.func (PySem.W.fnOf "_law_whole" "_law_whole" (defArgs (top 66)) (defBody (top 66)) (defScope (top 66)) .none kV21 dc21 pm21 an21 cd21 ct21),sl21⟩) (c21:PySem.W.codeIn K cd21 "_law_whole" = true) (k21:PySem.W.keepIn K (.ref f21)=true)
  (a22:PySem.W.nsIn K mainGlobals "_law_then" = some (some (.ref f22))) (l22:K.lookup f22=some ⟨oc22,od22,.func (PySem.W.fnOf "_law_then" "_law_then" (defArgs (top 67)) (defBody (top 67)) (defScope (top 67)) .none kV22 dc22 pm22 an22 cd22 ct22),sl22⟩) (c22:PySem.W.codeIn K cd22 "_law_then" = true) (k22:PySem.W.keepIn K (.ref f22)=true)
  (a23:PySem.W.nsIn K mainGlobals "_law_rounds" = some (some (.ref f23))) (l23:K.lookup f23=some ⟨oc23,od23,.func (PySem.W.fnOf "_law_rounds" "_law_rounds" (defArgs (top 68)) (defBody (top 68)) (defScope (top 68)) .none kV23 dc23 pm23 an23 cd23 ct23),sl23⟩) (c23:PySem.W.codeIn K cd23 "_law_rounds" = true) (k23:PySem.W.keepIn K (.ref f23)=true)
  (a24:PySem.W.nsIn K mainGlobals "_law_cut_by" = some (some (.ref f24))) (l24:K.lookup f24=some ⟨oc24,od24,.func (PySem.W.fnOf "_law_cut_by" "_law_cut_by" (defArgs (top 69)) (defBody (top 69)) (defScope (top 69)) .none kV24 dc24 pm24 an24 cd24 ct24),sl24⟩) (c24:PySem.W.codeIn K cd24 "_law_cut_by" = true) (k24:PySem.W.keepIn K (.ref f24)=true)
  (a25:PySem.W.nsIn K mainGlobals "_law_crosses" = some (some (.ref f25))) (l25:K.lookup f25=some ⟨oc25,od25,.func (PySem.W.fnOf "_law_crosses" "_law_crosses" (defArgs (top 70)) (defBody (top 70)) (defScope (top 70)) .none kV25 dc25 pm25 an25 cd25 ct25),sl25⟩) (c25:PySem.W.codeIn K cd25 "_law_crosses" = true) (k25:PySem.W.keepIn K (.ref f25)=true)
  (a26:PySem.W.nsIn K mainGlobals "_law_is_part" = some (some (.ref f26))) (l26:K.lookup f26=some ⟨oc26,od26,.func (PySem.W.fnOf "_law_is_part" "_law_is_part" (defArgs (top 71)) (defBody (top 71)) (defScope (top 71)) .none kV26 dc26 pm26 an26 cd26 ct26),sl26⟩) (c26:PySem.W.codeIn K cd26 "_law_is_part" = true) (k26:PySem.W.keepIn K (.ref f26)=true)
  (a27:PySem.W.nsIn K mainGlobals "_law_is_sharing" = some (some (.ref f27))) (l27:K.lookup f27=some ⟨oc27,od27,.func (PySem.W.fnOf "_law_is_sharing" "_law_is_sharing" (defArgs (top 72)) (defBody (top 72)) (defScope (top 72)) .none kV27 dc27 pm27 an27 cd27 ct27),sl27⟩) (c27:PySem.W.codeIn K cd27 "_law_is_sharing" = true) (k27:PySem.W.keepIn K (.ref f27)=true)
  (a28:PySem.W.nsIn K mainGlobals "_law_spoilt_sharing" = some (some (.ref f28))) (l28:K.lookup f28=some ⟨oc28,od28,.func (PySem.W.fnOf "_law_spoilt_sharing" "_law_spoilt_sharing" (defArgs (top 73)) (defBody (top 73)) (defScope (top 73)) .none kV28 dc28 pm28 an28 cd28 ct28),sl28⟩) (c28:PySem.W.codeIn K cd28 "_law_spoilt_sharing" = true) (k28:PySem.W.keepIn K (.ref f28)=true)
  (a29:PySem.W.nsIn K mainGlobals "_law_is_size" = some (some (.ref f29))) (l29:K.lookup f29=some ⟨oc29,od29,.func (PySem.W.fnOf "_law_is_size" "_law_is_size" (defArgs (top 74)) (defBody (top 74)) (defScope (top 74)) .none kV29 dc29 pm29 an29 cd29 ct29),sl29⟩) (c29:PySem.W.codeIn K cd29 "_law_is_size" = true) (k29:PySem.W.keepIn K (.ref f29)=true)
  (a30:PySem.W.nsIn K mainGlobals "_law_joins" = some (some (.ref f30))) (l30:K.lookup f30=some ⟨oc30,od30,.func (PySem.W.fnOf "_law_joins" "_law_joins" (defArgs (top 75)) (defBody (top 75)) (defScope (top 75)) .none kV30 dc30 pm30 an30 cd30 ct30),sl30⟩) (c30:PySem.W.codeIn K cd30 "_law_joins" = true) (k30:PySem.W.keepIn K (.ref f30)=true)
  (a31:PySem.W.nsIn K mainGlobals "_law_due" = some (some (.ref f31))) (l31:K.lookup f31=some ⟨oc31,od31,.func (PySem.W.fnOf "_law_due" "_law_due" (defArgs (top 76)) (defBody (top 76)) (defScope (top 76)) .none kV31 dc31 pm31 an31 cd31 ct31),sl31⟩) (c31:PySem.W.codeIn K cd31 "_law_due" = true) (k31:PySem.W.keepIn K (.ref f31)=true)
  (a32:PySem.W.nsIn K mainGlobals "law" = some (some (.ref f32))) (l32:K.lookup f32=some ⟨oc32,od32,.func (PySem.W.fnOf "law" "law" (defArgs (top 77)) (defBody (top 77)) (defScope (top 77)) .none kV32 dc32 pm32 an32 cd32 ct32),sl32⟩) (c32:PySem.W.codeIn K cd32 "law" = true) (k32:PySem.W.keepIn K (.ref f32)=true)
  (z_len:PySem.W.nsIn K mainGlobals "len" = some none)
  (z_abs:PySem.W.nsIn K mainGlobals "abs" = some none)
  (z_int:PySem.W.nsIn K mainGlobals "int" = some none)
  (z_all:PySem.W.nsIn K mainGlobals "all" = some none)
  (z_any:PySem.W.nsIn K mainGlobals "any" = some none)
  (z_isinstance:PySem.W.nsIn K mainGlobals "isinstance" = some none)
  (z_bool:PySem.W.nsIn K mainGlobals "bool" = some none)
  (z_tuple:PySem.W.nsIn K mainGlobals "tuple" = some none)
  (z_list:PySem.W.nsIn K mainGlobals "list" = some none)
  (z_range:PySem.W.nsIn K mainGlobals "range" = some none)
  (z_min:PySem.W.nsIn K mainGlobals "min" = some none)
  (z_max:PySem.W.nsIn K mainGlobals "max" = some none)
  (z_sorted:PySem.W.nsIn K mainGlobals "sorted" = some none)
  (z_set:PySem.W.nsIn K mainGlobals "set" = some none)
  (z_sum:PySem.W.nsIn K mainGlobals "sum" = some none)
  (z_zip:PySem.W.nsIn K mainGlobals "zip" = some none)
  (z_str:PySem.W.nsIn K mainGlobals "str" = some none)
  (z_repr:PySem.W.nsIn K mainGlobals "repr" = some none)
  (ag_MOST_THINGS:PySem.W.nsIn K mainGlobals "MOST_THINGS" = some (some (.int 12 tk_MOST_THINGS)))
  (au:PySem.W.nsIn K mainGlobals "PARTS_OF_PAPERS" = some (some (.ref U)))
  (lu:K.lookup U=some { cls:=.type "dict", data:=.dict [{ hash:=PyData.keyHash w.params (Str.ofString "row"),key:=.str (Str.ofString "row") ta0,val:=.int 3 tb0 },{ hash:=PyData.keyHash w.params (Str.ofString "least"),key:=.str (Str.ofString "least") ta1,val:=.int 3 tb1 },{ hash:=PyData.keyHash w.params (Str.ofString "walk"),key:=.str (Str.ofString "walk") ta2,val:=.int 5 tb2 },{ hash:=PyData.keyHash w.params (Str.ofString "half"),key:=.str (Str.ofString "half") ta3,val:=.int 4 tb3 },{ hash:=PyData.keyHash w.params (Str.ofString "chain"),key:=.str (Str.ofString "chain") ta4,val:=.int 3 tb4 },{ hash:=PyData.keyHash w.params (Str.ofString "counts"),key:=.str (Str.ofString "counts") ta5,val:=.int 3 tb5 }].toArray ep })
  (su:(U == sysModules)=false)
  (kib:PySem.W.kitOne K (.type "int") (.type "bool")=some false) :
  ∃ fd:FuncData,(∀ (s:Shared) (v:Value),BindsTo s fd ⟨[v],[]⟩ [("_law_script", v)])∧∀ base:Heap,K.In base→base.Ns mainGlobals mg→FnOk l.prog w K mg base CX0 11 fa fd ["_law_script"] (spLaw K):=by
 have F_is_whole:=fun_mk (st:=top 6) l0 c0 k0
 have b_is_whole:=F_is_whole.binds (ps:=["thing"]) fun _ _ _ _ _ _ us hl=>match us,hl with | [_],_=>rfl
 have m_is_whole:=PySem.W.mg_of X G a0
 have F_is_between:=fun_mk (st:=top 7) l1 c1 k1
 have b_is_between:=F_is_between.binds (ps:=["thing", "low", "high"]) fun _ _ _ _ _ _ us hl=>match us,hl with | [_,_,_],_=>rfl
 have m_is_between:=PySem.W.mg_of X G a1
 have F_is_part:=fun_mk (st:=top 40) l2 c2 k2
 have b_is_part:=F_is_part.binds (ps:=["n", "thing"]) fun _ _ _ _ _ _ us hl=>match us,hl with | [_,_],_=>rfl
 have m_is_part:=PySem.W.mg_of X G a2
 have F_crosses:=fun_mk (st:=top 41) l3 c3 k3
 have b_crosses:=F_crosses.binds (ps:=["one", "other"]) fun _ _ _ _ _ _ us hl=>match us,hl with | [_,_],_=>rfl
 have m_crosses:=PySem.W.mg_of X G a3
 have F_is_crossed:=fun_mk (st:=top 42) l4 c4 k4
 have b_is_crossed:=F_is_crossed.binds (ps:=["sharing"]) fun _ _ _ _ _ _ us hl=>match us,hl with | [_],_=>rfl
 have m_is_crossed:=PySem.W.mg_of X G a4
 have F_is_sharing:=fun_mk (st:=top 43) l5 c5 k5
 have b_is_sharing:=F_is_sharing.binds (ps:=["n", "thing"]) fun _ _ _ _ _ _ us hl=>match us,hl with | [_,_],_=>rfl
 have m_is_sharing:=PySem.W.mg_of X G a5
 have F_many_things:=fun_mk (st:=top 44) l6 c6 k6
 have b_many_things:=F_many_things.binds (ps:=["sharing"]) fun _ _ _ _ _ _ us hl=>match us,hl with | [_],_=>rfl
 have m_many_things:=PySem.W.mg_of X G a6
 have F_is_inside:=fun_mk (st:=top 46) l7 c7 k7
 have b_is_inside:=F_is_inside.binds (ps:=["part", "other"]) fun _ _ _ _ _ _ us hl=>match us,hl with | [_,_],_=>rfl
 have m_is_inside:=PySem.W.mg_of X G a7
 have F_within:=fun_mk (st:=top 47) l8 c8 k8
 have b_within:=F_within.binds (ps:=["one", "other"]) fun _ _ _ _ _ _ us hl=>match us,hl with | [_,_],_=>rfl
 have m_within:=PySem.W.mg_of X G a8
 have F_joins_two:=fun_mk (st:=top 48) l9 c9 k9
 have b_joins_two:=F_joins_two.binds (ps:=["one", "other"]) fun _ _ _ _ _ _ us hl=>match us,hl with | [_,_],_=>rfl
 have m_joins_two:=PySem.W.mg_of X G a9
 have F_is_chain:=fun_mk (st:=top 49) l10 c10 k10
 have b_is_chain:=F_is_chain.binds (ps:=["chain"]) fun _ _ _ _ _ _ us hl=>match us,hl with | [_],_=>rfl
 have m_is_chain:=PySem.W.mg_of X G a10
 have F_row_holds:=fun_mk (st:=top 52) l11 c11 k11
 have b_row_holds:=F_row_holds.binds (ps:=["order", "row"]) fun _ _ _ _ _ _ us hl=>match us,hl with | [_,_],_=>rfl
 have m_row_holds:=PySem.W.mg_of X G a11
 have F_least_holds:=fun_mk (st:=top 53) l12 c12 k12
 have b_least_holds:=F_least_holds.binds (ps:=["order", "row"]) fun _ _ _ _ _ _ us hl=>match us,hl with | [_,_],_=>rfl
 have m_least_holds:=PySem.W.mg_of X G a12
 have F_walk_holds:=fun_mk (st:=top 56) l13 c13 k13
 have b_walk_holds:=F_walk_holds.binds (ps:=["n", "one", "moves", "other"]) fun _ _ _ _ _ _ us hl=>match us,hl with | [_,_,_,_],_=>rfl
 have m_walk_holds:=PySem.W.mg_of X G a13
 have F_half_holds:=fun_mk (st:=top 57) l14 c14 k14
 have b_half_holds:=F_half_holds.binds (ps:=["n", "one", "other"]) fun _ _ _ _ _ _ us hl=>match us,hl with | [_,_,_],_=>rfl
 have m_half_holds:=PySem.W.mg_of X G a14
 have F_chain_holds:=fun_mk (st:=top 58) l15 c15 k15
 have b_chain_holds:=F_chain_holds.binds (ps:=["n", "sharings"]) fun _ _ _ _ _ _ us hl=>match us,hl with | [_,_],_=>rfl
 have m_chain_holds:=PySem.W.mg_of X G a15
 have F_counts_hold:=fun_mk (st:=top 60) l16 c16 k16
 have b_counts_hold:=F_counts_hold.binds (ps:=["n", "lists"]) fun _ _ _ _ _ _ us hl=>match us,hl with | [_,_],_=>rfl
 have m_counts_hold:=PySem.W.mg_of X G a16
 have F_paper_holds:=fun_mk (st:=top 61) l17 c17 k17
 have b_paper_holds:=F_paper_holds.binds (ps:=["word", "paper"]) fun _ _ _ _ _ _ us hl=>match us,hl with | [_,_],_=>rfl
 have m_paper_holds:=PySem.W.mg_of X G a17
 have F_holds:=fun_mk (st:=top 62) l18 c18 k18
 have b_holds:=F_holds.binds (ps:=["paper"]) fun _ _ _ _ _ _ us hl=>match us,hl with | [_],_=>rfl
 have m_holds:=PySem.W.mg_of X G a18
 have F__law_pool:=fun_mk (st:=top 64) l19 c19 k19
 have b__law_pool:=F__law_pool.binds (ps:=["_law_script", "_law_at"]) fun _ _ _ _ _ _ us hl=>match us,hl with | [_,_],_=>rfl
 have m__law_pool:=PySem.W.mg_of X G a19
 have F__law_take:=fun_mk (st:=top 65) l20 c20 k20
 have b__law_take:=F__law_take.binds (ps:=["_law_pool_here", "_law_many"]) fun _ _ _ _ _ _ us hl=>match us,hl with | [_,_],_=>rfl
 have m__law_take:=PySem.W.mg_of X G a20
 have F__law_whole:=fun_mk (st:=top 66) l21 c21 k21
 have b__law_whole:=F__law_whole.binds (ps:=["_law_thing"]) fun _ _ _ _ _ _ us hl=>match us,hl with | [_],_=>rfl
 have m__law_whole:=PySem.W.mg_of X G a21
 have F__law_then:=fun_mk (st:=top 67) l22 c22 k22
 have b__law_then:=F__law_then.binds (ps:=["_law_order", "_law_a", "_law_b"]) fun _ _ _ _ _ _ us hl=>match us,hl with | [_,_,_],_=>rfl
 have m__law_then:=PySem.W.mg_of X G a22
 have F__law_rounds:=fun_mk (st:=top 68) l23 c23 k23
 have b__law_rounds:=F__law_rounds.binds (ps:=["_law_order"]) fun _ _ _ _ _ _ us hl=>match us,hl with | [_],_=>rfl
 have m__law_rounds:=PySem.W.mg_of X G a23
 have F__law_cut_by:=fun_mk (st:=top 69) l24 c24 k24
 have b__law_cut_by:=F__law_cut_by.binds (ps:=["_law_pool_here", "_law_order"]) fun _ _ _ _ _ _ us hl=>match us,hl with | [_,_],_=>rfl
 have m__law_cut_by:=PySem.W.mg_of X G a24
 have F__law_crosses:=fun_mk (st:=top 70) l25 c25 k25
 have b__law_crosses:=F__law_crosses.binds (ps:=["_law_one", "_law_other"]) fun _ _ _ _ _ _ us hl=>match us,hl with | [_,_],_=>rfl
 have m__law_crosses:=PySem.W.mg_of X G a25
 have F__law_is_part:=fun_mk (st:=top 71) l26 c26 k26
 have b__law_is_part:=F__law_is_part.binds (ps:=["_law_thing"]) fun _ _ _ _ _ _ us hl=>match us,hl with | [_],_=>rfl
 have m__law_is_part:=PySem.W.mg_of X G a26
 have F__law_is_sharing:=fun_mk (st:=top 72) l27 c27 k27
 have b__law_is_sharing:=F__law_is_sharing.binds (ps:=["_law_n", "_law_thing"]) fun _ _ _ _ _ _ us hl=>match us,hl with | [_,_],_=>rfl
 have m__law_is_sharing:=PySem.W.mg_of X G a27
 have F__law_spoilt_sharing:=fun_mk (st:=top 73) l28 c28 k28
 have b__law_spoilt_sharing:=F__law_spoilt_sharing.binds (ps:=["_law_pool_here", "_law_sharing"]) fun _ _ _ _ _ _ us hl=>match us,hl with | [_,_],_=>rfl
 have m__law_spoilt_sharing:=PySem.W.mg_of X G a28
 have F__law_is_size:=fun_mk (st:=top 74) l29 c29 k29
 have b__law_is_size:=F__law_is_size.binds (ps:=["_law_thing"]) fun _ _ _ _ _ _ us hl=>match us,hl with | [_],_=>rfl
 have m__law_is_size:=PySem.W.mg_of X G a29
 have F__law_joins:=fun_mk (st:=top 75) l30 c30 k30
 have b__law_joins:=F__law_joins.binds (ps:=["_law_ahead", "_law_sharing"]) fun _ _ _ _ _ _ us hl=>match us,hl with | [_,_],_=>rfl
 have m__law_joins:=PySem.W.mg_of X G a30
 have F__law_due:=fun_mk (st:=top 76) l31 c31 k31
 have b__law_due:=F__law_due.binds (ps:=["_law_n", "_law_some"]) fun _ _ _ _ _ _ us hl=>match us,hl with | [_,_],_=>rfl
 have m__law_due:=PySem.W.mg_of X G a31
 have F_law:=fun_mk (st:=top 77) l32 c32 k32
 have b_law:=F_law.binds (ps:=["_law_script"]) fun _ _ _ _ _ _ us hl=>match us,hl with | [_],_=>rfl
 have m_law:=PySem.W.mg_of X G a32
 have z_len:=PySem.W.mg_none_of X G z_len
 have z_abs:=PySem.W.mg_none_of X G z_abs
 have z_int:=PySem.W.mg_none_of X G z_int
 have z_all:=PySem.W.mg_none_of X G z_all
 have z_any:=PySem.W.mg_none_of X G z_any
 have z_isinstance:=PySem.W.mg_none_of X G z_isinstance
 have z_bool:=PySem.W.mg_none_of X G z_bool
 have z_tuple:=PySem.W.mg_none_of X G z_tuple
 have z_list:=PySem.W.mg_none_of X G z_list
 have z_range:=PySem.W.mg_none_of X G z_range
 have z_min:=PySem.W.mg_none_of X G z_min
 have z_max:=PySem.W.mg_none_of X G z_max
 have z_sorted:=PySem.W.mg_none_of X G z_sorted
 have z_set:=PySem.W.mg_none_of X G z_set
 have z_sum:=PySem.W.mg_none_of X G z_sum
 have z_zip:=PySem.W.mg_none_of X G z_zip
 have z_str:=PySem.W.mg_none_of X G z_str
 have z_repr:=PySem.W.mg_none_of X G z_repr
 have mg_MOST_THINGS:=PySem.W.mg_of X G ag_MOST_THINGS
 have e:=hfa.symm.trans m_law
 cases e
 refine ⟨PySem.W.fnOf "law" "law" (defArgs (top 77)) (defBody (top 77)) (defScope (top 77)) .none kV32 dc32 pm32 an32 cd32 ct32,fun s v=>.of_eq rfl,fun base _ _=>?_⟩
 have t0:TPurse mg:=⟨z_len,z_abs,z_int⟩
 have t1:T1 mg K:={ t0 with b_all:=z_all,b_isinstance:=z_isinstance,b_bool:=z_bool,b_tuple:=z_tuple,b_list:=z_list,b_range:=z_range,k_ib:=kib }
 have m_und:=PySem.W.mg_of X G au
 have ku:KNum K w.params U partsP:=⟨su,by decide,_,_,lu,.cons (.cons (.cons (.cons (.cons (.cons .nil)))))⟩
 have fiw:FnAt l.prog w K mg base "is_whole" 1 ["thing"] spIwD:=⟨⟨_,_,ok_iwD F_is_whole t1,m_is_whole,k0,b_is_whole⟩⟩
 have td:TD l.prog w K mg base:={ t1 with f_is_whole:=fiw }
 have fbt:FnAt l.prog w K mg base "is_between" 2 ["thing", "low", "high"] spBtD:=⟨⟨_,_,ok_btD F_is_between td,m_is_between,k1,b_is_between⟩⟩
 have tip:TIspD l.prog w K mg base:={ t1 with b_zip:=z_zip,f_is_between:=fbt }
 have tcr:TCroD mg K:={ t1 with b_any:=z_any }
 have tic:TIcrD l.prog w K mg base:={ t1 with b_any:=z_any,f_crosses:=⟨⟨_,_,ok_croD F_crosses tcr,m_crosses,k3,b_crosses⟩⟩ }
 have tis:TIssD l.prog w K mg base:={ t1 with b_sorted:=z_sorted,f_is_part:=⟨⟨_,_,ok_ispD F_is_part tip,m_is_part,k2,b_is_part⟩⟩,f_is_crossed:=⟨⟨_,_,ok_icrD F_is_crossed tic,m_is_crossed,k4,b_is_crossed⟩⟩ }
 have tsh:TSh mg K:={ t1 with b_sum:=z_sum }
 have fmn:FnAt l.prog w K mg base "many_things" 1 ["sharing"] spMany:=⟨⟨_,_,ok_many F_many_things tsh,m_many_things,k6,b_many_things⟩⟩
 have twi:TWi l.prog w K mg base:={ t1 with b_any:=z_any,f_many_things:=fmn,f_is_inside:=⟨⟨_,_,ok_inside F_is_inside t1,m_is_inside,k7,b_is_inside⟩⟩ }
 have tjt:TJtG l.prog w K mg base:={ t1 with f_within:=⟨⟨_,_,ok_within F_within twi,m_within,k8,b_within⟩⟩ }
 have tsc:TIscG l.prog w K mg base:={ t1 with b_any:=z_any,b_zip:=z_zip,f_many_things:=fmn,f_joins_two:=⟨⟨_,_,ok_jtG F_joins_two tjt,m_joins_two,k9,b_joins_two⟩⟩ }
 have tch:TCh7 l.prog w K mg base (.int 12 tk_MOST_THINGS):={ t1 with
  g_MOST_THINGS:=mg_MOST_THINGS
  r_MOST_THINGS:=⟨_,rfl⟩
  f_is_between:=fbt
  f_is_sharing:=⟨⟨_,_,ok_issD F_is_sharing tis,m_is_sharing,k5,b_is_sharing⟩⟩
  f_is_chain:=⟨⟨_,_,ok_iscG F_is_chain tsc,m_is_chain,k10,b_is_chain⟩⟩ }
 have tph:TPh7 l.prog w K mg base:={ t1 with
  f_chain_holds:=⟨⟨_,_,ok_chh F_chain_holds tch,m_chain_holds,k15,b_chain_holds⟩⟩
  f_row_holds:=⟨⟨_,_,ok_nev F_row_holds fun _ _ _ _ h=>h,m_row_holds,k11,b_row_holds⟩⟩
  f_least_holds:=⟨⟨_,_,ok_nev F_least_holds fun _ _ _ _ h=>h,m_least_holds,k12,b_least_holds⟩⟩
  f_walk_holds:=⟨⟨_,_,ok_nev F_walk_holds fun _ _ _ _ h=>h,m_walk_holds,k13,b_walk_holds⟩⟩
  f_half_holds:=⟨⟨_,_,ok_nev F_half_holds fun _ _ _ _ h=>h,m_half_holds,k14,b_half_holds⟩⟩
  f_counts_hold:=⟨⟨_,_,ok_nev F_counts_hold fun _ _ _ _ h=>h,m_counts_hold,k16,b_counts_hold⟩⟩ }
 have thd:THd l.prog w K mg base U g67 R67 9:={ t1 with b_str:=z_str,g_PARTS:=m_und,r_PARTS:=rfl,k_PARTS:=ku,f_paper_holds:=⟨⟨_,_,ok_ph7 F_paper_holds tph,m_paper_holds,k17,b_paper_holds⟩⟩ }
 have ftake:FnAt l.prog w K mg base "_law_take" 1 ["_law_pool_here", "_law_many"] spTk:=⟨⟨_,_,ok_tk F__law_take,m__law_take,k20,b__law_take⟩⟩
 have flw:FnAt l.prog w K mg base "_law_whole" 1 ["_law_thing"] spIwD:=⟨⟨_,_,ok_lwE F__law_whole t1,m__law_whole,k21,b__law_whole⟩⟩
 have tlr:TLrd mg K:={ t1 with b_sorted:=z_sorted }
 have flr:FnAt l.prog w K mg base "_law_rounds" 1 ["_law_order"] spShb:=⟨⟨_,_,ok_lrd F__law_rounds tlr,m__law_rounds,k23,b__law_rounds⟩⟩
 have tcb:TCb l.prog w K mg base:={ t1 with f__law_take:=ftake,f__law_rounds:=flr,f__law_then:=⟨⟨_,_,ok_lth F__law_then t1,m__law_then,k22,b__law_then⟩⟩ }
 have tpl:TIpL l.prog w K mg base:={ t1 with b_sorted:=z_sorted,b_set:=z_set,f__law_whole:=flw }
 have tsl:TIsL l.prog w K mg base:={ t1 with b_sorted:=z_sorted,b_sum:=z_sum,b_any:=z_any,f__law_is_part:=⟨⟨_,_,ok_ipL F__law_is_part tpl,m__law_is_part,k26,b__law_is_part⟩⟩,f__law_crosses:=⟨⟨_,_,ok_crL F__law_crosses t1,m__law_crosses,k25,b__law_crosses⟩⟩ }
 have tsp:TSpS l.prog w K mg base:={ t1 with b_sorted:=z_sorted,b_sum:=z_sum,f__law_take:=ftake }
 have tsz:TSz6 l.prog w K mg base:={ t1 with f__law_whole:=flw }
 have tjo:TJo7 mg K:={ t1 with b_sorted:=z_sorted }
 have tdu:TDue7 l.prog w K mg base:={ t1 with
  f__law_is_size:=⟨⟨_,_,ok_sz6 F__law_is_size tsz,m__law_is_size,k29,b__law_is_size⟩⟩
  f__law_is_sharing:=⟨⟨_,_,ok_isL F__law_is_sharing tsl,m__law_is_sharing,k27,b__law_is_sharing⟩⟩
  f__law_joins:=⟨⟨_,_,ok_jol F__law_joins tjo,m__law_joins,k30,b__law_joins⟩⟩ }
 have tl:TL l.prog w K mg base:={ t1 with
  b_repr:=z_repr
  b_str:=z_str
  f__law_pool:=⟨⟨_,_,ok_pool F__law_pool t0,m__law_pool,k19,b__law_pool⟩⟩
  f__law_take:=ftake
  f__law_cut_by:=⟨⟨_,_,ok_cb F__law_cut_by tcb,m__law_cut_by,k24,b__law_cut_by⟩⟩
  f__law_rounds:=flr
  f__law_spoilt_sharing:=⟨⟨_,_,ok_sps F__law_spoilt_sharing tsp,m__law_spoilt_sharing,k28,b__law_spoilt_sharing⟩⟩
  f__law_due:=⟨⟨_,_,ok_due7 F__law_due tdu,m__law_due,k31,b__law_due⟩⟩
  f_holds:=⟨⟨_,_,ok_holds F_holds thd,m_holds,k18,b_holds⟩⟩ }
 exact ok_law F_law tl
theorem walk {l:PySem.W.OpenLaw} {q:Program} {loose:List Str} {XP:(Str→Option Value)→Heap→Prop} {YP:World→Heap→Prop} {d:DefRec} {K:Params→PySem.W.Frag} (hn:l.most=some 63) (hdf:d.params.defaults=[])
  (hY : ∀ (w:World) (h:Heap),YP w h→(K w.params).In h)
  (F : ∀ (w:World) (mg:Str→Option Value) (fa:Addr) (h:Heap),(K w.params).In h→h.Ns mainGlobals mg→mg d.name=some (.ref fa) →
   ∃ fd:FuncData,(∀ (s:Shared) (u:Value),BindsTo s fd ⟨[u],[]⟩ [("_law_script", u)])∧∀ base:Heap,(K w.params).In base→base.Ns mainGlobals mg→FnOk l.prog w (K w.params) mg base CX0 11 fa fd ["_law_script"] (spLaw (K w.params))) :
  PySem.W.WalkO q loose XP YP l.row.toRowW d [] (fun f vs=>PySem.call f vs) :=
 L2.walk_of (n:=63) (k:=11) (x := "_law_script") (CX:=fun _=>CX0) (sp:=fun w=>spLaw (K w.params)) hn (by decide) hdf ⟨rfl,rfl,by decide,by decide⟩ hY F (fun _ _ a ns hl _ hS=>⟨a,ns,rfl,hS,hl,fun _=>rfl⟩) fun _ _ _ _ _ z=>z
end Sw
def PySem.W.Fast.tw3555926275910217010:Nat:=0
def PySem.W.Fast.tw2375336047034916834:Nat:=0
def PySem.W.Fast.tw2528068867551025809:Nat:=0
def PySem.W.Fast.tw16968907816409620606:Nat:=0
def PySem.W.Fast.tw10142656362993407307:Nat:=0
def PySem.W.Fast.tw4776861892458050472:Nat:=0
def PySem.W.Fast.tw5753749873780602588:Nat:=0
def PySem.W.Fast.tw16725779259161479635:Nat:=0
def PySem.W.Fast.tw6697061543754196880:Nat:=0
def PySem.W.Fast.tw2596492612412946288:Nat:=0
def PySem.W.Fast.tw4829888490482546786:Nat:=0
def PySem.W.Fast.tw1518752701442991704:Nat:=0
def PySem.W.Fast.tw13341522091270170791:Nat:=0
def PySem.W.Fast.tw18291487948011961041:Nat:=0
def PySem.W.Fast.tw4103390066765853726:Nat:=0
def PySem.W.Fast.tw271323051978134777:Nat:=0
def PySem.W.Fast.tw17351881942280816364:Nat:=0
def PySem.W.Fast.tw8445889205945540647:Nat:=0
def PySem.W.Fast.tw7574197159032393144:Nat:=0
def PySem.W.Fast.tw15169922317628913547:Nat:=0
def PySem.W.Fast.tw13624164282492920594:Nat:=0
def PySem.W.Fast.tw1614594344779954475:Nat:=0
def PySem.W.Fast.tw3147496137384788345:Nat:=0
def PySem.W.Fast.tw16606170512591298771:Nat:=0
def PySem.W.Fast.tw16120271431756308013:Nat:=0
def PySem.W.Fast.tw2235105453754399017:Nat:=0
open PySem PySem.W PyProof.Rows
set_option maxRecDepth 100000 in
set_option maxHeartbeats 0 in
theorem PySem.Challenge.cw_swapstars_k67_papers_of_chains_holds : PySem.Challenge.rw_swapstars_k67_papers_of_chains.Holds := by
 w_on; o_law; k_head; (case hw=>w_witness2)
 k_fill
 refine Sw.walk (l:=PySem.Challenge.rw_swapstars_k67_papers_of_chains) rfl rfl (fun w h Y=>PySem.W.kIn_of Y) ?F
 case F =>
  intro w mg fa h KX G hmg
  refine' Sw.all_mk KX G hmg ?a0 ?l0 ?c0 ?k0 ?a1 ?l1 ?c1 ?k1 ?a2 ?l2 ?c2 ?k2 ?a3 ?l3 ?c3 ?k3 ?a4 ?l4 ?c4 ?k4 ?a5 ?l5 ?c5 ?k5 ?a6 ?l6 ?c6 ?k6 ?a7 ?l7 ?c7 ?k7 ?a8 ?l8 ?c8 ?k8 ?a9 ?l9 ?c9 ?k9 ?a10 ?l10 ?c10 ?k10 ?a11 ?l11 ?c11 ?k11 ?a12 ?l12 ?c12 ?k12 ?a13 ?l13 ?c13 ?k13 ?a14 ?l14 ?c14 ?k14 ?a15 ?l15 ?c15 ?k15 ?a16 ?l16 ?c16 ?k16 ?a17 ?l17 ?c17 ?k17 ?a18 ?l18 ?c18 ?k18 ?a19 ?l19 ?c19 ?k19 ?a20 ?l20 ?c20 ?k20 ?a21 ?l21 ?c21 ?k21 ?a22 ?l22 ?c22 ?k22 ?a23 ?l23 ?c23 ?k23 ?a24 ?l24 ?c24 ?k24 ?a25 ?l25 ?c25 ?k25 ?a26 ?l26 ?c26 ?k26 ?a27 ?l27 ?c27 ?k27 ?a28 ?l28 ?c28 ?k28 ?a29 ?l29 ?c29 ?k29 ?a30 ?l30 ?c30 ?k30 ?a31 ?l31 ?c31 ?k31 ?a32 ?l32 ?c32 ?k32 ?z_len ?z_abs ?z_int ?z_all ?z_any ?z_isinstance ?z_bool ?z_tuple ?z_list ?z_range ?z_min ?z_max ?z_sorted ?z_set ?z_sum ?z_zip ?z_str ?z_repr ?ag_MOST_THINGS ?au ?lu ?su ?kib
  (case a0=>k_is); (case l0=>k_is); (case c0=>k_is); (case k0=>k_is)
  (case a1=>k_is); (case l1=>k_is); (case c1=>k_is); (case k1=>k_is)
  (case a2=>k_is); (case l2=>k_is); (case c2=>k_is); (case k2=>k_is)
  (case a3=>k_is); (case l3=>k_is); (case c3=>k_is); (case k3=>k_is)
  (case a4=>k_is); (case l4=>k_is); (case c4=>k_is); (case k4=>k_is)
  (case a5=>k_is); (case l5=>k_is); (case c5=>k_is); (case k5=>k_is)
  (case a6=>k_is); (case l6=>k_is); (case c6=>k_is); (case k6=>k_is)
  (case a7=>k_is); (case l7=>k_is); (case c7=>k_is); (case k7=>k_is)
  (case a8=>k_is); (case l8=>k_is); (case c8=>k_is); (case k8=>k_is)
  (case a9=>k_is); (case l9=>k_is); (case c9=>k_is); (case k9=>k_is)
  (case a10=>k_is); (case l10=>k_is); (case c10=>k_is); (case k10=>k_is)
  (case a11=>k_is); (case l11=>k_is); (case c11=>k_is); (case k11=>k_is)
  (case a12=>k_is); (case l12=>k_is); (case c12=>k_is); (case k12=>k_is)
  (case a13=>k_is); (case l13=>k_is); (case c13=>k_is); (case k13=>k_is)
  (case a14=>k_is); (case l14=>k_is); (case c14=>k_is); (case k14=>k_is)
  (case a15=>k_is); (case l15=>k_is); (case c15=>k_is); (case k15=>k_is)
  (case a16=>k_is); (case l16=>k_is); (case c16=>k_is); (case k16=>k_is)
  (case a17=>k_is); (case l17=>k_is); (case c17=>k_is); (case k17=>k_is)
  (case a18=>k_is); (case l18=>k_is); (case c18=>k_is); (case k18=>k_is)
  (case a19=>k_is); (case l19=>k_is); (case c19=>k_is); (case k19=>k_is)
  (case a20=>k_is); (case l20=>k_is); (case c20=>k_is); (case k20=>k_is)
  (case a21=>k_is); (case l21=>k_is); (case c21=>k_is); (case k21=>k_is)
  (case a22=>k_is); (case l22=>k_is); (case c22=>k_is); (case k22=>k_is)
  (case a23=>k_is); (case l23=>k_is); (case c23=>k_is); (case k23=>k_is)
  (case a24=>k_is); (case l24=>k_is); (case c24=>k_is); (case k24=>k_is)
  (case a25=>k_is); (case l25=>k_is); (case c25=>k_is); (case k25=>k_is)
  (case a26=>k_is); (case l26=>k_is); (case c26=>k_is); (case k26=>k_is)
  (case a27=>k_is); (case l27=>k_is); (case c27=>k_is); (case k27=>k_is)
  (case a28=>k_is); (case l28=>k_is); (case c28=>k_is); (case k28=>k_is)
  (case a29=>k_is); (case l29=>k_is); (case c29=>k_is); (case k29=>k_is)
  (case a30=>k_is); (case l30=>k_is); (case c30=>k_is); (case k30=>k_is)
  (case a31=>k_is); (case l31=>k_is); (case c31=>k_is); (case k31=>k_is)
  (case a32=>k_is); (case l32=>k_is); (case c32=>k_is); (case k32=>k_is)
  (case z_len=>k_is); (case z_abs=>k_is); (case z_int=>k_is); (case z_all=>k_is); (case z_any=>k_is); (case z_isinstance=>k_is); (case z_bool=>k_is); (case z_tuple=>k_is); (case z_list=>k_is); (case z_range=>k_is); (case z_min=>k_is); (case z_max=>k_is); (case z_sorted=>k_is); (case z_set=>k_is); (case z_sum=>k_is); (case z_zip=>k_is); (case z_str=>k_is); (case z_repr=>k_is)
  (case ag_MOST_THINGS=>k_is)
  (case au=>k_is)
  (case lu=>k_is)
  (case su=>rfl)
  (case kib=>exact L2.kit_int_bool _)
