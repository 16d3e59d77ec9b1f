import PyProof.Rows.All
import Wide.All
import OpenK.AllK
import Wide.FinOn
import Lean
import PyProof.EqAt
import PyProof.EqKinds
import PyProof.TupleCall
import KE.KIntText
import PyProof.StrBlockH
import PyProof.StrLawsTight
import PyProof.StrLawsReplace
import PyProof.StrLawsJoin
import PyProof.StrLawsNeg
import KE.LcSums
import KE.KSortAsk
import PyProof.ZipIter
import KE.KItemsList
import KE.KRevIter
import PySem.Challenge.RW_swapstars_k38_chains_refused
set_option Elab.async false
set_option linter.all false
set_option maxRecDepth 100000
set_option maxHeartbeats 8000000
namespace L2
open PySem PySem.Spec PyProof.Rows
abbrev Key:=Sum Int Str
def keyIs:Key→Value→Bool
 | .inl k,v=>Value.isInt k v
 | .inr x,v=>Value.isStrOf x v
def keyH (w:World) : Key→Int
 | .inl k=>hashInt k
 | .inr x=>hashStr w x
theorem keyIs_shape : ∀ {k:Key} {v:Value},keyIs k v=true→(∃ i t,k=Sum.inl i∧v=Value.int i t)∨(∃ x t,k=Sum.inr x∧v=Value.str x t)
 | .inl i,v,h=>by
  obtain ⟨t,e⟩:=Value.isInt_shape (k:=i) (v:=v) h
  exact .inl ⟨i,t,rfl,e⟩
 | .inr x,v,h=>by
  obtain ⟨t,e⟩:=Value.isStrOf_shape (x:=x) (v:=v) h
  exact .inr ⟨x,t,rfl,e⟩
theorem keyIs_int (i:Int) (t:Tok) : keyIs (.inl i) (.int i t)=true:=by simp [keyIs,Value.isInt]
theorem keyIs_str (x:Str) (t:Tok) : keyIs (.inr x) (.str x t)=true:=by simp [keyIs,Value.isStrOf]
theorem key_ll (a b:Int) : decide ((Sum.inl a:Key)=Sum.inl b)=(a == b):=by
 by_cases e:a=b
 ·subst e; simp
 ·have h : ¬ (Sum.inl a:Key)=Sum.inl b:=fun q=>e (Sum.inl.inj q)
  rw [decide_eq_false h]
  exact (beq_eq_false_iff_ne.mpr e).symm
theorem key_rr (a b:Str) : decide ((Sum.inr a:Key)=Sum.inr b)=decide (a=b):=by
 by_cases e:a=b
 ·subst e; simp
 ·have h : ¬ (Sum.inr a:Key)=Sum.inr b:=fun q=>e (Sum.inr.inj q)
  rw [decide_eq_false h,decide_eq_false e]
theorem key_lr (a:Int) (b:Str) : decide ((Sum.inl a:Key)=Sum.inr b)=false:=decide_eq_false (fun q=>nomatch q)
theorem key_rl (a:Str) (b:Int) : decide ((Sum.inr a:Key)=Sum.inl b)=false:=decide_eq_false (fun q=>nomatch q)
def mixKind (prog:Program) (w:World) : PySem.KeyKind prog w Key where
 is:=keyIs
 hash:=keyH w
 inj:=fun v a b ha hb=>by
  rcases keyIs_shape ha with ⟨i,t,rfl,rfl⟩ | ⟨x,t,rfl,rfl⟩
  ·rcases keyIs_shape hb with ⟨j,u,rfl,e⟩ | ⟨y,u,rfl,e⟩
   ·injection e with e1 _; rw [e1]
   ·exact nomatch e
  ·rcases keyIs_shape hb with ⟨j,u,rfl,e⟩ | ⟨y,u,rfl,e⟩
   ·exact nomatch e
   ·injection e with e1 _; rw [e1]
 byValue:=fun k v h=>by
  rcases keyIs_shape h with ⟨i,t,rfl,rfl⟩ | ⟨x,t,rfl,rfl⟩ <;> rfl
 pyHash:=fun hv h=>by
  rcases keyIs_shape hv with ⟨i,t,rfl,rfl⟩ | ⟨x,t,rfl,rfl⟩
  ·exact wpAny_pyHash_int h
  ·exact wpAny_pyHash_str h
 eqBool:=fun hu hv h=>by
  rcases keyIs_shape hu with ⟨i,t,rfl,rfl⟩ | ⟨x,t,rfl,rfl⟩
  ·rcases keyIs_shape hv with ⟨j,u,rfl,rfl⟩ | ⟨y,u,rfl,rfl⟩
   ·rw [key_ll] at h; exact wpAny_eqBool_int h
   ·rw [key_lr] at h; exact SeqAt.EqAt.int_str i t y u _ _ _ _ h
  ·rcases keyIs_shape hv with ⟨j,u,rfl,rfl⟩ | ⟨y,u,rfl,rfl⟩
   ·rw [key_rl] at h; exact SeqAt.EqAt.str_int x t j u _ _ _ _ h
   ·rw [key_rr] at h; exact wpAny_eqBool_str h
 «strs»:=fun k x t v h=>by
  rcases keyIs_shape h with ⟨i,u,rfl,e⟩ | ⟨y,u,rfl,e⟩
  ·exact nomatch e
  ·injection e with e1 _
   subst e1
   cases v <;> rfl
theorem mixKind_int (prog:Program) (w:World) (i:Int) (t:Tok) : (mixKind prog w).is (.inl i) (.int i t)=true:=keyIs_int i t
theorem mixKind_str (prog:Program) (w:World) (x:Str) (t:Tok) : (mixKind prog w).is (.inr x) (.str x t)=true:=keyIs_str x t
end L2
namespace L2
open PySem PySem.Spec PyProof.Rows
inductive V where
 | non | bl (b:Bool) | int (i:Int) | str (x:Str) | byt (b:Array UInt8) | flt (b:UInt64) | ref (a:Addr) | ty (n:String)
 deriving DecidableEq
def RelV:V→Value→Prop
 | .non,u=>u=Value.none
 | .bl b,u=>u=Value.bool b
 | .int i,u=>∃ t,u=Value.int i t
 | .str x,u=>∃ t,u=Value.str x t
 | .byt b,u=>∃ t,u=Value.bytes b t
 | .flt b,u=>∃ t,u=Value.float b t
 | .ref a,u=>u=Value.ref a
 | .ty n,u=>u=Value.type n
abbrev Vals:List V→List Value→Prop:=Paired RelV
theorem Vals.length {xs:List V} {us:List Value} (r:Vals xs us) : xs.length=us.length:=Paired.length r
theorem Vals.get : ∀ {xs:List V} {us:List Value} {i:Nat} {x:V},Vals xs us→xs[i]?=some x→∃ u,us[i]?=some u∧RelV x u
 | _,_,_,_,.nil,e=>by simp at e
 | _,_,0,_,.cons r _,e=>by simp at e; subst e; exact ⟨_,rfl,r⟩
 | _,_,i+1,x,.cons _ t,e=>by
  obtain ⟨u,h1,h2⟩:=Vals.get (i:=i) (x:=x) t (by simpa using e)
  exact ⟨u,by simpa using h1,h2⟩
theorem Vals.set {x:V} {u:Value} (r:RelV x u) : ∀ {xs:List V} {us:List Value} (i:Nat),Vals xs us→Vals (xs.set i x) (us.set i u)
 | _,_,_,.nil=>.nil
 | _,_,0,.cons _ t=>.cons r t
 | _,_,i+1,.cons q t=>.cons q (Vals.set r i t)
theorem Vals.append : ∀ {xs ys:List V} {us ws:List Value},Vals xs us→Vals ys ws→Vals (xs++ys) (us++ws)
 | _,_,_,_,.nil,s=>s
 | _,_,_,_,.cons r t,s=>.cons r (Vals.append t s)
theorem Vals.take : ∀ {xs:List V} {us:List Value} (n:Nat),Vals xs us→Vals (xs.take n) (us.take n)
 | _,_,0,_=>.nil
 | _,_,_+1,.nil=>.nil
 | _,_,n+1,.cons r t=>.cons r (Vals.take n t)
theorem Vals.drop : ∀ {xs:List V} {us:List Value} (n:Nat),Vals xs us→Vals (xs.drop n) (us.drop n)
 | _,_,0,r=>r
 | _,_,_+1,.nil=>.nil
 | _,_,n+1,.cons _ t=>Vals.drop n t
def RelO:Option V→Option Value→Prop
 | some v,some u=>RelV v u
 | none,none=>True
 | _,_=>False
def KV {κ : Type} : List (κ × V)→List (κ × Value)→Prop:=Paired fun (p : κ × V) (q : κ × Value)=>p.1=q.1∧RelV p.2 q.2
def kV:Key→V
 | .inl i=>.int i
 | .inr x=>.str x
inductive HO where
 | lst (xs:List V)
 | tup (xs:List V)
 | dK (kvs:List (Key × V)) | dT (kvs:List (List Key × V))
 | set (S:Int→Bool) (n:Nat)
 | ins (C dx:Addr) (fs:List (Str × V))
 | own (x:Addr)
 | xd (fs:List (Str × V))
 | met (f x:Addr)
 | rng (lo hi:Int)
 | frz (o:Obj) (u:HO)
 | tbl (ps:Array Value)
 | ext (φ : Heap→Prop)
abbrev Hp:=Addr→Option HO
def upd (H:Hp) (a:Addr) (o:HO) : Hp:=fun b=>if b=a then some o else H b
theorem upd_same {H:Hp} {a:Addr} {o:HO} : upd H a o a=some o:=by unfold upd; rw [if_pos rfl]
theorem upd_ne {H:Hp} {a b:Addr} {o:HO} (h:b≠a) : upd H a o b=H b:=by unfold upd; rw [if_neg h]
theorem upd_upd {H:Hp} {a:Addr} {o u:HO} : upd (upd H a o) a u=upd H a u:=by
 funext b; unfold upd; split <;> rfl
theorem ne_of {H:Hp} {a b:Addr} {o u:HO} (h:H a=some o) (h':H b=some u) (d:o≠u) : a≠b:=by
 intro e; subst e; rw [h] at h'; exact d (Option.some.inj h')
theorem ne_of_none {H:Hp} {a b:Addr} {o:HO} (h:H a=some o) (h':H b=none) : a≠b:=by
 intro e; subst e; rw [h] at h'; cases h'
section
variable (P:Program) (w:World)
def ObjOk (H:Hp) (h:Heap) (a:Addr) : HO→Prop
 | .lst xs=>xs.length≤sizeLine∧∃ (its:List Value) (n:Nat),Vals xs its∧h.get? a=some { cls:=.type "list", data:=.seq its.toArray n }
 | .tup xs=>xs.length≤sizeLine∧∃ its:List Value,Vals xs its∧IsTup h a its.toArray
 | .dK kvs=>kvs.length≤sizeLine∧(a == sysModules)=false∧∃ vs,KV kvs vs∧h.DictOf (mixKind P w) a vs
 | .dT kvs=>kvs.length≤sizeLine∧(a == sysModules)=false∧∃ xs:List (List Key × Addr × Value),
   Paired (fun (p:List Key × V) (q:List Key × Addr × Value)=>p.1=q.1∧H q.2.1=some (.tup (p.1.map kV))∧RelV p.2 q.2.2) kvs xs ∧
   ∃ o es ep,h.get? a=some o∧o.ExactDict∧o.data=.dict es ep∧es.toList=xs.map (entryOfKey (tupleKind (mixKind P w)))∧(xs.map (·.1)).Nodup
 | .set S n=>h.SetOf (intKind P w) a S n
 | .ins C dx fs=>H dx=some (.own a)∧fs.length≤1000∧dx≠a∧h.get? a=some (PySem.W.instObj C dx) ∧
   ∃ mA,h.Ns1 dx mA∧(∀ f,RelO (fs.lookup f) (mA f))∧PySem.Within mA (fs.map (·.1))
 | .own _=>∃ o,h.get? a=some o
 | .xd fs=>∃ mA,h.Ns1 a mA∧∀ f,RelO (fs.lookup f) (mA f)
 | .rng lo hi=>∃ t u v,h.get? a=some { cls:=.type "range", data:=.fields #[.int lo t,.int hi u,.int 1 v] }
 | .frz o u=>h.get? a=some o∧ObjOk H h a u
 | .tbl ps=>h.get? a=some { cls:=.none,data:=.fields ps }
 | .met f x=>h.get? a=some (PySem.W.methodObj (.ref f) (.ref x))
 | .ext φ=>φ h∧(∃ o,h.get? a=some o)∧∀ h1 h2:Heap,φ h1→(∀ o,h1.get? a=some o→h2.get? a=some o)→φ h2
def HOk (H:Hp) (h:Heap) : Prop:=∀ a o,H a=some o→ObjOk P w H h a o
end
section
variable {P:Program} {w:World} {H H':Hp} {h h':Heap} {a:Addr} {o:HO}
theorem ObjOk.lt (x:ObjOk P w H h a o) : a<h.objs.size:=by
 cases o with
 | lst xs=>obtain ⟨_,_,_,_,e⟩:=x; exact Heap.lt_size e
 | tup xs=>obtain ⟨_,_,_,p⟩:=x; exact p.lt
 | dK kvs=>obtain ⟨_,_,_,_,o,_,_,e,_⟩:=x; exact Heap.lt_size e
 | dT kvs=>obtain ⟨_,_,_,_,o,_,_,e,_⟩:=x; exact Heap.lt_size e
 | set S n=>obtain ⟨o,_,_,_,e,_⟩:=x; exact Heap.lt_size e
 | ins C dx fs=>obtain ⟨_,_,_,e,_⟩:=x; exact Heap.lt_size e
 | own y=>obtain ⟨_,e⟩:=x; exact Heap.lt_size e
 | xd fs=>obtain ⟨_,⟨_,_,_,e,_⟩,_⟩:=x; exact Heap.lt_size e
 | rng lo hi=>obtain ⟨_,_,_,e⟩:=x; exact Heap.lt_size e
 | frz ob u=>obtain ⟨e,_⟩:=x; exact Heap.lt_size e
 | tbl ps=>exact Heap.lt_size (show h.get? a=some _ from x)
 | met f y=>exact Heap.lt_size (show h.get? a=some _ from x)
 | ext φ=>obtain ⟨_,⟨_,e⟩,_⟩:=x; exact Heap.lt_size e
theorem Paired.mapP {α β : Type} {F G : α→β→Prop} : ∀ {l₁ : List α} {l₂ : List β},Paired F l₁ l₂→(∀ a b,F a b→G a b)→Paired G l₁ l₂
 | _,_,.nil,_=>.nil
 | _,_,.cons r t,f=>.cons (f _ _ r) (Paired.mapP t f)
theorem ObjOk.stay (x:ObjOk P w H h a o) (k : ∀ b u,(b=a∨H b=some (.own a))→h.get? b=some u→h'.get? b=some u)
  (ho : ∀ b,H b=some (.own a)→H' b=some (.own a)) (ht : ∀ b xs,H b=some (.tup xs)→H' b=some (.tup xs)) : ObjOk P w H' h' a o:=by
 induction o with
 | lst xs=>obtain ⟨z,its,n,r,e⟩:=x; exact ⟨z,its,n,r,k _ _ (.inl rfl) e⟩
 | tup xs=>obtain ⟨z,its,r,ob,e,c⟩:=x; exact ⟨z,its,r,ob,k _ _ (.inl rfl) e,c⟩
 | dK kvs=>obtain ⟨z,y,vs,r,ob,es,ep,e,c⟩:=x; exact ⟨z,y,vs,r,ob,es,ep,k _ _ (.inl rfl) e,c⟩
 | dT kvs =>
  obtain ⟨z,y,xs,r,ob,es,ep,e,c⟩:=x
  exact ⟨z,y,xs,Paired.mapP r fun p q z=>⟨z.1,ht _ _ z.2.1,z.2.2⟩,ob,es,ep,k _ _ (.inl rfl) e,c⟩
 | set S n=>obtain ⟨ob,es,ep,t,e,c⟩:=x; exact ⟨ob,es,ep,t,k _ _ (.inl rfl) e,c⟩
 | ins C dx fs =>
  obtain ⟨d,z,ne,e,mA,⟨od,es,ep,e2,c⟩,r⟩:=x
  exact ⟨ho _ d,z,ne,k _ _ (.inl rfl) e,mA,⟨od,es,ep,k _ _ (.inr d) e2,c⟩,r⟩
 | own y=>obtain ⟨ob,e⟩:=x; exact ⟨ob,k _ _ (.inl rfl) e⟩
 | xd fs=>obtain ⟨mA,⟨od,es,ep,e,c⟩,r⟩:=x; exact ⟨mA,⟨od,es,ep,k _ _ (.inl rfl) e,c⟩,r⟩
 | rng lo hi=>obtain ⟨t,u,v,e⟩:=x; exact ⟨t,u,v,k _ _ (.inl rfl) e⟩
 | frz ob u ih=>obtain ⟨e,q⟩:=x; exact ⟨k _ _ (.inl rfl) e,ih q⟩
 | tbl ps =>
  have e:h.get? a=some { cls:=.none,data:=.fields ps }:=x
  show h'.get? a=some { cls:=.none,data:=.fields ps }
  exact k a _ (.inl rfl) e
 | met f y =>
  have e:h.get? a=some (PySem.W.methodObj (.ref f) (.ref y)):=x
  show h'.get? a=some (PySem.W.methodObj (.ref f) (.ref y))
  exact k a _ (.inl rfl) e
 | ext φ=>obtain ⟨p,⟨o,e⟩,st⟩:=x; exact ⟨st _ _ p fun o q=>k _ _ (.inl rfl) q,⟨o,k _ _ (.inl rfl) e⟩,st⟩
theorem HOk.lt (x:HOk P w H h) (e:H a=some o) : a<h.objs.size:=(x a o e).lt
theorem HOk.fresh (x:HOk P w H h) (e:h.objs.size≤a) : H a=none:=by
 cases q:H a with
 | none=>rfl
 | some u=>exact absurd (Nat.lt_of_lt_of_le (x.lt q) e) (Nat.lt_irrefl _)
theorem HOk.kept (x:HOk P w H h) (k : ∀ b u,h.get? b=some u→h'.get? b=some u) : HOk P w H h':=fun a o e =>
 (x a o e).stay (fun b u _ q=>k b u q) (fun _ q=>q) fun _ _ q=>q
theorem HOk.laid (x:HOk P w H h) (k : ∀ b u,h.get? b=some u→h'.get? b=some u) (hp:h.objs.size≤a) (new:ObjOk P w (upd H a o) h' a o) : HOk P w (upd H a o) h':=fun b u e=>by
 have hn:=x.fresh hp
 by_cases hb:b=a
 ·subst hb; rw [upd_same] at e; cases e; exact new
 ·rw [upd_ne hb] at e
  exact (x b u e).stay (fun c v _ q=>k c v q) (fun c q=>by rw [upd_ne (ne_of_none q hn)]; exact q) fun c xs q=>by rw [upd_ne (ne_of_none q hn)]; exact q
end
def Rd (H:Hp) (a:Addr) (u:HO) : Prop:=H a=some u∨∃ o,H a=some (.frz o u)
theorem Rd.ok {P:Program} {w:World} {H:Hp} {h:Heap} {a:Addr} {u:HO} (r:Rd H a u) (x:HOk P w H h) : ObjOk P w H h a u:=by
 rcases r with r | ⟨o,r⟩
 ·exact x a u r
 ·obtain ⟨_,q⟩:=x a _ r
  exact q
def Mut:Option HO→Prop
 | some (.lst _)=>True
 | some (.dK _)=>True
 | some (.dT _)=>True
 | some (.set _ _)=>True
 | some (.ins _ _ _)=>True
 | some (.ext _)=>True
 | _=>False
section
variable {P:Program} {w:World} {H:Hp} {h h':Heap} {x e:Addr} {o':HO}
theorem HOk.write (ok:HOk P w H h) (mu:Mut (H x)) (he:e=x∨H e=some (.own x)) (k : ∀ b u,b≠e→h.get? b=some u→h'.get? b=some u) (heo : ∃ u,h'.get? e=some u)
  (new:ObjOk P w (upd H x o') h' x o') : HOk P w (upd H x o') h':=fun b u q=>by
 have nown : ∀ c y,H c=some (.own y)→c≠x:=fun c y r z=>by subst z; rw [r] at mu; exact mu
 have ntup : ∀ c xs,H c=some (.tup xs)→c≠x:=fun c xs r z=>by subst z; rw [r] at mu; exact mu
 by_cases hb:b=x
 ·subst hb; rw [upd_same] at q; cases q; exact new
 ·rw [upd_ne hb] at q
  by_cases hbe:b=e
  ·have q':H b=some (.own x):=by
    rcases he with z | z
    ·exact absurd (hbe.trans z) hb
    ·rw [hbe]; exact z
   rw [q] at q'; cases q'
   obtain ⟨v,hv⟩:=heo
   exact ⟨v,by rw [hbe]; exact hv⟩
  ·refine (ok b u q).stay (fun c v hc r=>k c v ?_ r) (fun c r=>by rw [upd_ne (nown c b r)]; exact r) fun c xs r=>by rw [upd_ne (ntup c xs r)]; exact r
   rcases hc with rfl | hc
   ·exact hbe
   ·rintro rfl
    rcases he with z | z
    ·exact nown c b hc z
    ·rw [hc] at z; cases z; exact hb rfl
end
structure Un (fs ex:List Addr) (H H':Hp) (h h':Heap) : Prop where
 keep : ∀ b o,h.get? b=some o→H b=none→b∉fs→b∉ex→h'.get? b=some o
 slot : ∀ b o,h.get? b=some o→H b=none→b∈fs→b∉ex→∃ sl,h'.get? b=some { o with slots:=sl }
 free : ∀ b o,h.get? b=some o→H b=none→b∉ex→H' b=none
 there : ∀ b o,h.get? b=some o→b∉ex→∃ o',h'.get? b=some o'
 tups : ∀ b xs,H b=some (.tup xs)→H' b=some (.tup xs)
 frzs : ∀ b o u,H b=some (.frz o u)→H' b=some (.frz o u)
 tbls : ∀ b ps,H b=some (.tbl ps)→∃ more,H' b=some (.tbl (ps++more))
section
variable {fs fs' ex ex':List Addr} {H H1 H2:Hp} {h h1 h2 h':Heap} {a x e:Addr} {o:HO}
theorem Un.any (u:Un fs ex H H1 h h1) {b:Addr} {ob:Obj} (q:h.get? b=some ob) (n:H b=none) (hx:b∉ex) : ∃ sl,h1.get? b=some { ob with slots:=sl }:=by
 by_cases hb:b∈fs
 ·exact u.slot b ob q n hb hx
 ·exact ⟨ob.slots,u.keep b ob q n hb hx⟩
theorem Un.kept (k : ∀ b u,h.get? b=some u→h'.get? b=some u) : Un fs ex H H h h' :=
 ⟨fun b ob q _ _ _=>k b ob q,fun b ob q _ _ _=>⟨ob.slots,k b ob q⟩,fun _ _ _ n _=>n,fun b ob q _=>⟨ob,k b ob q⟩,fun _ _ q=>q,fun _ _ _ q=>q,fun _ ps q=>⟨#[],by rw [q]; simp⟩⟩
theorem Un.refl:Un fs ex H H h h:=Un.kept fun _ _ q=>q
theorem Un.laid (k : ∀ b u,h.get? b=some u→h'.get? b=some u) (hp:h.objs.size≤a) (hn:H a=none) : Un fs ex H (upd H a o) h h' where
 keep:=fun b u q _ _ _=>k b u q
 slot:=fun b u q _ _ _=>⟨u.slots,k b u q⟩
 free:=fun b u q n _=>by rw [upd_ne (Nat.ne_of_lt (Nat.lt_of_lt_of_le (Heap.lt_size q) hp))]; exact n
 there:=fun b u q _=>⟨u,k b u q⟩
 tups:=fun b xs q=>by rw [upd_ne (ne_of_none q hn)]; exact q
 frzs:=fun b u xs q=>by rw [upd_ne (ne_of_none q hn)]; exact q
 tbls:=fun b ps q=>⟨#[],by rw [upd_ne (ne_of_none q hn),q]; simp⟩
theorem Un.write (mu:Mut (H x)) (he:e=x∨H e=some (.own x)) (k : ∀ b u,b≠e→h.get? b=some u→h'.get? b=some u) (heo : ∃ u,h'.get? e=some u) : Un fs ex H (upd H x o) h h':=by
 have hx : ∀ b,H b=none→b≠x:=fun b n z=>by subst z; rw [n] at mu; exact mu
 have hb : ∀ b,H b=none→b≠e:=fun b n z=>by
  subst z
  rcases he with r | r
  ·exact hx b n r
  ·rw [n] at r; cases r
 have hm : ∀ b u,H b=some u→¬ Mut (some u)→b≠x:=fun b u q nm z=>by subst z; rw [q] at mu; exact nm mu
 refine ⟨fun b u q n _ _=>k b u (hb b n) q,fun b u q n _ _=>⟨u.slots,k b u (hb b n) q⟩,fun b u q n _=>by rw [upd_ne (hx b n)]; exact n,fun b u q _=>?_,
  fun b xs q=>by rw [upd_ne (hm b _ q fun z=>z)]; exact q,fun b u xs q=>by rw [upd_ne (hm b _ q fun z=>z)]; exact q,fun b ps q=>⟨#[],by rw [upd_ne (hm b _ q fun z=>z),q]; simp⟩⟩
 by_cases hbe:b=e
 ·subst hbe; exact heo
 ·exact ⟨u,k b u hbe q⟩
end
def trk (h:Heap) (H:Hp) : List Addr:=(List.range h.objs.size).filter fun a=>(H a).isSome
def hidT (h:Heap) (H:Hp) : Heap:=PySem.W.hideAll h (trk h H)
theorem hidT_size (h:Heap) (H:Hp) : (hidT h H).objs.size=h.objs.size:=PySem.W.hideAll_size _ _
theorem hidT_get {h:Heap} {H:Hp} {b:Addr} {o:Obj} (e:h.get? b=some o) (n:H b=none) : (hidT h H).get? b=some o :=
 PySem.W.hideAll_get _ e fun hm=>by
  have q:(H b).isSome=true:=(List.mem_filter.mp hm).2
  rw [n] at q; simp at q
theorem of_hidT {h:Heap} {H:Hp} {b:Addr} {o:Obj} (e:(hidT h H).get? b=some o) : h.get? b=some o∧H b=none:=by
 have e':h.get? b=some o:=PySem.W.of_hideAll (trk h H) e
 refine ⟨e',?_⟩
 cases q:H b with
 | none=>rfl
 | some x =>
  have hm:b∈trk h H:=List.mem_filter.mpr ⟨List.mem_range.mpr (Heap.lt_size e'),by simp [q]⟩
  have z:(hidT h H).get? b=none:=PySem.W.hideAll_none (trk h H) hm
  rw [z] at e; cases e
def allNews (g h:Heap) (L:Addr) : List (Addr × Obj):=(List.range h.objs.size).filterMap fun a=>if a=L∨(g.get? a).isSome=true then none else (h.get? a).map fun o=>(a,o)
def rest (g h:Heap) (L d:Addr) : List (Addr × Obj):=(allNews g h L).filter fun p=>decide (p.1≠d)
end L2
namespace L2
open PySem PySem.Spec PyProof.Rows
structure Mod (K:PySem.W.Frag) (mg:Str→Option Value) (base:Heap) : Prop where
 kin:K.In base
 glob:base.Ns mainGlobals mg
 blt : ∃ mb,base.Ns builtinsNs mb∧∀ x:Str,x ≠ "__name__" → mb x=bootBuiltins x
 nolimit:base.NoLimit
structure Cx where
 prog:Program
 w:World
 K:PySem.W.Frag
 mg:Str→Option Value
 base:Heap
 A:Around
 N:List Str
 s₀ : Shared
 H₀ : Hp
 env:Env
 outer:List Env
 stack:List Env
 ex:List Addr
 fn:Str→Bool
 calm:Bool
 pn:List (Addr × Obj)
 xe:Value→Shared→Prop
def frs (l:List Env) : List Addr:=l.filterMap (·.frame)
abbrev Cx.fs (X:Cx) : List Addr:=frs X.outer
def Vis (sc:Scope) (x:Str) : Prop:=sc.names.lookup x=some .local∨sc.names.lookup x=some .cell∨sc.names.lookup x=some .free
def Loc (sc:Scope) (x:Str) : Prop:=sc.names.lookup x=some .local∨sc.names.lookup x=some .cell
def Look (env:Env) (h:Heap) (m:Str→Option Value) (x:Str) (u:Value) : Prop :=
 (env.kindOf x=some .local∧m x=some u)∨((env.kindOf x=some .cell∨env.kindOf x=some .free)∧∃ c,env.cells.lookup x=some c∧h.IsCell c (some u))
structure Cx.Ok (X:Cx) : Prop where
 mod:Mod X.K X.mg X.base
 kind:X.env.scope.kind=.function
 glob:X.env.globals=mainGlobals
 blt:X.env.builtins=builtinsNs
 above:X.s₀.heap.objs.size≤X.env.locals
 inj : ∀ x y c,X.env.cells.lookup x=some c→X.env.cells.lookup y=some c→x=y
 has : ∀ x,(X.env.kindOf x=some .cell∨X.env.kindOf x=some .free)→∃ c,X.env.cells.lookup x=some c
 cab : ∀ x c,X.fn x=true→X.env.cells.lookup x=some c→X.s₀.heap.objs.size≤c
 hd:X.calm=true→X.A.handled=none
 frames:X.A.frames=some X.stack
 stk:X.stack=X.outer∨(X.stack=X.env :: X.outer∧X.env.frame=some X.env.locals)
 exf : ∀ b∈X.ex,b≠X.env.locals∧∀ x c,X.env.cells.lookup x=some c→c≠b
 bs : ∀ b o,X.base.get? b=some o→X.s₀.heap.get? b=some o∧X.H₀ b=none
 bsz:X.base.objs.size≤X.s₀.heap.objs.size
 noex : ∀ b o,X.base.get? b=some o→b∉X.ex
 exfs : ∀ b∈X.ex,b∉X.fs
 funs:X.s₀.heap.FunFrames X.base X.outer
 frf : ∀ b∈X.fs,X.H₀ b=none
structure Inv (X:Cx) (pins:List (Addr × Obj)) (σ : List (Option V)) (H:Hp) (s:Shared) : Prop where
 ok:X.Ok
 os:s.os=X.s₀.os
 bare:AllBare s.gens
 base:Un X.fs X.ex X.H₀ H X.s₀.heap s.heap
 loc : ∃ m,s.heap.Ns X.env.locals m∧∀ (i:Nat) (x:Str) (v:V),X.N[i]?=some x→σ[i]?=some (some v)→Vis X.env.scope x→∃ u,RelV v u∧Look X.env s.heap m x u
 cell : ∀ x c,X.env.cells.lookup x=some c→∃ v,s.heap.IsCell c v
 free:H X.env.locals=none
 freeC : ∀ x c,X.env.cells.lookup x=some c→H c=none
 pin : ∀ p∈X.pn++pins,s.heap.get? p.1=some p.2∧H p.1=none∧p.1≠X.env.locals∧p.1∉X.fs∧∀ v,p.2.data≠.cell v
 hok:HOk X.prog X.w H s.heap
 len : σ.length=X.N.length
section
variable {X:Cx} {pins:List (Addr × Obj)} {σ : List (Option V)} {H H':Hp} {s:Shared} {h':Heap}
theorem Cx.Ok.nofr (ok:X.Ok) {b:Addr} {o:Obj} (e:X.base.get? b=some o) : b∉X.fs:=fun hb=>by
 have:=(ok.funs.mem hb).1
 rw [e] at this; cases this
theorem Inv.bs (I:Inv X pins σ H s) : ∀ b o,X.base.get? b=some o→s.heap.get? b=some o∧H b=none:=fun b o e =>
 ⟨I.base.keep b o (I.ok.bs b o e).1 (I.ok.bs b o e).2 (I.ok.nofr e) (I.ok.noex b o e),I.base.free b o (I.ok.bs b o e).1 (I.ok.bs b o e).2 (I.ok.noex b o e)⟩
theorem Inv.bk (I:Inv X pins σ H s) : ∀ b o,X.base.get? b=some o→s.heap.get? b=some o:=fun b o e=>(I.bs b o e).1
theorem Inv.mod (I:Inv X pins σ H s) : Mod X.K X.mg X.base:=I.ok.mod
theorem Inv.kIn (I:Inv X pins σ H s) : X.K.In s.heap:=I.ok.mod.kin.keeps I.bk
theorem Inv.lt (I:Inv X pins σ H s) : X.env.locals<s.heap.objs.size:=let ⟨_,hn,_⟩:=I.loc; hn.lt
theorem Inv.sz (I:Inv X pins σ H s) : X.s₀.heap.objs.size≤s.heap.objs.size:=Nat.le_trans I.ok.above (Nat.le_of_lt I.lt)
theorem Inv.nofs (I:Inv X pins σ H s) {a:Addr} (h:s.heap.objs.size≤a) : a∉X.fs:=fun hb=>by
 obtain ⟨_,o,ho,_⟩:=I.ok.funs.mem hb
 exact absurd (Nat.lt_of_lt_of_le (Heap.lt_size ho) (Nat.le_trans I.sz h)) (Nat.lt_irrefl _)
theorem Inv.cne (I:Inv X pins σ H s) : ∀ x c,X.env.cells.lookup x=some c→c≠X.env.locals:=fun x c e z=>by
 obtain ⟨v,o,ho,hd⟩:=I.cell x c e
 obtain ⟨m,⟨o',es,ep,ho',hd',_⟩,_⟩:=I.loc
 rw [z,ho'] at ho; cases ho; rw [hd'] at hd; cases hd
theorem Inv.funs (I:Inv X pins σ H s) : s.heap.FunFrames X.base X.outer:=by
 have all : ∀ (l:List Env),(∀ b∈frs l,b∈X.fs)→X.s₀.heap.FunFrames X.base l→s.heap.FunFrames X.base l:=by
  intro l
  induction l with
  | nil=>intro _ _; trivial
  | cons env r ih =>
   intro hs hl
   obtain ⟨hk,⟨L,o,hf,hn,ho,hd⟩,hr⟩:=hl
   have hL:L∈X.fs:=hs L (by unfold frs; rw [List.filterMap_cons,hf]; exact List.mem_cons_self)
   obtain ⟨sl,e⟩:=I.base.slot L o ho (I.ok.frf L hL) hL fun z=>I.ok.exfs L z hL
   exact ⟨hk,⟨L,_,hf,hn,e,hd⟩,ih (fun b hb=>hs b (by unfold frs; rw [List.filterMap_cons,hf]; exact List.mem_cons_of_mem _ hb)) hr⟩
 exact all X.outer (fun _ hb=>hb) I.ok.funs
theorem Inv.stack (I:Inv X pins σ H s) : s.heap.FunFrames X.base X.stack:=by
 rcases I.ok.stk with e | ⟨e,hf⟩
 ·rw [e]; exact I.funs
 ·rw [e]
  obtain ⟨m,hn,_⟩:=I.loc
  refine .cons (by rw [I.ok.kind]; decide) hf hn ?_ I.funs
  exact Heap.get?_none_of_le (Nat.le_trans I.ok.bsz I.ok.above)
theorem Inv.stkSub (I:Inv X pins σ H s) : ∀ b∈frs X.stack,b∈X.env.locals :: X.fs:=fun b hb=>by
 rcases I.ok.stk with e | ⟨e,hf⟩
 ·rw [e] at hb; exact List.mem_cons_of_mem _ hb
 ·rw [e] at hb
  unfold frs at hb
  rw [List.filterMap_cons,hf] at hb
  exact hb
theorem Inv.stkFree (I:Inv X pins σ H s) : ∀ b∈frs X.stack,H b=none:=fun b hb=>by
 rcases List.mem_cons.mp (I.stkSub b hb) with e | hb
 ·rw [e]; exact I.free
 ·obtain ⟨_,o,ho,_⟩:=I.ok.funs.mem hb
  exact I.base.free b o ho (I.ok.frf b hb) fun z=>I.ok.exfs b z hb
theorem Inv.step {g':Array GenState} {t':Nat} {d':Drawn} {ch:List Addr} (I:Inv X pins σ H s)
  (hch : ∀ b∈ch,(b∈X.ex∨X.s₀.heap.objs.size≤b)∧b≠X.env.locals∧(∀ x c,X.env.cells.lookup x=some c→c≠b)∧∀ p∈X.pn++pins,p.1≠b)
  (keep : ∀ b o,b≠X.env.locals→b∉X.fs→b∉ch→s.heap.get? b=some o→H b=none→h'.get? b=some o)
  (slot : ∀ b o,b≠X.env.locals→b∈X.fs→b∉ch→s.heap.get? b=some o→H b=none→∃ sl,h'.get? b=some { o with slots:=sl }) (free : ∀ b o,b∉ch→s.heap.get? b=some o→H b=none→H' b=none)
  (there : ∀ b o,b∉ch→s.heap.get? b=some o→∃ o',h'.get? b=some o')
  (tups : ∀ b xs,H b=some (.tup xs)→H' b=some (.tup xs)) (frzs : ∀ b o u,H b=some (.frz o u)→H' b=some (.frz o u)) (tbls : ∀ b ps,H b=some (.tbl ps)→∃ more,H' b=some (.tbl (ps++more)))
  (ns : ∀ m,s.heap.Ns X.env.locals m→h'.Ns X.env.locals m) (hok:HOk X.prog X.w H' h') (hg:AllBare g') :
  Inv X pins σ H' { s with heap:=h',gens:=g',drawn:=d',toks:=t' }:=by
 have neL : ∀ b o,X.s₀.heap.get? b=some o→b≠X.env.locals:=fun b o e=>Nat.ne_of_lt (Nat.lt_of_lt_of_le (Heap.lt_size e) I.ok.above)
 have neC : ∀ b o,X.s₀.heap.get? b=some o→b∉X.ex→b∉ch:=fun b o e hx hb=>by
  rcases (hch b hb).1 with z | z
  ·exact hx z
  ·exact absurd (Nat.lt_of_lt_of_le (Heap.lt_size e) z) (Nat.lt_irrefl _)
 have cellK : ∀ x c,X.env.cells.lookup x=some c→∀ v,s.heap.IsCell c v→h'.IsCell c v:=fun x c e v ⟨o,ho,hd⟩=>by
  have nch:c∉ch:=fun z=>(hch c z).2.2.1 x c e rfl
  by_cases hc:c∈X.fs
  ·obtain ⟨sl,q⟩:=slot c o (I.cne x c e) hc nch ho (I.freeC x c e)
   exact ⟨_,q,hd⟩
  ·exact ⟨o,keep c o (I.cne x c e) hc nch ho (I.freeC x c e),hd⟩
 refine ⟨I.ok,I.os,hg,⟨fun b o e n hb hx=>?_,fun b o e n hb hx=>?_,fun b o e n hx=>?_,fun b o e hx=>?_,fun b xs e=>tups b xs (I.base.tups b xs e),fun b o xs e=>frzs b o xs (I.base.frzs b o xs e),fun b ps e=>?_⟩,?_,fun x c e=>?_,?_,fun x c e=>?_,fun p hp=>?_,hok,I.len⟩
 ·exact keep b o (neL b o e) hb (neC b o e hx) (I.base.keep b o e n hb hx) (I.base.free b o e n hx)
 ·obtain ⟨sl,e1⟩:=I.base.slot b o e n hb hx
  obtain ⟨sl',e2⟩:=slot b _ (neL b o e) hb (neC b o e hx) e1 (I.base.free b o e n hx)
  exact ⟨sl',e2⟩
 ·obtain ⟨o',e1⟩:=I.base.there b o e hx
  exact free b o' (neC b o e hx) e1 (I.base.free b o e n hx)
 ·obtain ⟨o',e1⟩:=I.base.there b o e hx
  exact there b o' (neC b o e hx) e1
 ·obtain ⟨m1,e1⟩:=I.base.tbls b ps e
  obtain ⟨m2,e2⟩:=tbls b _ e1
  exact ⟨m1++m2,by rw [e2,Array.append_assoc]⟩
 ·obtain ⟨m,hn,hl⟩:=I.loc
  refine ⟨m,ns m hn,fun i x v e1 e2 e3=>?_⟩
  obtain ⟨u,r,l⟩:=hl i x v e1 e2 e3
  refine ⟨u,r,?_⟩
  rcases l with l | ⟨k,c,e,z⟩
  ·exact .inl l
  ·exact .inr ⟨k,c,e,cellK x c e _ z⟩
 ·obtain ⟨v,z⟩:=I.cell x c e
  exact ⟨v,cellK x c e v z⟩
 ·obtain ⟨m,⟨o,_,_,ho,_⟩,_⟩:=I.loc
  exact free _ o (fun z=>(hch _ z).2.1 rfl) ho I.free
 ·obtain ⟨v,o,ho,hd⟩:=I.cell x c e
  exact free c o (fun z=>(hch c z).2.2.1 x c e rfl) ho (I.freeC x c e)
 ·obtain ⟨e,n,ne,nf,d⟩:=I.pin p hp
  have nch:p.1∉ch:=fun z=>(hch p.1 z).2.2.2 p hp rfl
  exact ⟨keep p.1 p.2 ne nf nch e n,free p.1 p.2 nch e n,ne,nf,d⟩
theorem Inv.un {t':Nat} (I:Inv X pins σ H s) (u:Un X.fs [] H H' s.heap h') (hok:HOk X.prog X.w H' h') : Inv X pins σ H' { s with heap:=h',toks:=t' }:=by
 obtain ⟨m,⟨o,es,ep,ho,r⟩,_⟩:=id I.loc
 obtain ⟨sl,hL⟩:=u.any ho I.free (by simp)
 exact I.step (g':=s.gens) (d':=s.drawn) (ch:=[]) (fun _ z=>nomatch z) (fun b o _ hb _ e n=>u.keep b o e n hb (by simp)) (fun b o _ hb _ e n=>u.slot b o e n hb (by simp)) (fun b o _ e n=>u.free b o e n (by simp)) (fun b o _ e=>u.there b o e (by simp)) u.tups u.frzs u.tbls (fun m' hm=>by
  obtain ⟨o',es',ep',ho',r'⟩:=hm
  rw [ho] at ho'; cases ho'
  exact ⟨_,es',ep',hL,r'⟩) hok I.bare
theorem Inv.call {g':Array GenState} {t':Nat} {d':Drawn} {ch:List Addr} (I:Inv X pins σ H s) (u:Un (frs X.stack) ch H H' s.heap h') (hok:HOk X.prog X.w H' h') (hg:AllBare g')
  (hch : ∀ b∈ch,(b∈X.ex∨X.s₀.heap.objs.size≤b)∧b≠X.env.locals∧(∀ x c,X.env.cells.lookup x=some c→c≠b)∧∀ p∈X.pn++pins,p.1≠b) :
  Inv X pins σ H' { s with heap:=h',gens:=g',drawn:=d',toks:=t' }:=by
 obtain ⟨m,⟨o,es,ep,ho,r⟩,_⟩:=id I.loc
 obtain ⟨sl,hL⟩:=u.any ho I.free fun z=>(hch _ z).2.1 rfl
 exact I.step (ch:=ch) hch (fun b o hL hb hc e n=>u.keep b o e n (fun z=>(List.mem_cons.mp (I.stkSub b z)).elim hL hb) hc) (fun b o _ _ hc e n=>u.any e n hc) (fun b o hc e n=>u.free b o e n hc) (fun b o hc e=>u.there b o e hc) u.tups u.frzs u.tbls (fun m' hm=>by
  obtain ⟨o',es',ep',ho',r'⟩:=hm
  rw [ho] at ho'; cases ho'
  exact ⟨_,es',ep',hL,r'⟩) hok hg
theorem Inv.turned {t':Nat} {it:Addr} (I:Inv X pins σ H s) (k : ∀ b o,b≠it→s.heap.get? b=some o→h'.get? b=some o) (hn:H it=none) (hL:it≠X.env.locals)
  (h1:it∈X.ex∨X.s₀.heap.objs.size≤it) (h2 : ∀ x c,X.env.cells.lookup x=some c→c≠it) (h3 : ∀ p∈X.pn++pins,p.1≠it) : Inv X pins σ H { s with heap:=h',toks:=t' }:=by
 have nit : ∀ b u,H b=some u→b≠it:=fun b u e z=>by rw [z,hn] at e; cases e
 refine I.step (g':=s.gens) (d':=s.drawn) (ch:=[it]) (fun b hb=>?_) (fun b o _ _ hc e _=>k b o (fun z=>hc (by simp [z])) e) (fun b o _ _ hc e _=>⟨o.slots,k b o (fun z=>hc (by simp [z])) e⟩) (fun _ _ _ _ n=>n)
  (fun b o hc e=>⟨o,k b o (fun z=>hc (by simp [z])) e⟩) (fun _ _ e=>e) (fun _ _ _ e=>e) (fun b ps e=>⟨#[],by rw [e]; simp⟩) (fun m hm=>?_) (fun b u e=>?_) I.bare
 ·have e:b=it:=by simpa using hb
  subst e
  exact ⟨h1,hL,h2,h3⟩
 ·obtain ⟨o,es,ep,ho,r⟩:=hm
  exact ⟨o,es,ep,k _ o (Ne.symm hL) ho,r⟩
 ·refine (I.hok b u e).stay (fun c v hc q=>k c v ?_ q) (fun _ q=>q) fun _ _ q=>q
  rcases hc with z | z
  ·rw [z]; exact nit b u e
  ·exact nit c _ z
theorem Inv.tok (I:Inv X pins σ H s) (t:Nat) : Inv X pins σ H { s with toks:=t }:=I.un (h':=s.heap) (t':=t) Un.refl I.hok
theorem Inv.kept {t':Nat} (I:Inv X pins σ H s) (k : ∀ b u,s.heap.get? b=some u→h'.get? b=some u) : Inv X pins σ H { s with heap:=h',toks:=t' }:=I.un (Un.kept k) (I.hok.kept k)
theorem Inv.laid {a:Addr} {o:HO} {t':Nat} (I:Inv X pins σ H s) (k : ∀ b u,s.heap.get? b=some u→h'.get? b=some u) (hp:s.heap.objs.size≤a) (new:ObjOk X.prog X.w (upd H a o) h' a o) :
  Inv X pins σ (upd H a o) { s with heap:=h',toks:=t' }:=I.un (Un.laid k hp (I.hok.fresh hp)) (I.hok.laid k hp new)
theorem Inv.write {x e:Addr} {o:HO} {t':Nat} (I:Inv X pins σ H s) (mu:Mut (H x)) (he:e=x∨H e=some (.own x)) (k : ∀ b u,b≠e→s.heap.get? b=some u→h'.get? b=some u) (heo : ∃ u,h'.get? e=some u)
  (new:ObjOk X.prog X.w (upd H x o) h' x o) : Inv X pins σ (upd H x o) { s with heap:=h',toks:=t' }:=I.un (Un.write mu he k heo) (I.hok.write mu he k heo new)
theorem Inv.pins_of {pins':List (Addr × Obj)} (I:Inv X pins σ H s) (h : ∀ p∈pins',s.heap.get? p.1=some p.2∧H p.1=none∧p.1≠X.env.locals∧p.1∉X.fs∧∀ v,p.2.data≠.cell v) : Inv X pins' σ H s :=
 ⟨I.ok,I.os,I.bare,I.base,I.loc,I.cell,I.free,I.freeC,fun p hp=>(List.mem_append.mp hp).elim (fun z=>I.pin p (List.mem_append_left _ z)) (h p),I.hok,I.len⟩
theorem nodup_ix {N:List Str} (hN:N.Nodup) {i j:Nat} {x:Str} (a:N[i]?=some x) (b:N[j]?=some x) : i=j:=by
 obtain ⟨h1,e1⟩:=List.getElem?_eq_some_iff.mp a
 obtain ⟨h2,e2⟩:=List.getElem?_eq_some_iff.mp b
 exact (List.getElem_inj hN).mp (e1.trans e2.symm)
theorem store_ok2 {M:Model} {A:Around} {E:Value→Shared→Prop} {i:Nat} {x:Str} {v:V} {u:Value} {Q:Unit→Shared→Prop} (I:Inv X pins σ H s) (hN:X.N.Nodup) (hi:X.N[i]?=some x) (hx:Loc X.env.scope x) (r:RelV v u)
  (h : ∀ s',Inv X pins (σ.set i (some v)) H s'→(∃ a,Heap.SameBut a s.heap s'.heap∧(a=X.env.locals∨X.env.cells.lookup x=some a))→Q () s') (hf:X.fn x=true∨X.env.scope.names.lookup x=some .local:=by first | exact .inl rfl | exact .inr rfl | assumption) : wpAny M A (storeName X.env x u) Q E s:=by
 obtain ⟨m,hn,hl⟩:=id I.loc
 have hcls:(X.env.scope.kind == .class || (X.env.scope.kind == .module && X.env.locals != X.env.globals))=false:=by rw [I.ok.kind]; rfl
 have hiσ : i<σ.length:=by rw [I.len]; exact (List.getElem?_eq_some_iff.mp hi).1
 have cne:=I.cne
 have tracked : ∀ {a:Addr} {h':Heap},(∃ o,s.heap.get? a=some o∧H a=none)→Heap.SameBut a s.heap h'→HOk X.prog X.w H h':=fun {a h'} ha hs b ob e=>by
  obtain ⟨_,_,hfree⟩:=ha
  refine (I.hok b ob e).stay (fun c w' hc q=>(hs.2 c ?_).trans q) (fun _ q=>q) fun _ _ q=>q
  rintro rfl
  rcases hc with rfl | hc
  ·rw [hfree] at e; cases e
  ·rw [hfree] at hc; cases hc
 rcases hx with hk | hk
 ·refine wpAny_storeName_local hk hn (fun h' hn' hs=>?_) hcls
  obtain ⟨oL,_,_,hoL,_⟩:=id hn
  refine h _ ⟨I.ok,I.os,I.bare,⟨fun b o e n hb hx=>?_,fun b o e n hb hx=>?_,I.base.free,fun b o e hx=>?_,I.base.tups,I.base.frzs,I.base.tbls⟩,⟨_,hn',fun j y v' e1 e2 e3=>?_⟩,fun y c e=>?_,I.free,I.freeC,fun p hp=>?_,tracked ⟨oL,hoL,I.free⟩ hs,by simpa using I.len⟩ ⟨_,hs,.inl rfl⟩
  ·exact (hs.2 b (Nat.ne_of_lt (Nat.lt_of_lt_of_le (Heap.lt_size e) I.ok.above))).trans (I.base.keep b o e n hb hx)
  ·obtain ⟨sl,e1⟩:=I.base.slot b o e n hb hx
   exact ⟨sl,(hs.2 b (Nat.ne_of_lt (Nat.lt_of_lt_of_le (Heap.lt_size e) I.ok.above))).trans e1⟩
  ·obtain ⟨o',e1⟩:=I.base.there b o e hx
   exact ⟨o',(hs.2 b (Nat.ne_of_lt (Nat.lt_of_lt_of_le (Heap.lt_size e) I.ok.above))).trans e1⟩
  ·by_cases hj:j=i
   ·subst hj
    rw [hi] at e1; cases e1
    rw [List.getElem?_set_self hiσ] at e2
    cases e2
    exact ⟨u,r,.inl ⟨hk,by simp⟩⟩
   ·rw [List.getElem?_set_ne (Ne.symm hj)] at e2
    obtain ⟨u',r',q⟩:=hl j y v' e1 e2 e3
    refine ⟨u',r',?_⟩
    rcases q with ⟨k,e⟩ | ⟨k,c,e,z⟩
    ·refine .inl ⟨k,?_⟩
     have:y≠x:=fun e=>hj (nodup_ix hN e1 (e ▸ hi))
     simp [this,e]
    ·exact .inr ⟨k,c,e,z.sameBut hs (cne y c e)⟩
  ·obtain ⟨w',z⟩:=I.cell y c e
   exact ⟨w',z.sameBut hs (cne y c e)⟩
  ·obtain ⟨e,n,ne,nf,d⟩:=I.pin p hp
   exact ⟨(hs.2 p.1 ne).trans e,n,ne,nf,d⟩
 ·have hfn:X.fn x=true:=by
   rcases hf with z | z
   ·exact z
   ·rw [z] at hk; cases hk
  obtain ⟨c,hc⟩:=I.ok.has x (.inl hk)
  obtain ⟨w',z⟩:=I.cell x c hc
  refine wpAny_storeName_cell I.ok.kind hk hc z (fun h' hc' hs=>?_)
  obtain ⟨oc,hoc,hocd⟩:=id z
  refine h { s with heap:=h' } ⟨I.ok,I.os,I.bare,⟨fun b o e n hb hx=>?_,fun b o e n hb hx=>?_,I.base.free,fun b o e hx=>?_,I.base.tups,I.base.frzs,I.base.tbls⟩,⟨m,hn.sameBut hs (Ne.symm (cne x c hc)),fun j y v' e1 e2 e3=>?_⟩,fun y c' e=>?_,I.free,I.freeC,fun p hp=>?_,tracked ⟨oc,hoc,I.freeC x c hc⟩ hs,by simpa using I.len⟩ ⟨c,hs,.inr hc⟩
  ·exact (hs.2 b (Nat.ne_of_lt (Nat.lt_of_lt_of_le (Heap.lt_size e) (I.ok.cab x c hfn hc)))).trans (I.base.keep b o e n hb hx)
  ·obtain ⟨sl,e1⟩:=I.base.slot b o e n hb hx
   exact ⟨sl,(hs.2 b (Nat.ne_of_lt (Nat.lt_of_lt_of_le (Heap.lt_size e) (I.ok.cab x c hfn hc)))).trans e1⟩
  ·obtain ⟨o',e1⟩:=I.base.there b o e hx
   exact ⟨o',(hs.2 b (Nat.ne_of_lt (Nat.lt_of_lt_of_le (Heap.lt_size e) (I.ok.cab x c hfn hc)))).trans e1⟩
  ·by_cases hj:j=i
   ·subst hj
    rw [hi] at e1; cases e1
    rw [List.getElem?_set_self hiσ] at e2
    cases e2
    exact ⟨u,r,.inr ⟨.inl hk,c,hc,hc'⟩⟩
   ·rw [List.getElem?_set_ne (Ne.symm hj)] at e2
    obtain ⟨u',r',q⟩:=hl j y v' e1 e2 e3
    refine ⟨u',r',?_⟩
    rcases q with q | ⟨k,c',e,z'⟩
    ·exact .inl q
    ·refine .inr ⟨k,c',e,z'.sameBut hs ?_⟩
     rintro rfl
     exact hj (nodup_ix hN e1 (I.ok.inj _ _ _ e hc ▸ hi))
  ·by_cases hcc:c'=c
   ·subst hcc; exact ⟨_,hc'⟩
   ·obtain ⟨w2,z2⟩:=I.cell y c' e
    exact ⟨w2,z2.sameBut hs hcc⟩
  ·obtain ⟨e,n,ne,nf,d⟩:=I.pin p hp
   refine ⟨(hs.2 p.1 ?_).trans e,n,ne,nf,d⟩
   intro q
   rw [q,hoc] at e
   have q':oc=p.2:=Option.some.inj e
   exact d w' (by rw [← q']; exact hocd)
theorem store_ok {M:Model} {A:Around} {E:Value→Shared→Prop} {i:Nat} {x:Str} {v:V} {u:Value} {Q:Unit→Shared→Prop} (I:Inv X pins σ H s) (hN:X.N.Nodup) (hi:X.N[i]?=some x) (hx:Loc X.env.scope x) (r:RelV v u)
  (h : ∀ s',Inv X pins (σ.set i (some v)) H s'→Q () s') (hf:X.fn x=true∨X.env.scope.names.lookup x=some .local:=by first | exact .inl rfl | exact .inr rfl | assumption) : wpAny M A (storeName X.env x u) Q E s :=
 store_ok2 I hN hi hx r (fun s' I' _=>h s' I') hf
theorem Inv.call' {s':Shared} {ch:List Addr} (I:Inv X pins σ H s) (ho:s'.os=s.os) (u:Un (frs X.stack) ch H H' s.heap s'.heap) (hok:HOk X.prog X.w H' s'.heap) (hg:AllBare s'.gens)
  (hch : ∀ b∈ch,(b∈X.ex∨X.s₀.heap.objs.size≤b)∧b≠X.env.locals∧(∀ x c,X.env.cells.lookup x=some c→c≠b)∧∀ p∈X.pn++pins,p.1≠b) : Inv X pins σ H' s':=by
 obtain ⟨h',g',d',t',o'⟩:=s'
 have e:o'=s.os:=ho
 subst e
 exact I.call (g':=g') (t':=t') (d':=d') u hok hg hch
end
abbrev XK:=Value→Option Addr→Hp→Prop
abbrev St:=List (Option V)
abbrev VK:=V→Hp→Prop
abbrev TE:=St→Hp→VK→Prop
abbrev TT:=St→Hp→(Bool→Hp→Prop)→Prop
abbrev TA:=St→Hp→(List V→Hp→Prop)→Prop
structure Ends where
 nx:St→Hp→Prop
 rt:VK
 bk:St→Hp→Prop:=fun _ _=>False
 ct:St→Hp→Prop:=fun _ _=>False
abbrev TS:=Ends→St→Hp→Prop
def EP (X:Cx) (pins:List (Addr × Obj)) (σ : St) (Q:VK) (u:Value) (s':Shared) : Prop:=∃ v H',Inv X pins σ H' s'∧RelV v u∧Q v H'
def TP (X:Cx) (pins:List (Addr × Obj)) (σ : St) (Q:Bool→Hp→Prop) (b:Bool) (s':Shared) : Prop:=∃ H',Inv X pins σ H' s'∧Q b H'
def AP (X:Cx) (pins:List (Addr × Obj)) (σ : St) (Q:List V→Hp→Prop) (us:List Value) (s':Shared) : Prop:=∃ vs H',Inv X pins σ H' s'∧Vals vs us∧Q vs H'
def SP (X:Cx) (pins:List (Addr × Obj)) (D:Ends) (f:Flow) (s':Shared) : Prop :=
 match f with
 | .next=>∃ σ' H',Inv X pins σ' H' s'∧D.nx σ' H'
 | .brk=>∃ σ' H',Inv X pins σ' H' s'∧D.bk σ' H'
 | .cont=>∃ σ' H',Inv X pins σ' H' s'∧D.ct σ' H'
 | .ret u=>∃ v σ' H',Inv X pins σ' H' s'∧RelV v u∧D.rt v H'
def PE (X:Cx) (e:Expr) (t:TE) : Prop :=
 ∀ (pins:List (Addr × Obj)) (s:Shared) (σ : St) (H:Hp) (Q:VK),Inv X pins σ H s→t σ H Q→wpAny (model X.prog X.w) X.A (eval e X.env) (EP X pins σ Q) X.xe s
def PT (X:Cx) (e:Expr) (t:TT) : Prop :=
 ∀ (pins:List (Addr × Obj)) (s:Shared) (σ : St) (H:Hp) (Q:Bool→Hp→Prop),Inv X pins σ H s→t σ H Q→wpAny (model X.prog X.w) X.A (isTrue e X.env (eval e X.env)) (TP X pins σ Q) X.xe s
def PW (X:Cx) (e:Expr) (t:TT) : Prop :=
 ∀ (whole:Sem Value) (pins:List (Addr × Obj)) (s:Shared) (σ : St) (H:Hp) (Q:Bool→Hp→Prop),Inv X pins σ H s→t σ H Q→wpAny (model X.prog X.w) X.A (isTrue e X.env whole) (TP X pins σ Q) X.xe s
theorem PW.pt {X:Cx} {e:Expr} {t:TT} (h:PW X e t) : PT X e t:=h _
def PA (X:Cx) (es:List Expr) (t:TA) : Prop :=
 ∀ (pos:Pos) (pins:List (Addr × Obj)) (s:Shared) (σ : St) (H:Hp) (Q:List V→Hp→Prop),Inv X pins σ H s→t σ H Q→wpAny (model X.prog X.w) X.A (spliced (backTo pos (starEach es X.env))) (AP X pins σ Q) X.xe s
def PS (X:Cx) (st:Stmt) (t:TS) : Prop :=
 ∀ (pins:List (Addr × Obj)) (s:Shared) (σ : St) (H:Hp) (D:Ends),Inv X pins σ H s→t D σ H→wpAny (model X.prog X.w) X.A (exec st X.env) (SP X pins D) X.xe s
def PSs (X:Cx) (st:List Stmt) (t:TS) : Prop :=
 ∀ (pins:List (Addr × Obj)) (s:Shared) (σ : St) (H:Hp) (D:Ends),Inv X pins σ H s→t D σ H→wpAny (model X.prog X.w) X.A (execs st X.env) (SP X pins D) X.xe s
theorem thn {α : Type} {t:Sem α} {Q Q' : α→Shared→Prop} {M:Model} {A:Around} {E:Value→Shared→Prop} {s:Shared} (h:wpAny M A t Q E s) (hQ : ∀ a s,Q a s→Q' a s) : wpAny M A t Q' E s:=wpAny_mono h hQ fun _ _ x=>x
end L2
namespace L2
open PySem PySem.Spec PyProof.Rows
section
variable {X:Cx}
theorem bin {a b:Expr} {ta tb:TE} (ha:PE X a ta) (hb:PE X b tb) {pins:List (Addr × Obj)} {s:Shared} {σ : St} {H:Hp} {R:V→V→Hp→Prop} (I:Inv X pins σ H s) (h:ta σ H fun x H1=>tb σ H1 fun y H2=>R x y H2)
  {α : Type} {Q : α→Shared→Prop} {f:Value→Value→Sem α}
  (hf : ∀ v u s2 x y H2,Inv X pins σ H2 s2→RelV x v→RelV y u→R x y H2→wpAny (model X.prog X.w) X.A (f v u) Q X.xe s2) :
  wpAny (model X.prog X.w) X.A (eval a X.env) (fun v s₁=>wpAny (model X.prog X.w) X.A (eval b X.env) (fun u s₂=>wpAny (model X.prog X.w) X.A (f v u) Q X.xe s₂) X.xe s₁) X.xe s:=by
 refine thn (ha pins s σ H _ I h) fun v s1 ⟨x,H1,I1,r1,q1⟩=>?_
 refine thn (hb pins s1 σ H1 _ I1 q1) fun u s2 ⟨y,H2,I2,r2,q2⟩=>?_
 exact hf v u s2 x y H2 I2 r1 r2 q2
def tVar (i:Nat) : TE:=fun σ H Q=>∃ v,σ[i]?=some (some v)∧Q v H
def tC (v:V) : TE:=fun _ H Q=>Q v H
theorem pe_var {i:Nat} {x:Str} {pos:Pos} (hN:X.N[i]?=some x) (hv:Vis X.env.scope x) (hd:(x == ("__debug__" : Str))=false:=by decide) (hcd:(x == ("__classdict__" : Str))=false:=by decide) : PE X (.Name x pos) (tVar i):=by
 intro pins s σ H Q I h
 obtain ⟨v,e,h⟩:=h
 obtain ⟨m,hn,hl⟩:=I.loc
 obtain ⟨u,r,l⟩:=hl i x v hN e hv
 have fin:EP X pins σ Q u s:=⟨v,H,I,r,h⟩
 rcases l with ⟨hk,hm⟩ | ⟨hk,c,hc,hcell⟩
 ·exact wpAny_Name (wpAny_loadName_local I.ok.kind hk hn hm fin) hd
 ·rcases hk with hk | hk
  ·exact wpAny_Name (wpAny_loadName_cell I.ok.kind hk hc hcell fin) hd
  ·exact wpAny_Name (wpAny_loadName_free I.ok.kind hk hc hcell fin hcd) hd
theorem pe_int {i j pos} : PE X (.Constant (.int i) j pos) (tC (.int i)):=fun _ _ _ H _ I h=>wpAny_Constant_int ⟨.int i,H,I.tok _,⟨_,rfl⟩,h⟩
theorem pe_bl {b j pos} : PE X (.Constant (.bool b) j pos) (tC (.bl b)):=fun _ _ _ H _ I h=>Constant_bool ⟨.bl b,H,I,rfl,h⟩
theorem pe_str {x j pos} : PE X (.Constant (.str x) j pos) (tC (.str x)):=fun _ _ _ H _ I h=>Calls.Constant_str ⟨.str x,H,I.tok _,⟨_,rfl⟩,h⟩
def Gl (X:Cx) (x:Str) : Prop:=X.env.kindOf x=some .globalImplicit
theorem ld_glob {E:Value→Shared→Prop} {pins:List (Addr × Obj)} {s:Shared} {σ : St} {H:Hp} {x:Str} {u:Value} {pos:Pos} {Q:Value→Shared→Prop} (I:Inv X pins σ H s) (hg:Gl X x) (hm:X.mg x=some u) (h:Q u s)
  (hd:(x == ("__debug__" : Str))=false:=by decide) : wpAny (model X.prog X.w) X.A (eval (.Name x pos) X.env) Q E s :=
 Calls.Name_function_global I.ok.kind hg (Calls.loadGlobal_global (by rw [I.ok.glob]; exact I.mod.glob.keeps I.bk) hm h) hd
theorem ld_blt {E:Value→Shared→Prop} {pins:List (Addr × Obj)} {s:Shared} {σ : St} {H:Hp} {x:Str} {u:Value} {pos:Pos} {Q:Value→Shared→Prop} (I:Inv X pins σ H s) (hg:Gl X x) (hm:X.mg x=none) (hv:bootBuiltins x=some u) (h:Q u s)
  (hn:x ≠ "__name__" := by decide) (hd:(x == ("__debug__" : Str))=false:=by decide) : wpAny (model X.prog X.w) X.A (eval (.Name x pos) X.env) Q E s:=by
 obtain ⟨mb,h1,h2⟩:=I.mod.blt
 exact Calls.Name_function_global I.ok.kind hg (Calls.loadGlobal_builtin (by rw [I.ok.glob]; exact I.mod.glob.keeps I.bk) hm (by rw [I.ok.blt]; exact h1.keeps I.bk) ((h2 x hn).trans hv) h) hd
theorem pe_glob {x:Str} {v:V} {u:Value} {pos:Pos} (hg:Gl X x) (hm:X.mg x=some u) (r:RelV v u) (hd:(x == ("__debug__" : Str))=false:=by decide) : PE X (.Name x pos) (tC v) :=
 fun _ _ _ H _ I h=>ld_glob I hg hm ⟨v,H,I,r,h⟩ hd
theorem pe_bltn {x:Str} {v:V} {u:Value} {pos:Pos} (hg:Gl X x) (hm:X.mg x=none) (hv:bootBuiltins x=some u) (r:RelV v u) (hn:x ≠ "__name__" := by decide) (hd:(x == ("__debug__" : Str))=false:=by decide) : PE X (.Name x pos) (tC v) :=
 fun _ _ _ H _ I h=>ld_blt I hg hm hv ⟨v,H,I,r,h⟩ hn hd
variable {a b:Expr} {ta tb:TE} {pos:Pos}
def PC (X:Cx) (op:CmpOp) (a b:Expr) (t:TE) : Prop :=
 ∀ (pins:List (Addr × Obj)) (s:Shared) (σ : St) (H:Hp) (Q:VK),Inv X pins σ H s→t σ H Q →
  wpAny (model X.prog X.w) X.A (eval a X.env) (fun v s₁=>wpAny (model X.prog X.w) X.A (eval b X.env) (fun u s₂=>wpAny (model X.prog X.w) X.A (compareOp op v u) (EP X pins σ Q) X.xe s₂) X.xe s₁) X.xe s
def tB (t:TE) : TT:=fun σ H Q=>t σ H fun x H1=>∃ c,x=.bl c∧Q c H1
theorem pt_cmp {op:CmpOp} {t:TE} (h:PC X op a b t) (h1:behindInMarks op b=false:=by first | exact nobehind _ (by decide) (by decide) | rfl) : PT X (.Compare a [op] [b] pos) (tB t):=by
 intro pins s σ H Q I hw
 refine wpAny_isTrue_Compare1 (thn (h pins s σ H _ I hw) fun v s1 h1=>thn h1 fun u s2 h2=>thn h2 fun c s3 ⟨x,H1,I1,r1,q1⟩=>?_) h1
 obtain ⟨d,rfl,q⟩:=q1
 cases r1
 exact wpAny_truthy_bool ⟨H1,I1,q⟩
theorem pt_val {e:Expr} {t:TE} (h:PE X e t) (he : ∀ whole,isTrue e X.env whole=(do let v ← whole; standAt e.pos; holding [v] (truthy v)):=by intro _; rfl) : PT X e (tB t):=by
 intro pins s σ H Q I hw
 refine isTrue_plain (thn (h pins s σ H _ I hw) fun v s1 ⟨x,H1,I1,r1,q1⟩=>?_) (he _)
 obtain ⟨d,rfl,q⟩:=q1
 cases r1
 exact wpAny_truthy_bool ⟨H1,I1,q⟩
variable {tA tB':TT} {rest:List Expr}
def tAnd (t u:TT) : TT:=fun σ H Q=>t σ H fun c H1=>if c=true then u σ H1 Q else Q false H1
def tOr (t u:TT) : TT:=fun σ H Q=>t σ H fun c H1=>if c=true then Q true H1 else u σ H1 Q
def tNot (t:TT) : TT:=fun σ H Q=>t σ H fun c H1=>Q (!c) H1
theorem pw_and1 (ha:PT X a tA) : PW X (.BoolOp .And [a] pos) tA:=by
 intro wh pins s σ H Q I h
 refine isTrue_and (thn (ha pins s σ H Q I h) fun c s1 e=>?_)
 cases c with
 | true=>exact isTrue_and_nil e
 | false=>exact e
theorem pw_or1 (ha:PT X a tA) : PW X (.BoolOp .Or [a] pos) tA:=by
 intro wh pins s σ H Q I h
 refine isTrue_or (thn (ha pins s σ H Q I h) fun c s1 e=>?_)
 cases c with
 | false=>exact isTrue_or_nil e
 | true=>exact e
theorem pw_and (ha:PT X a tA) (hb:PW X (.BoolOp .And (b :: rest) pos) tB') : PW X (.BoolOp .And (a :: b :: rest) pos) (tAnd tA tB'):=by
 intro wh pins s σ H Q I h
 refine isTrue_and (thn (ha pins s σ H _ I h) fun c s1 ⟨H1,I1,q1⟩=>?_)
 cases c with
 | true=>exact hb wh pins s1 σ H1 Q I1 q1
 | false=>exact ⟨H1,I1,q1⟩
theorem pw_or (ha:PT X a tA) (hb:PW X (.BoolOp .Or (b :: rest) pos) tB') : PW X (.BoolOp .Or (a :: b :: rest) pos) (tOr tA tB'):=by
 intro wh pins s σ H Q I h
 refine isTrue_or (thn (ha pins s σ H _ I h) fun c s1 ⟨H1,I1,q1⟩=>?_)
 cases c with
 | true=>exact ⟨H1,I1,q1⟩
 | false=>exact hb wh pins s1 σ H1 Q I1 q1
theorem pt_not (ha:PT X a tA) : PT X (.UnaryOp .Not a pos) (tNot tA):=by
 intro pins s σ H Q I h
 exact isTrue_not (ha pins s σ H (fun c H1=>Q (!c) H1) I h)
def tAndV (ta tb:TE) : TE:=fun σ H Q=>ta σ H fun x H1=>∃ c,x=.bl c∧if c=true then tb σ H1 Q else Q (.bl false) H1
def tNotV (ta:TE) : TE:=fun σ H Q=>ta σ H fun x H1=>∃ c,x=.bl c∧Q (.bl (!c)) H1
theorem pe_one {op} {t:TE} (h:PE X a t) : PE X (.BoolOp op [a] pos) t:=fun pins s σ H Q I hw=>BoolOp_one (h pins s σ H Q I hw)
theorem pe_and (ha:PE X a ta) (hb:PE X (.BoolOp .And (b :: rest) pos) tb) : PE X (.BoolOp .And (a :: b :: rest) pos) (tAndV ta tb):=by
 intro pins s σ H Q I h
 refine BoolOp_and (thn (ha pins s σ H _ I h) fun v s1 ⟨x,H1,I1,r1,q1⟩=>?_)
 obtain ⟨c,rfl,q1⟩:=q1
 cases r1
 refine wpAny_truthy_bool ?_
 cases c with
 | true=>exact hb pins s1 σ H1 Q I1 q1
 | false=>exact ⟨.bl false,H1,I1,rfl,q1⟩
theorem pe_not (ha:PE X a ta) : PE X (.UnaryOp .Not a pos) (tNotV ta):=by
 intro pins s σ H Q I h
 refine UnaryOp_ (thn (ha pins s σ H _ I h) fun v s1 ⟨x,H1,I1,r1,q1⟩=>?_)
 obtain ⟨c,rfl,q1⟩:=q1
 cases r1
 exact not_of (wpAny_truthy_bool ⟨.bl (!c),H1,I1,rfl,q1⟩)
def tIf (t:TT) (ta tb:TE) : TE:=fun σ H Q=>t σ H fun c H1=>if c=true then ta σ H1 Q else tb σ H1 Q
theorem pe_ifExp {c:Expr} (hc:PT X c tA) (ha:PE X a ta) (hb:PE X b tb) : PE X (.IfExp c a b pos) (tIf tA ta tb):=by
 intro pins s σ H Q I h
 refine wpAny_IfExp (thn (hc pins s σ H _ I h) fun d s1 ⟨H1,I1,q1⟩=>?_)
 cases d with
 | true=>exact ha pins s1 σ H1 Q I1 q1
 | false=>exact hb pins s1 σ H1 Q I1 q1
end
end L2
namespace L2
open PySem PySem.Spec PyProof.Rows
def SqL (K:PySem.W.Frag) (H:Hp) (a:Addr) (xs:List V) : Prop :=
 Rd H a (.lst xs) ∨
  ∃ (o:Obj) (its:Array Value) (n:Nat),K.lookup a=some o∧o.cls=.type "list" ∧ o.dict=none∧o.data=.seq its n∧its.size≤sizeLine∧Vals xs its.toList
def SqT (K:PySem.W.Frag) (H:Hp) (a:Addr) (xs:List V) : Prop :=
 Rd H a (.tup xs) ∨
  ∃ (o:Obj) (its:Array Value) (n:Nat),K.lookup a=some o∧o.cls=.type "tuple" ∧ o.data=.seq its n∧its.size≤sizeLine∧Vals xs its.toList
def absV:Value→Option V
 | .none=>some .non
 | .bool b=>some (.bl b)
 | .int i _=>some (.int i)
 | .str x _=>some (.str x)
 | .bytes b _=>some (.byt b)
 | .float b _=>some (.flt b)
 | .ref a=>some (.ref a)
 | .type n=>some (.ty n)
 | _=>none
theorem RelV.abs {x:V} {u:Value} (r:RelV x u) : absV u=some x:=by
 cases x with
 | non=>cases r; rfl
 | bl _=>cases r; rfl
 | int _=>obtain ⟨t,rfl⟩:=r; rfl
 | str _=>obtain ⟨t,rfl⟩:=r; rfl
 | byt _=>obtain ⟨t,rfl⟩:=r; rfl
 | flt _=>obtain ⟨t,rfl⟩:=r; rfl
 | ref _=>cases r; rfl
 | ty _=>cases r; rfl
theorem RelV.inj {x y:V} {u:Value} (r:RelV x u) (q:RelV y u) : x=y:=Option.some.inj (r.abs.symm.trans q.abs)
theorem Vals.inj : ∀ {xs ys:List V} {us:List Value},Vals xs us→Vals ys us→xs=ys
 | _,_,_,.nil,.nil=>rfl
 | _,_,_,.cons r t,.cons r' t'=>by rw [r.inj r',Vals.inj t t']
section
variable {X:Cx} {pins:List (Addr × Obj)} {σ : St} {H:Hp} {s:Shared} {a:Addr} {xs ys:List V}
theorem SqL.of {K:PySem.W.Frag} (h:H a=some (.lst xs)) : SqL K H a xs:=.inl (.inl h)
theorem SqT.of {K:PySem.W.Frag} (h:H a=some (.tup xs)) : SqT K H a xs:=.inl (.inl h)
theorem Inv.list (I:Inv X pins σ H s) (h:SqL X.K H a xs) : ∃ its:List Value,Vals xs its∧PlainL s.heap a its.toArray∧xs.length≤sizeLine:=by
 rcases h with h | ⟨o,its,n,hk,hc,hd,hs,hz,r⟩
 ·obtain ⟨z,its,n,r,e⟩:=h.ok I.hok
  exact ⟨its,r,⟨_,n,e,rfl,rfl,rfl⟩,z⟩
 ·refine ⟨its.toList,r,⟨o,n,I.kIn a o hk,hc,hd,by simpa using hs⟩,?_⟩
  have e:=r.length
  simp only [Array.length_toList] at e
  omega
theorem Inv.tuple (I:Inv X pins σ H s) (h:SqT X.K H a xs) : ∃ its:List Value,Vals xs its∧IsTup s.heap a its.toArray∧xs.length≤sizeLine:=by
 rcases h with h | ⟨o,its,n,hk,hc,hs,hz,r⟩
 ·obtain ⟨z,its,r,p⟩:=h.ok I.hok
  exact ⟨its,r,p,z⟩
 ·refine ⟨its.toList,r,⟨o,I.kIn a o hk,hc,n,by simpa using hs⟩,?_⟩
  have e:=r.length
  simp only [Array.length_toList] at e
  omega
theorem Inv.list_inj (I:Inv X pins σ H s) (h:SqL X.K H a xs) (h':SqL X.K H a ys) : xs=ys:=by
 obtain ⟨its,r,⟨o,n,e,_,_,d⟩,_⟩:=I.list h
 obtain ⟨its',r',⟨o',n',e',_,_,d'⟩,_⟩:=I.list h'
 rw [e] at e'; cases e'
 rw [d] at d'
 injection d' with d1 _
 have:its=its':=by simpa using congrArg Array.toList d1
 subst this
 exact r.inj r'
theorem Inv.tuple_inj (I:Inv X pins σ H s) (h:SqT X.K H a xs) (h':SqT X.K H a ys) : xs=ys:=by
 obtain ⟨its,r,⟨o,e,_,n,d⟩,_⟩:=I.tuple h
 obtain ⟨its',r',⟨o',e',_,n',d'⟩,_⟩:=I.tuple h'
 rw [e] at e'; cases e'
 rw [d] at d'
 injection d' with d1 _
 have:its=its':=by simpa using congrArg Array.toList d1
 subst this
 exact r.inj r'
end
abbrev Cx.wish (X:Cx) (E:Value→Shared→Prop) : Cx:={ X with xe:=E }
abbrev Cx.nox (X:Cx) : Cx:=X.wish fun _ _=>False
theorem Cx.Ok.wish {X:Cx} (ok:X.Ok) (E:Value→Shared→Prop) : (X.wish E).Ok :=
 ⟨ok.mod,ok.kind,ok.glob,ok.blt,ok.above,ok.inj,ok.has,ok.cab,ok.hd,ok.frames,ok.stk,ok.exf,ok.bs,ok.bsz,ok.noex,ok.exfs,ok.funs,ok.frf⟩
theorem Cx.Ok.unwish {X:Cx} {E:Value→Shared→Prop} (ok:(X.wish E).Ok) : X.Ok :=
 ⟨ok.mod,ok.kind,ok.glob,ok.blt,ok.above,ok.inj,ok.has,ok.cab,ok.hd,ok.frames,ok.stk,ok.exf,ok.bs,ok.bsz,ok.noex,ok.exfs,ok.funs,ok.frf⟩
section
variable {X:Cx} {pins:List (Addr × Obj)} {σ : St} {H:Hp} {s:Shared} {E:Value→Shared→Prop}
theorem Inv.wish (I:Inv X pins σ H s) (E:Value→Shared→Prop) : Inv (X.wish E) pins σ H s:=⟨I.ok.wish E,I.os,I.bare,I.base,I.loc,I.cell,I.free,I.freeC,I.pin,I.hok,I.len⟩
theorem Inv.unwish (I:Inv (X.wish E) pins σ H s) : Inv X pins σ H s:=⟨I.ok.unwish,I.os,I.bare,I.base,I.loc,I.cell,I.free,I.freeC,I.pin,I.hok,I.len⟩
theorem SP.unwish {D:Ends} {f:Flow} {s':Shared} (h:SP (X.wish E) pins D f s') : SP X pins D f s':=by
 cases f with
 | next=>obtain ⟨σ',H',I,q⟩:=h; exact ⟨σ',H',I.unwish,q⟩
 | brk=>obtain ⟨σ',H',I,q⟩:=h; exact ⟨σ',H',I.unwish,q⟩
 | cont=>obtain ⟨σ',H',I,q⟩:=h; exact ⟨σ',H',I.unwish,q⟩
 | ret u=>obtain ⟨v,σ',H',I,r,q⟩:=h; exact ⟨v,σ',H',I.unwish,r,q⟩
theorem PSs.nox {st:List Stmt} {t:TS} (h:PSs X.nox st t) : PSs X st t:=fun pins s σ H D I hw =>
 wpAny_mono (h pins s σ H D (I.wish _) hw) (fun _ _ q=>q.unwish) fun _ _ z=>False.elim z
end
section
variable {X:Cx} {st:Stmt} {rest:List Stmt} {t u:TS} {e:Expr} {te:TE} {pos:Pos}
def tNext:TS:=fun D σ H=>D.nx σ H
def tSeq (t u:TS) : TS:=fun D σ H=>t { D with nx:=u D } σ H
theorem pss_nil:PSs X [] tNext:=fun _ _ σ H _ I h=>wpAny_execs_nil ⟨σ,H,I,h⟩
theorem pss_cons (h1:PS X st t) (h2:PSs X rest u) : PSs X (st :: rest) (tSeq t u):=by
 intro pins s σ H D I h
 refine wpAny_execs_cons (thn (h1 pins s σ H { D with nx:=u D } I h) fun f s1 q=>?_)
 cases f with
 | next =>
  obtain ⟨σ',H',I',q⟩:=q
  exact h2 pins s1 σ' H' D I' q
 | ret v=>exact q
 | brk=>exact q
 | cont=>exact q
theorem pss_one (h1:PS X st t) : PSs X [st] t:=by
 intro pins s σ H D I h
 refine wpAny_execs_cons (thn (h1 pins s σ H D I h) fun f s1 q=>?_)
 cases f with
 | next=>exact wpAny_execs_nil q
 | ret v=>exact q
 | brk=>exact q
 | cont=>exact q
theorem Inv.quiet {pins:List (Addr × Obj)} {σ : St} {H:Hp} {s:Shared} (I:Inv X pins σ H s) : interactive X.env=false:=by simp [interactive,I.ok.kind]
def tDrop (te:TE) : TS:=fun D σ H=>te σ H fun _ H1=>D.nx σ H1
theorem ps_expr (he:PE X e te) (hs:swapsWith e none pos.line X.env=pure false:=by rfl) : PS X (.Expr e pos) (tDrop te):=by
 intro pins s σ H D I h
 exact wpAny_Expr_any (thn (he pins s σ H _ I h) fun v s1 ⟨x,H1,I1,r1,q1⟩=>⟨σ,H1,I1,q1⟩) I.quiet hs
def tRet (te:TE) : TS:=fun D σ H=>te σ H D.rt
theorem ps_ret (he:PE X e te) : PS X (.Return (some e) pos) (tRet te):=by
 intro pins s σ H D I h
 exact wpAny_Return_some (thn (he pins s σ H _ I h) fun v s1 ⟨x,H1,I1,r1,q1⟩=>⟨x,σ,H1,I1,r1,q1⟩)
def tIfS (c:TT) (t u:TS) : TS:=fun D σ H=>c σ H fun b H1=>if b=true then t D σ H1 else u D σ H1
theorem ps_if {c:Expr} {a b:List Stmt} {tc:TT} (hc:PT X c tc) (ha:PSs X a t) (hb:PSs X b u) : PS X (.If c a b pos) (tIfS tc t u):=by
 intro pins s σ H D I h
 refine wpAny_If (thn (hc pins s σ H _ I h) fun d s1 ⟨H1,I1,q1⟩=>?_)
 cases d with
 | true=>exact ha pins s1 σ H1 D I1 q1
 | false=>exact hb pins s1 σ H1 D I1 q1
def tNever:TS:=fun _ _ _=>False
theorem ps_never:PS X st tNever:=fun _ _ _ _ _ _ h=>h.elim
end
abbrev TG:=V→St→Hp→(St→Hp→Prop)→Prop
abbrev TGs:=List V→St→Hp→(St→Hp→Prop)→Prop
def PG (X:Cx) (target:Expr) (t:TG) : Prop :=
 ∀ (pins:List (Addr × Obj)) (s:Shared) (σ : St) (H:Hp) (v:V) (u:Value) (Q:St→Hp→Prop),Inv X pins σ H s→RelV v u→t v σ H Q →
  wpAny (model X.prog X.w) X.A (assign target X.env u) (fun _ s'=>∃ σ' H',Inv X pins σ' H' s'∧Q σ' H') X.xe s
def PGs (X:Cx) (ts:List Expr) (t:TGs) : Prop :=
 ∀ (pins:List (Addr × Obj)) (s:Shared) (σ : St) (H:Hp) (vs:List V) (us:List Value) (Q:St→Hp→Prop),Inv X pins σ H s→Vals vs us→t vs σ H Q →
  wpAny (model X.prog X.w) X.A (assignInOrder ((assignEach ts X.env).map (·.2)) us) (fun _ s'=>∃ σ' H',Inv X pins σ' H' s'∧Q σ' H') X.xe s
abbrev TSet:=V→V→V→Hp→(Hp→Prop)→Prop
def PSet (X:Cx) (t:TSet) : Prop :=
 ∀ (pins:List (Addr × Obj)) (s:Shared) (σ : St) (H:Hp) (o i v:V) (ov iv u:Value) (Q:Hp→Prop),Inv X pins σ H s→RelV o ov→RelV i iv→RelV v u→t o i v H Q →
  wpAny (model X.prog X.w) X.A (setItem ov iv u) (fun _ s'=>∃ H',Inv X pins σ H' s'∧Q H') X.xe s
section
variable {X:Cx} {pos:Pos}
def gName (i:Nat) : TG:=fun v σ H Q=>Q (σ.set i (some v)) H
theorem pg_name {i:Nat} {x:Str} (hN:X.N.Nodup) (hi:X.N[i]?=some x) (hx:Loc X.env.scope x) (hf:X.fn x=true∨X.env.scope.names.lookup x=some .local:=by first | exact .inl rfl | exact .inr rfl | assumption) : PG X (.Name x pos) (gName i):=by
 intro pins s σ H v u Q I r h
 exact wpAny_assign_Name (store_ok I hN hi hx r (fun s' I'=>⟨_,H,I',h⟩) hf)
def gNil:TGs:=fun vs σ H Q=>vs=[]∧Q σ H
def gCons (t:TG) (u:TGs) : TGs:=fun vs σ H Q=>∃ v r,vs=v :: r∧t v σ H fun σ' H'=>u r σ' H' Q
theorem pgs_nil:PGs X [] gNil:=by
 intro pins s σ H vs us Q I r h
 obtain ⟨e,h⟩:=h
 subst e
 cases r
 exact assignInOrder_nil ⟨σ,H,I,h⟩
theorem pgs_cons {e:Expr} {es:List Expr} {t:TG} {u:TGs} (h1:PG X e t) (h2:PGs X es u)
  (hs:(assignEach (e :: es) X.env).map (·.2)=assign e X.env :: (assignEach es X.env).map (·.2):=by rfl) : PGs X (e :: es) (gCons t u):=by
 intro pins s σ H vs us Q I r h
 obtain ⟨v,vr,e1,h⟩:=h
 subst e1
 cases r with
 | cons r rr =>
  rw [hs]
  refine assignInOrder_cons (thn (h1 pins s σ H _ _ _ I r h) fun _ s1 ⟨σ1,H1,I1,q1⟩=>?_)
  exact h2 pins s1 σ1 H1 _ _ Q I1 rr q1
def gTup (K:PySem.W.Frag) (n:Nat) (t:TGs) : TG:=fun v σ H Q=>∃ a xs,v=.ref a∧SqT K H a xs∧xs.length=n∧t xs σ H Q
theorem pg_tup {es:List Expr} {k:Nat} {t:TGs} {n:Nat} (hc:X.calm=true) (h:PGs X es t)
  (hn:(assignEach es X.env).length=n:=by rfl) (hst:(assignEach es X.env).findIdx? (·.1)=none:=by rfl) : PG X (.Tuple es k pos) (gTup X.K n t):=by
 intro pins s σ H v u Q I r hw
 obtain ⟨a,xs,e1,hq,hl,hw⟩:=hw
 subst e1
 cases r
 obtain ⟨its,rv,ht,hz⟩:=I.tuple hq
 refine assign_Tuple_tuple (I.ok.hd hc) ht (by simp [hn,← hl,rv.length]) hst fun h' hx=>?_
 have I1:Inv X pins σ H { s with heap:=h' }:=I.kept (t':=s.toks) fun b o e=>hx b o (Nat.ne_of_lt (Heap.lt_size e)) e
 exact h pins _ σ H xs _ Q I1 (by simpa using rv) hw
def gSub (to ti:TE) (t:TSet) : TG:=fun v σ H Q=>to σ H fun o H1=>ti σ H1 fun i H2=>t o i v H2 fun H3=>Q σ H3
theorem pg_sub {o i:Expr} {to ti:TE} {t:TSet} (ho:PE X o to) (hi:PE X i ti) (hs:PSet X t)
  (ha : ∀ v,assign (.Subscript o i pos) X.env v=(do
   let ov ← holding [v] (eval o X.env)
   let iv ← holding [v,ov] (eval i X.env)
   standAt pos
   holding [v,ov,iv] (setItem ov iv v)
   release [v,ov,iv] []):=by intro _; rfl) : PG X (.Subscript o i pos) (gSub to ti t):=by
 intro pins s σ H v u Q I r h
 rw [ha]
 refine wpAny_bind (wpAny_holding (thn (ho pins s σ H _ I h) fun ov s1 ⟨x,H1,I1,r1,q1⟩=>?_))
 refine wpAny_bind (wpAny_holding (thn (hi pins s1 σ H1 _ I1 q1) fun iv s2 ⟨y,H2,I2,r2,q2⟩=>?_))
 refine wpAny_bind (wpAny_standAt (wpAny_bind (wpAny_holding (thn (hs pins s2 σ H2 x y v ov iv u _ I2 r1 r2 r q2) fun _ s3 ⟨H3,I3,q3⟩=>?_))))
 exact wpAny_release ⟨σ,H3,I3,q3⟩
def tAsg (te:TE) (g:TG) : TS:=fun D σ H=>te σ H fun x H1=>g x σ H1 D.nx
theorem ps_asg {tg e:Expr} {te:TE} {g:TG} (he:PE X e te) (hg:PG X tg g) (hs:swapsWithSole [tg] e pos.line X.env=pure false:=by rfl) (hw:swappedStores [tg] e X.env=pure none:=by rfl)
  (h1:(assignEach [tg] X.env).map (·.2)=[assign tg X.env]:=by rfl) : PS X (.Assign [tg] e pos) (tAsg te g):=by
 intro pins s σ H D I h
 refine wpAny_Assign_stores (thn (he pins s σ H _ I h) fun v s1 ⟨x,H1,I1,r1,q1⟩=>?_) hs hw
 rw [h1]
 exact thn (hg pins s1 σ H1 x v _ I1 r1 q1) fun _ s2 q=>q
theorem ps_set {i:Nat} {x:Str} {e:Expr} {te:TE} {pos':Pos} (hN:X.N.Nodup) (hi:X.N[i]?=some x) (hx:Loc X.env.scope x) (he:PE X e te) (hs:swapsWith e (some (.Name x pos')) pos.line X.env=pure false:=by rfl) (hf:X.fn x=true∨X.env.scope.names.lookup x=some .local:=by first | exact .inl rfl | exact .inr rfl | assumption) :
  PS X (.Assign [.Name x pos'] e pos) (tAsg te (gName i)):=by
 intro pins s σ H D I h
 refine wpAny_Assign_Name (thn (he pins s σ H _ I h) fun v s1 ⟨y,H1,I1,r1,q1⟩=>?_) hs
 exact store_ok I1 hN hi hx r1 (fun s2 I2=>⟨_,H1,I2,q1⟩) hf
def tPar (i j:Nat) (ta:TA) : TS:=fun D σ H=>ta σ H fun vs H1=>∃ v w,vs=[v,w]∧D.nx ((σ.set i (some v)).set j (some w)) H1
theorem ps_par {i j:Nat} {x y:Str} {a b:Expr} {ta:TA} {px py pt:Pos} {kt k2 pt2} (hc:X.calm=true) (hN:X.N.Nodup) (hi:X.N[i]?=some x) (hj:X.N[j]?=some y) (hij:i≠j)
  (hx:X.env.scope.names.lookup x=some .local) (hy:X.env.scope.names.lookup y=some .local) (ha:PA X [a,b] ta)
  (hw:swappedStores [.Tuple [.Name x px,.Name y py] kt pt] (.Tuple [a,b] k2 pt2) X.env=pure (some [x,y]))
  (hs:swapsWithSole [.Tuple [.Name x px,.Name y py] kt pt] (.Tuple [a,b] k2 pt2) pos.line X.env=pure false:=by rfl) :
  PS X (.Assign [.Tuple [.Name x px,.Name y py] kt pt] (.Tuple [a,b] k2 pt2) pos) (tPar i j ta):=by
 intro pins s σ H D I h
 rw [exec_Assign_arm]
 refine wpAny_bind (wpAny_standAt ?_)
 rw [hs]
 refine wpAny_bind (wpAny_pure ?_)
 rw [if_neg (by decide)]
 refine wpAny_bind (Tuple_ (thn (ha _ pins s σ H _ I h) fun us s1 ⟨vs,H1,I1,r1,q1⟩=>?_))
 obtain ⟨v,w,e1,q1⟩:=q1
 subst e1
 obtain ⟨u1,u2,rfl,rv,rw'⟩ : ∃ u1 u2,us=[u1,u2]∧RelV v u1∧RelV w u2:=by
  cases r1 with
  | cons p q =>
   cases q with
   | cons p' q' =>
    cases q'
    exact ⟨_,_,rfl,p,p'⟩
 refine wpAny_newObj_type ?_ (by show 2≤sizeLine; decide)
 have I2:Inv X pins σ H1 { s1 with heap:=s1.heap.push { cls:=.type "tuple", data:=.seq [u1,u2].toArray } }:=I1.kept (t':=s1.toks) fun b o e=>Heap.get?_push_of_some _ e
 rw [hw]
 refine wpAny_bind (wpAny_pure ?_)
 show wpAny (model X.prog X.w) X.A (do rule "assign.swapped-stores"; let items ← unpackItems (.ref s1.heap.objs.size) 2 none; assignInOrder [fun v=>bindName X.env y v,fun v=>bindName X.env x v] items.reverse; pure Flow.next) _ _ _
 refine wpAny_bind (wpAny_rule (wpAny_bind (unpackItems_tuple (items:=#[u1,u2]) (I.ok.hd hc) (IsTup.new s1.heap _) fun h' hx'=>?_)))
 have I3:=I2.kept (h':=h') (t':=s1.toks) fun b o e=>hx' b o (Nat.ne_of_lt (Heap.lt_size e)) e
 show wpAny _ _ (assignInOrder [fun v=>bindName X.env y v,fun v=>bindName X.env x v] [u2,u1] >>= fun _=>pure Flow.next) _ _ _
 refine wpAny_bind (assignInOrder_cons (wpAny_bindName (store_ok I3 hN hj (.inl hy) rw' (fun s2 I4=>?_) (.inr hy))))
 refine assignInOrder_cons (wpAny_bindName (store_ok I4 hN hi (.inl hx) rv (fun s3 I5=>assignInOrder_nil (wpAny_pure ?_)) (.inr hx)))
 rw [List.set_comm _ _ (Ne.symm hij)] at I5
 exact ⟨_,H1,I5,q1⟩
end
section
variable {X:Cx} {pos:Pos}
def tWhile (c:TT) (tb:TS) : TS:=fun D σ H=>∃ W:Nat→St→Hp→Prop,(∃ m,W m σ H)∧∀ m σ H,W m σ H →
 c σ H fun b H1=>if b=true then ∃ N:St→Hp→Prop,(∀ σ' H',N σ' H'→∃ m',m'<m∧W m' σ' H')∧tb { D with nx:=N,ct:=N,bk:=D.nx } σ H1 else D.nx σ H1
theorem ps_while {c:Expr} {body:List Stmt} {tc:TT} {tb:TS} (hp:PassesOwn (model X.prog X.w) X.A X.env X.xe) (hc:PT X c tc) (hb:PSs X body tb) : PS X (.While c body [] pos) (tWhile tc tb):=by
 intro pins s σ H D I h
 obtain ⟨W,⟨m0,w0⟩,turn⟩:=h
 refine wpAny_While (codeAny_whileLoop (fun n s'=>∃ σ' H',Inv X pins σ' H' s'∧W n σ' H') ?_ m0 ⟨σ,H,I,w0⟩)
 rintro n s1 ⟨σ1,H1,I1,w1⟩
 refine wpAny_passesOwn hp (thn (hc pins s1 σ1 H1 _ I1 (turn n σ1 H1 w1)) fun b s2 ⟨H2,I2,q2⟩=>?_)
 cases b with
 | true =>
  obtain ⟨N,hN,q2⟩:=q2
  rw [if_pos rfl]
  refine wpAny_passesOwn hp (thn (hb pins s2 σ1 H2 _ I2 q2) fun f s3 q3=>?_)
  cases f with
  | next =>
   obtain ⟨σ3,H3,I3,n3⟩:=q3
   obtain ⟨m',hm,w3⟩:=hN σ3 H3 n3
   exact ⟨m',hm,σ3,H3,I3,w3⟩
  | cont =>
   obtain ⟨σ3,H3,I3,n3⟩:=q3
   obtain ⟨m',hm,w3⟩:=hN σ3 H3 n3
   exact ⟨m',hm,σ3,H3,I3,w3⟩
  | brk=>exact q3
  | ret v=>exact q3
 | false =>
  rw [if_neg Bool.false_ne_true]
  exact wpAny_execs_nil ⟨σ1,H2,I2,q2⟩
end
structure It where
 go:Nat→Hp→Prop
 yld:Nat→Hp→V→Hp→Prop
 stop:Nat→Hp→Prop
def FpOk (X:Cx) (pins:List (Addr × Obj)) (H:Hp) (b:Addr) : Prop :=
 H b=none∧b≠X.env.locals∧b∉X.fs∧(b∈X.ex∨X.s₀.heap.objs.size≤b)∧(∀ x c,X.env.cells.lookup x=some c→c≠b)∧∀ p∈X.pn++pins,p.1≠b
theorem Inv.fpOk {X:Cx} {pins:List (Addr × Obj)} {σ : St} {H H':Hp} {s:Shared} {b:Addr} (I:Inv X pins σ H s) (hb:s.heap.objs.size≤b) (hn:H' b=none) : FpOk X pins H' b:=by
 refine ⟨hn,Nat.ne_of_gt (Nat.lt_of_lt_of_le I.lt hb),I.nofs hb,.inr (Nat.le_trans I.sz hb),fun x c e z=>?_,fun p hp z=>?_⟩
 ·obtain ⟨v,q⟩:=I.cell x c e
  exact absurd (Nat.lt_of_lt_of_le q.lt (by rw [z]; exact hb)) (Nat.lt_irrefl _)
 ·exact absurd (Nat.lt_of_lt_of_le (Heap.lt_size (I.pin p hp).1) (by rw [z]; exact hb)) (Nat.lt_irrefl _)
structure Turn (P:Program) (w:World) (K:PySem.W.Frag) (tg:Expr) (J:It) (fp:List Addr) (it:Addr) (tn:Nat→Heap→Prop) : Prop where
 mem:it∈fp
 obj : ∀ i h,tn i h→∀ b∈fp,∃ o,h.get? b=some o∧∀ v,o.data≠.cell v
 keep : ∀ i h h',tn i h→(∀ b∈fp,∀ o,h.get? b=some o→h'.get? b=some o)→tn i h'
 item : ∀ (X:Cx),X.prog=P→X.w=w→X.K=K→X.calm=true→∀ (i:Nat) (pins:List (Addr × Obj)) (s:Shared) (σ : St) (H:Hp) (E:Value→Shared→Prop),Inv X pins σ H s→(∀ b∈fp,FpOk X pins H b)→tn i s.heap→J.go i H →
  wpAny (model P w) X.A (pyNext (.ref it)) (fun r s1=>∃ u,r=some u ∧
   wpAny (model P w) X.A (letOwnedTupleGo tg (.ref it) u) (fun _ s2=>∃ x H',Inv X pins σ H' s2∧RelV x u∧J.yld i H x H'∧tn (i+1) s2.heap∧∀ b∈fp,H' b=none) E s1) E s
 done : ∀ (X:Cx),X.prog=P→X.w=w→X.K=K→X.calm=true→∀ (i:Nat) (pins:List (Addr × Obj)) (s:Shared) (σ : St) (H:Hp) (E:Value→Shared→Prop),Inv X pins σ H s→(∀ b∈fp,FpOk X pins H b)→tn i s.heap→J.stop i H →
  wpAny (model P w) X.A (pyNext (.ref it)) (fun r s1=>r=none∧Inv X pins σ H s1) E s
 self : ∀ (A:Around) (i:Nat) (s:Shared) (Q:Value→Shared→Prop) (E:Value→Shared→Prop),tn i s.heap→Q (.ref it) s→wpAny (model P w) A (pyIter (.ref it)) Q E s
abbrev TI:=St→Hp→(It→Hp→Prop)→Prop
def PIE (X:Cx) (pins:List (Addr × Obj)) (σ : St) (tg:Expr) (R:It→Hp→Prop) (itv:Value) (s2:Shared) : Prop :=
 ∃ (it:Addr) (fp:List Addr) (tn:Nat→Heap→Prop) (J:It) (H':Hp),itv=.ref it∧Inv X pins σ H' s2∧Turn X.prog X.w X.K tg J fp it tn∧tn 0 s2.heap∧(∀ b∈fp,FpOk X pins H' b)∧R J H'
def PI (X:Cx) (tg iter:Expr) (wi:TI) : Prop :=
 ∀ (pins:List (Addr × Obj)) (s:Shared) (σ : St) (H:Hp) (R:It→Hp→Prop),Inv X pins σ H s→wi σ H R →
  wpAny (model X.prog X.w) X.A (eval iter X.env) (fun v s1=>wpAny (model X.prog X.w) X.A (pyIter v) (PIE X pins σ tg R) X.xe s1) X.xe s
theorem go_of {M:Model} {A:Around} {E:Value→Shared→Prop} {s:Shared} {tg:Expr} {it:Addr} {u:Value} {o:Obj} {n:String} {vs:Array Value} {Q:Unit→Shared→Prop} (ho:s.heap.get? it=some o) (hc:o.cls=.type n) (hd:o.data=.fields vs)
  (hn : ["enumerate", "zip", "dict_itemiterator", "dict_reverseitemiterator", "odict_iterator", "itertools.zip_longest", "itertools.pairwise"].contains n=false) (hQ:Q () s) : wpAny M A (letOwnedTupleGo tg (.ref it) u) Q E s:=by
 unfold letOwnedTupleGo
 cases tg <;> first
  | exact wpAny_pure hQ
  | (cases u <;> first
    | exact wpAny_pure hQ
    | (refine wpAny_bind (wpAny_load ho ?_)
       rw [hc,hd]
       show wpAny M A (if (["enumerate", "zip", "dict_itemiterator", "dict_reverseitemiterator", "odict_iterator", "itertools.zip_longest", "itertools.pairwise"].contains n && vs[0]? == some (rawInt _))=true then _ else _) Q E s
       rw [if_neg (by intro h; rw [hn,Bool.false_and] at h; cases h)]
       exact wpAny_pure hQ))
def Itl (K:PySem.W.Frag) (a:Addr) : It :=
 ⟨fun i H=>∃ xs x,SqL K H a xs∧xs[i]?=some x,fun i H x H'=>H'=H∧∀ xs,SqL K H a xs→xs[i]?=some x,fun i H=>∃ xs,SqL K H a xs∧xs.length≤i⟩
def Itt (K:PySem.W.Frag) (a:Addr) : It :=
 ⟨fun i H=>∃ xs x,SqT K H a xs∧xs[i]?=some x,fun i H x H'=>H'=H∧∀ xs,SqT K H a xs→xs[i]?=some x,fun i H=>∃ xs,SqT K H a xs∧xs.length≤i⟩
def Itr (lo:Int) (n:Nat) : It:=⟨fun i _=>i<n,fun i H x H'=>H'=H∧x=.int (lo+i),fun i _=>n≤i⟩
theorem turn_list {P:Program} {w:World} {K:PySem.W.Frag} {tg:Expr} (a it:Addr) : Turn P w K tg (Itl K a) [it] it (fun i h=>h.IsListIter it a i) where
 mem:=by simp
 obj:=fun i h st b hb=>by
  have e:b=it:=by simpa using hb
  subst e
  obtain ⟨o,e,c,d⟩:=st
  exact ⟨o,e,fun v z=>by rw [d] at z; cases z⟩
 keep:=fun i h h' st k=>st.at fun o e=>k it (by simp) o e
 item:=by
  intro X hP hw hK hc i pins s σ H E I hf st hg
  subst hP hw hK
  obtain ⟨xs,x,hq,hx⟩:=hg
  obtain ⟨its,rv,p,hz⟩:=I.list hq
  obtain ⟨u,hu,ru⟩:=rv.get hx
  obtain ⟨f0,f1,f2,f3,f4,f5⟩:=hf it (by simp)
  refine wpAny_pyNext_list_item st p.isList (x:=u) (by simpa using hu) fun h' st' sb=>?_
  have I1:Inv X pins σ H { s with heap:=h' }:=I.turned (t':=s.toks) (fun b o hb e=>(sb.2 b hb).trans e) f0 f1 f3 f4 f5
  obtain ⟨o,e,c,d⟩:=id st'
  exact ⟨u,rfl,go_of (s:={ s with heap:=h' }) e c d (by decide) ⟨x,H,I1,ru,⟨rfl,fun ys hy=>by rw [I.list_inj hy hq]; exact hx⟩,st',fun b hb=>(hf b hb).1⟩⟩
 done:=by
  intro X hP hw hK hc i pins s σ H E I hf st hg
  subst hP hw hK
  obtain ⟨xs,hq,hx⟩:=hg
  obtain ⟨its,rv,p,hz⟩:=I.list hq
  obtain ⟨f0,f1,f2,f3,f4,f5⟩:=hf it (by simp)
  have hl:=rv.length
  exact wpAny_pyNext_list_end (I.ok.hd hc) st p.isList (by simp; omega) fun h' eb=>⟨rfl,I.turned (t':=s.toks) (fun b o hb e=>eb b o hb e) f0 f1 f3 f4 f5⟩
 self:=fun _ _ _ _ _ st h=>wpAny_pyIter_listiter st h
theorem turn_tuple {P:Program} {w:World} {K:PySem.W.Frag} {tg:Expr} (a it:Addr) : Turn P w K tg (Itt K a) [it] it (fun i h=>h.IsTupleIter it a i) where
 mem:=by simp
 obj:=fun i h st b hb=>by
  have e:b=it:=by simpa using hb
  subst e
  obtain ⟨o,e,c,d⟩:=st
  exact ⟨o,e,fun v z=>by rw [d] at z; cases z⟩
 keep:=fun i h h' st k=>st.at fun o e=>k it (by simp) o e
 item:=by
  intro X hP hw hK hc i pins s σ H E I hf st hg
  subst hP hw hK
  obtain ⟨xs,x,hq,hx⟩:=hg
  obtain ⟨its,rv,p,hz⟩:=I.tuple hq
  obtain ⟨u,hu,ru⟩:=rv.get hx
  obtain ⟨f0,f1,f2,f3,f4,f5⟩:=hf it (by simp)
  refine wpAny_pyNext_tuple_item st (show s.heap.IsTuple a its.toArray from p) (x:=u) (by simpa using hu) fun h' st' sb=>?_
  have I1:Inv X pins σ H { s with heap:=h' }:=I.turned (t':=s.toks) (fun b o hb e=>(sb.2 b hb).trans e) f0 f1 f3 f4 f5
  obtain ⟨o,e,c,d⟩:=id st'
  exact ⟨u,rfl,go_of (s:={ s with heap:=h' }) e c d (by decide) ⟨x,H,I1,ru,⟨rfl,fun ys hy=>by rw [I.tuple_inj hy hq]; exact hx⟩,st',fun b hb=>(hf b hb).1⟩⟩
 done:=by
  intro X hP hw hK hc i pins s σ H E I hf st hg
  subst hP hw hK
  obtain ⟨xs,hq,hx⟩:=hg
  obtain ⟨its,rv,p,hz⟩:=I.tuple hq
  obtain ⟨f0,f1,f2,f3,f4,f5⟩:=hf it (by simp)
  have hl:=rv.length
  exact wpAny_pyNext_tuple_end (I.ok.hd hc) st (show s.heap.IsTuple a its.toArray from p) (by simp; omega) fun h' eb=>⟨rfl,I.turned (t':=s.toks) (fun b o hb e=>eb b o hb e) f0 f1 f3 f4 f5⟩
 self:=fun _ _ _ _ _ st h=>wpAny_pyIter_tupleiter st h
theorem turn_range {P:Program} {w:World} {K:PySem.W.Frag} {tg:Expr} (it:Addr) (lo:Int) (n:Nat) : Turn P w K tg (Itr lo n) [it] it (fun i h=>IsRangeIter h it (lo+(i:Nat) * 1) ((n:Int) - (i:Nat)) 1) where
 mem:=by simp
 obj:=fun i h st b hb=>by
  have e:b=it:=by simpa using hb
  subst e
  exact ⟨_,st,fun v z=>by
   have z':Data.fields _=Data.cell v:=z
   cases z'⟩
 keep:=fun i h h' st k=>k it (by simp) _ st
 item:=by
  intro X hP hw hK hc i pins s σ H E I hf st hg
  subst hP hw hK
  obtain ⟨f0,f1,f2,f3,f4,f5⟩:=hf it (by simp)
  have W:=Walks.range (prog:=X.prog) (w:=X.w) (I.ok.hd hc) it lo 1 n
  refine W.item i s _ _ hg st fun v h' tk hv st' kk=>?_
  obtain ⟨t,rfl⟩:=hv
  have I1:Inv X pins σ H { s with heap:=h',toks:=tk }:=I.turned (fun b o hb e=>kk b o (by simpa using hb) e) f0 f1 f3 f4 f5
  refine ⟨_,rfl,go_of (s:={ s with heap:=h',toks:=tk }) (n := "range_iterator") st' rfl rfl (by decide) ⟨.int (lo+i),H,I1,⟨t,?_⟩,⟨rfl,rfl⟩,st',fun b hb=>(hf b hb).1⟩⟩
  rw [Int.mul_one]
 done:=by
  intro X hP hw hK hc i pins s σ H E I hf st hg
  subst hP hw hK
  obtain ⟨f0,f1,f2,f3,f4,f5⟩:=hf it (by simp)
  exact wpAny_pyNext_range_end (I.ok.hd hc) st (by have:n≤i:=hg; omega) fun h' eb=>⟨rfl,I.turned (t':=s.toks) (fun b o hb e=>eb b o hb e) f0 f1 f3 f4 f5⟩
 self:=fun _ _ _ _ _ st h=>wpAny_pyIter_rangeiter st h
end L2
namespace L2
open PySem PySem.Spec PyProof.Rows
section
variable {X:Cx} {tg:Expr}
def iList (K:PySem.W.Frag) (tl:TE) : TI:=fun σ H R=>tl σ H fun x H1=>∃ a,x=.ref a∧(∃ xs,SqL K H1 a xs)∧R (Itl K a) H1
def iTup (K:PySem.W.Frag) (tl:TE) : TI:=fun σ H R=>tl σ H fun x H1=>∃ a,x=.ref a∧(∃ xs,SqT K H1 a xs)∧R (Itt K a) H1
theorem pi_list {l:Expr} {tl:TE} (hl:PE X l tl) : PI X tg l (iList X.K tl):=by
 intro pins s σ H R I h
 refine thn (hl pins s σ H _ I h) fun v s1 ⟨x,H1,I1,r1,q1⟩=>?_
 obtain ⟨a,e,⟨xs,hq⟩,q⟩:=q1
 subst e
 cases r1
 obtain ⟨its,rv,p,hz⟩:=I1.list hq
 refine wpAny_pyIter_list p.isList ?_
 refine ⟨s1.heap.objs.size,[s1.heap.objs.size],_,_,H1,rfl,I1.kept (t':=s1.toks) fun b o e=>Heap.get?_push_of_some _ e,turn_list a _,⟨_,Heap.get?_push_size _ rfl,rfl,rfl⟩,fun b hb=>?_,q⟩
 have e:b=s1.heap.objs.size:=by simpa using hb
 subst e
 exact I1.fpOk (Nat.le_refl _) (I1.hok.fresh (Nat.le_refl _))
theorem pi_tup {l:Expr} {tl:TE} (hl:PE X l tl) : PI X tg l (iTup X.K tl):=by
 intro pins s σ H R I h
 refine thn (hl pins s σ H _ I h) fun v s1 ⟨x,H1,I1,r1,q1⟩=>?_
 obtain ⟨a,e,⟨xs,hq⟩,q⟩:=q1
 subst e
 cases r1
 obtain ⟨its,rv,p,hz⟩:=I1.tuple hq
 refine wpAny_pyIter_tuple (show s1.heap.IsTuple a its.toArray from p) ?_
 refine ⟨s1.heap.objs.size,[s1.heap.objs.size],_,_,H1,rfl,I1.kept (t':=s1.toks) fun b o e=>Heap.get?_push_of_some _ e,turn_tuple a _,⟨_,Heap.get?_push_size _ rfl,rfl,rfl⟩,fun b hb=>?_,q⟩
 have e:b=s1.heap.objs.size:=by simpa using hb
 subst e
 exact I1.fpOk (Nat.le_refl _) (I1.hok.fresh (Nat.le_refl _))
theorem range_it {pins:List (Addr × Obj)} {σ : St} {H:Hp} {s:Shared} {R:It→Hp→Prop} {E:Value→Shared→Prop} {lo hi:Int} {t u v:Tok} {tk:Nat} (I:Inv X pins σ H s) (h1 : -(2 ^ 62)≤lo) (h2:lo<2 ^ 62) (h3 : -(2 ^ 62)≤hi) (h4:hi<2 ^ 62)
  (q:R (Itr lo (hi - lo).toNat) H) : wpAny (model X.prog X.w) X.A (pyIter (.ref s.heap.objs.size)) (PIE X pins σ tg R) E { s with heap:=s.heap.push { cls:=.type "range", data:=.fields #[.int lo t,.int hi u,.int 1 v] },toks:=tk }:=by
 refine wpAny_pyIter_range (IsRange.new ..) (small_one h1 h2 h3 h4) ?_
 have I1:Inv X pins σ H { s with heap:=s.heap.push { cls:=.type "range", data:=.fields #[.int lo t,.int hi u,.int 1 v] },toks:=tk }:=I.kept fun b o e=>Heap.get?_push_of_some _ e
 refine ⟨(s.heap.push { cls:=.type "range", data:=.fields #[.int lo t,.int hi u,.int 1 v] }).objs.size,[(s.heap.push { cls:=.type "range", data:=.fields #[.int lo t,.int hi u,.int 1 v] }).objs.size],_,_,H,rfl,
  I1.kept (t':=tk) fun b o e=>Heap.get?_push_of_some _ e,turn_range _ lo (hi - lo).toNat,?_,fun b hb=>?_,q⟩
 ·have e1:lo+((0:Nat) : Int) * 1=lo:=by simp
  have e2:(((hi - lo).toNat:Nat) : Int) - ((0:Nat) : Int)=Builtin.Range.rangeSize lo hi 1:=by rw [rangeSize_one]; split <;> omega
  show IsRangeIter _ _ (lo+((0:Nat) : Int) * 1) ((((hi - lo).toNat:Nat) : Int) - ((0:Nat) : Int)) 1
  rw [e1,e2]
  exact Heap.get?_push_size _ rfl
 ·have e:b=(s.heap.push { cls:=.type "range", data:=.fields #[.int lo t,.int hi u,.int 1 v] }).objs.size:=by simpa using hb
  subst e
  exact I1.fpOk (Nat.le_refl _) (I1.hok.fresh (Nat.le_refl _))
def iRng1 (ta:TA) : TI:=fun σ H R=>ta σ H fun vs H1=>∃ j:Int,vs=[.int j]∧-(2 ^ 62)≤j∧j<2 ^ 62∧R (Itr 0 j.toNat) H1
def iRng2 (ta:TA) : TI:=fun σ H R=>ta σ H fun vs H1=>∃ i j:Int,vs=[.int i,.int j]∧(-(2 ^ 62)≤i∧i<2 ^ 62∧-(2 ^ 62)≤j∧j<2 ^ 62)∧R (Itr i (j - i).toNat) H1
theorem pi_range1 {a:Expr} {ta:TA} {p pos:Pos} (hg:Gl X "range") (hm:X.mg "range" = none) (ha:PA X [a] ta) (hs:starEach [a] X.env=[(false,eval a X.env)]:=by rfl) : PI X tg (.Call (.Name "range" p) [a] [] pos) (iRng1 ta):=by
 intro pins s σ H R I h
 refine Call_ (ld_blt I hg hm boot_range (PyProof.Rows.callWith_type1 (thn (ha pos pins s σ H _ I h) fun us s1 ⟨vs,H1,I1,r1,q1⟩=>?_) hs rfl))
 obtain ⟨j,e,q1,q2,q⟩:=q1
 subst e
 cases r1 with
 | cons r rr =>
  cases rr
  obtain ⟨t,rfl⟩:=r
  exact call_range_1 (range_it I1 (by omega) (by omega) q1 q2 (by simpa using q))
theorem pi_range2 {a b:Expr} {ta:TA} {p pos:Pos} (hg:Gl X "range") (hm:X.mg "range" = none) (ha:PA X [a,b] ta) (hs:starEach [a,b] X.env=[(false,eval a X.env),(false,eval b X.env)]:=by rfl) (hs2:starEach [b] X.env=[(false,eval b X.env)]:=by rfl) :
  PI X tg (.Call (.Name "range" p) [a,b] [] pos) (iRng2 ta):=by
 intro pins s σ H R I h
 refine Call_ (ld_blt I hg hm boot_range (PyProof.Rows.callWith_type1 (thn (ha pos pins s σ H _ I h) fun us s1 ⟨vs,H1,I1,r1,q1⟩=>?_) (by rw [hs,hs2]) (by rw [hs2]; rfl)))
 obtain ⟨i,j,e,⟨q1,q2,q3,q4⟩,q⟩:=q1
 subst e
 cases r1 with
 | cons r rr =>
  cases rr with
  | cons r' rr =>
   cases rr
   obtain ⟨t,rfl⟩:=r
   obtain ⟨t',rfl⟩:=r'
   exact call_range_2 (range_it I1 q1 q2 q3 q4 q)
def tFor (wi:TI) (g:TG) (tb:TS) : TS:=fun D σ H=>wi σ H fun J H1=>∃ W:Nat→Nat→St→Hp→Prop,(∃ m,W 0 m σ H1)∧∀ i m σ H,W i m σ H →
 (J.stop i H∧D.nx σ H)∨(J.go i H∧∃ N:St→Hp→Prop,(∀ σ' H',N σ' H'→∃ m',m'<m∧W (i+1) m' σ' H')∧∀ x H',J.yld i H x H'→g x σ H' fun σ2 H2=>tb { D with nx:=N,ct:=N,bk:=D.nx } σ2 H2)
def pinsAt (fp:List Addr) (h:Heap) : List (Addr × Obj):=fp.filterMap fun b=>(h.get? b).map fun o=>(b,o)
theorem mem_pinsAt {fp:List Addr} {h:Heap} {b:Addr} {o:Obj} (hb:b∈fp) (e:h.get? b=some o) : (b,o)∈pinsAt fp h:=List.mem_filterMap.mpr ⟨b,hb,by rw [e]; rfl⟩
theorem of_pinsAt {fp:List Addr} {h:Heap} {p:Addr × Obj} (hp:p∈pinsAt fp h) : p.1∈fp∧h.get? p.1=some p.2:=by
 obtain ⟨b,hb,e⟩:=List.mem_filterMap.mp hp
 cases q:h.get? b with
 | none=>rw [q] at e; cases e
 | some o =>
  rw [q] at e
  have e':(b,o)=p:=Option.some.inj e
  subst e'
  exact ⟨hb,q⟩
theorem Inv.pinned {pins:List (Addr × Obj)} {σ : St} {H:Hp} {s:Shared} {fp:List Addr} (I:Inv X pins σ H s) (hf : ∀ b∈fp,FpOk X pins H b) (ho : ∀ b∈fp,∃ o,s.heap.get? b=some o∧∀ v,o.data≠.cell v) : Inv X (pins++pinsAt fp s.heap) σ H s :=
 I.pins_of fun p hp=>(List.mem_append.mp hp).elim (fun z=>I.pin p (List.mem_append_right _ z)) fun z=>by
  obtain ⟨hb,e⟩:=of_pinsAt z
  obtain ⟨f0,f1,f2,_⟩:=hf p.1 hb
  obtain ⟨o,e',d⟩:=ho p.1 hb
  rw [e] at e'; cases e'
  exact ⟨e,f0,f1,f2,d⟩
theorem Inv.unpinned {pins pl:List (Addr × Obj)} {σ : St} {H:Hp} {s:Shared} (I:Inv X (pins++pl) σ H s) : Inv X pins σ H s:=I.pins_of fun p hp=>I.pin p (List.mem_append_right _ (List.mem_append_left _ hp))
theorem ps_for {iter:Expr} {body:List Stmt} {wi:TI} {g:TG} {tb:TS} {pos:Pos} (hp:PassesOwn (model X.prog X.w) X.A X.env X.xe) (hc:X.calm=true) (hi:PI X tg iter wi) (hg:PG X tg g) (hb:PSs X body tb)
  (hs : ∀ x,foldedSetIterable iter X.env x=pure x:=by intro _; rfl) : PS X (.For tg iter body [] pos) (tFor wi g tb):=by
 intro pins s σ H D I h
 refine wpAny_For (thn (hi pins s σ H _ I h) fun v s1 h1=>thn h1 fun itv s2 h2=>?_) hs
 obtain ⟨it,fp,tn,J,H2,e,I2,T,st2,f2,W,⟨m0,w0⟩,turn⟩:=h2
 subst e
 -- what stays true of the iterator's objects through the loop
 have stat : ∀ {H':Hp},(∀ b∈fp,H' b=none)→∀ b∈fp,FpOk X pins H' b:=fun hn b hb=>⟨hn b hb,(f2 b hb).2⟩
 refine codeAny_forLoop_any (fun n s'=>∃ i σ' H',Inv X pins σ' H' s'∧tn i s'.heap∧(∀ b∈fp,H' b=none)∧W i n σ' H') ?_ m0 ⟨0,σ,H2,I2,st2,fun b hb=>(f2 b hb).1,w0⟩
 rintro n s3 ⟨i,σ3,H3,I3,st3,fr3,w3⟩
 rcases turn i n σ3 H3 w3 with ⟨stop,qn⟩ | ⟨go,N,hN,step⟩
 ·refine wpAny_passesOwn hp (thn (T.done X rfl rfl rfl hc i pins s3 σ3 H3 X.xe I3 (stat fr3) st3 stop) fun r s4 ⟨hr,I4⟩=>?_)
  subst hr
  exact wpAny_execs_nil ⟨σ3,H3,I4,qn⟩
 ·refine wpAny_passesOwn hp (thn (T.item X rfl rfl rfl hc i pins s3 σ3 H3 X.xe I3 (stat fr3) st3 go) fun r s4 ⟨u,hr,h4⟩=>?_)
  subst hr
  refine wpAny_passesOwn hp (thn h4 fun _ s5 ⟨x,H5,I5,r5,y5,st5,fr5⟩=>?_)
  have I5':=I5.pinned (stat fr5) (T.obj _ _ st5)
  refine wpAny_passesOwn hp (thn (hg _ s5 σ3 H5 x u _ I5' r5 (step x H5 y5)) fun _ s6 ⟨σ6,H6,I6,q6⟩=>?_)
  refine wpAny_passesOwn hp (thn (hb _ s6 σ6 H6 _ I6 q6) fun f s7 q7=>?_)
  have again : ∀ {σ7:St} {H7:Hp},Inv X (pins++pinsAt fp s5.heap) σ7 H7 s7→N σ7 H7→∃ m,m<n∧∃ i σ' H',Inv X pins σ' H' s7∧tn i s7.heap∧(∀ b∈fp,H' b=none)∧W i m σ' H':=fun {σ7 H7} I7 n7=>by
   obtain ⟨m',hm,w7⟩:=hN σ7 H7 n7
   refine ⟨m',hm,i+1,σ7,H7,I7.unpinned,T.keep _ _ _ st5 fun b hb o e=>(I7.pin (b,o) (List.mem_append_right _ (List.mem_append_right _ (mem_pinsAt hb e)))).1,fun b hb=>?_,w7⟩
   obtain ⟨o,e,d⟩:=T.obj _ _ st5 b hb
   exact (I7.pin (b,o) (List.mem_append_right _ (List.mem_append_right _ (mem_pinsAt hb e)))).2.1
  cases f with
  | next=>obtain ⟨σ7,H7,I7,n7⟩:=q7; exact again I7 n7
  | cont=>obtain ⟨σ7,H7,I7,n7⟩:=q7; exact again I7 n7
  | brk=>obtain ⟨σ7,H7,I7,q7⟩:=q7; exact ⟨σ7,H7,I7.unpinned,q7⟩
  | ret v=>obtain ⟨x7,σ7,H7,I7,r7,q7⟩:=q7; exact ⟨x7,σ7,H7,I7.unpinned,r7,q7⟩
end
theorem for_list {K:PySem.W.Frag} {a:Addr} {xs:List V} {g:TG} {tb:TS} {D:Ends} {σ : St} {H:Hp} (Pv:Nat→St→Hp→Prop) (h0:Pv 0 σ H) (hl : ∀ i σ H,i≤xs.length→Pv i σ H→SqL K H a xs)
  (hs : ∀ i x σ H,xs[i]?=some x→Pv i σ H→g x σ H fun σ2 H2=>tb { D with nx:=Pv (i+1),ct:=Pv (i+1),bk:=D.nx } σ2 H2) (hd : ∀ σ H,Pv xs.length σ H→D.nx σ H) :
  ∃ W:Nat→Nat→St→Hp→Prop,(∃ m,W 0 m σ H)∧∀ i m σ H,W i m σ H →
   ((Itl K a).stop i H∧D.nx σ H)∨((Itl K a).go i H∧∃ N:St→Hp→Prop,(∀ σ' H',N σ' H'→∃ m',m'<m∧W (i+1) m' σ' H')∧∀ x H',(Itl K a).yld i H x H'→g x σ H' fun σ2 H2=>tb { D with nx:=N,ct:=N,bk:=D.nx } σ2 H2):=by
 refine ⟨fun i m σ H=>m=xs.length - i∧i≤xs.length∧Pv i σ H,⟨xs.length,by simp,Nat.zero_le _,h0⟩,?_⟩
 rintro i m σ H ⟨rfl,hi,p⟩
 have q:=hl i σ H hi p
 by_cases hlt:i<xs.length
 ·refine .inr ⟨⟨xs,xs[i],q,by simp [hlt]⟩,Pv (i+1),fun σ' H' p'=>⟨xs.length - (i+1),by omega,rfl,hlt,p'⟩,fun x H' y=>?_⟩
  obtain ⟨e,y⟩:=y
  subst e
  exact hs i x σ _ (y xs q) p
 ·have e:i=xs.length:=by omega
  subst e
  exact .inl ⟨⟨xs,q,Nat.le_refl _⟩,hd σ H p⟩
theorem for_range {lo:Int} {n:Nat} {g:TG} {tb:TS} {D:Ends} {σ : St} {H:Hp} (Pv:Nat→St→Hp→Prop) (h0:Pv 0 σ H)
  (hs : ∀ i σ H,i<n→Pv i σ H→g (.int (lo+i)) σ H fun σ2 H2=>tb { D with nx:=Pv (i+1),ct:=Pv (i+1),bk:=D.nx } σ2 H2) (hd : ∀ σ H,Pv n σ H→D.nx σ H) :
  ∃ W:Nat→Nat→St→Hp→Prop,(∃ m,W 0 m σ H)∧∀ i m σ H,W i m σ H →
   ((Itr lo n).stop i H∧D.nx σ H)∨((Itr lo n).go i H∧∃ N:St→Hp→Prop,(∀ σ' H',N σ' H'→∃ m',m'<m∧W (i+1) m' σ' H')∧∀ x H',(Itr lo n).yld i H x H'→g x σ H' fun σ2 H2=>tb { D with nx:=N,ct:=N,bk:=D.nx } σ2 H2):=by
 refine ⟨fun i m σ H=>m=n - i∧i≤n∧Pv i σ H,⟨n,by simp,Nat.zero_le _,h0⟩,?_⟩
 rintro i m σ H ⟨rfl,hi,p⟩
 by_cases hlt:i<n
 ·refine .inr ⟨hlt,Pv (i+1),fun σ' H' p'=>⟨n - (i+1),by omega,rfl,hlt,p'⟩,fun x H' y=>?_⟩
  obtain ⟨e,y⟩:=y
  subst e y
  exact hs i σ _ hlt p
 ·have e:i=n:=by omega
  subst e
  exact .inl ⟨Nat.le_refl _,hd σ H p⟩
end L2
namespace L2
open PySem PySem.Spec PyProof.Rows
abbrev R2:=V→V→Hp→VK→Prop
def OpR (X:Cx) (f:Value→Value→Sem Value) (r:R2) : Prop :=
 ∀ (pins:List (Addr × Obj)) (s:Shared) (σ : St) (H:Hp) (x y:V) (v u:Value) (Q:VK),Inv X pins σ H s→RelV x v→RelV y u→r x y H Q →
  wpAny (model X.prog X.w) X.A (f v u) (EP X pins σ Q) X.xe s
def UnR (X:Cx) (f:Value→Sem Value) (r:V→Hp→VK→Prop) : Prop :=
 ∀ (pins:List (Addr × Obj)) (s:Shared) (σ : St) (H:Hp) (x:V) (v:Value) (Q:VK),Inv X pins σ H s→RelV x v→r x H Q →
  wpAny (model X.prog X.w) X.A (f v) (EP X pins σ Q) X.xe s
def CallR (X:Cx) (f:Value) (r:List V→Hp→VK→Prop) : Prop :=
 ∀ (pins:List (Addr × Obj)) (s:Shared) (σ : St) (H:Hp) (xs:List V) (us:List Value) (Q:VK),Inv X pins σ H s→Vals xs us→r xs H Q →
  wpAny (model X.prog X.w) X.A (call f us) (EP X pins σ Q) X.xe s
def tOp (r:R2) (ta tb:TE) : TE:=fun σ H Q=>ta σ H fun x H1=>tb σ H1 fun y H2=>r x y H2 Q
def tUn (r:V→Hp→VK→Prop) (ta:TE) : TE:=fun σ H Q=>ta σ H fun x H1=>r x H1 Q
def rI (C:Int→Int→Prop) (g:Int→Int→V) : R2:=fun x y H Q=>∃ i j,x=.int i∧y=.int j∧C i j∧Q (g i j) H
def rI0 (g:Int→Int→V) : R2:=fun x y H Q=>∃ i j,x=.int i∧y=.int j∧Q (g i j) H
def rU (g:Int→V) : V→Hp→VK→Prop:=fun x H Q=>∃ i,x=.int i∧Q (g i) H
section
variable {X:Cx} {a b c:Expr} {ta tb tc:TE} {pos:Pos}
theorem binT (ha:PE X a ta) (hb:PE X b tb) {pins:List (Addr × Obj)} {s:Shared} {σ : St} {H:Hp} {R:V→V→Hp→Prop} (I:Inv X pins σ H s)
  (h:ta σ H fun x H1=>tb σ H1 fun y H2=>R x y H2) {Q:Value→Shared→Prop} {f:Value→Value→Sem Value}
  (hf : ∀ v u s2 x y H2,Inv X pins σ H2 s2→RelV x v→RelV y u→R x y H2→wpAny (model X.prog X.w) X.A (f v u) Q X.xe s2) :
  wpAny (model X.prog X.w) X.A (eval a X.env) (fun v s₁=>wpAny (model X.prog X.w) X.A (eval b X.env) (fun u s₂=>wpAny (model X.prog X.w) X.A (f v u) Q X.xe s₂) X.xe s₁) X.xe s:=by
 refine thn (ha pins s σ H _ I h) fun v s1 ⟨x,H1,I1,r1,q1⟩=>?_
 refine thn (hb pins s1 σ H1 _ I1 q1) fun u s2 ⟨y,H2,I2,r2,q2⟩=>?_
 exact hf v u s2 x y H2 I2 r1 r2 q2
theorem pe_op {op:Operator} {r:R2} (ho:OpR X (binaryOp op) r) (ha:PE X a ta) (hb:PE X b tb) : PE X (.BinOp a op b pos) (tOp r ta tb):=by
 intro pins s σ H Q I h
 exact wpAny_BinOp (binT ha hb I h fun v u s2 x y H2 I2 rx ry q=>ho pins s2 σ H2 x y v u Q I2 rx ry q)
theorem pe_un {op:UnaryOp} {r:V→Hp→VK→Prop} (ho:UnR X (unaryOp op) r) (ha:PE X a ta) : PE X (.UnaryOp op a pos) (tUn r ta):=by
 intro pins s σ H Q I h
 exact UnaryOp_ (thn (ha pins s σ H _ I h) fun v s1 ⟨x,H1,I1,r1,q1⟩=>ho pins s1 σ H1 x v Q I1 r1 q1)
theorem opI {f:Value→Value→Sem Value} {C:Int→Int→Prop} {g:Int→Int→Int}
  (rule : ∀ (i j:Int) (t u:Tok) (s:Shared) (Q:Value→Shared→Prop) (E:Value→Shared→Prop),C i j→Q (.int (g i j) s.toks) { s with toks:=s.toks+1 }→wpAny (model X.prog X.w) X.A (f (.int i t) (.int j u)) Q E s) :
  OpR X f (rI C fun i j=>.int (g i j)):=by
 intro pins s σ H x y v u Q I rx ry h
 obtain ⟨i,j,rfl,rfl,hc,q⟩:=h
 obtain ⟨t,rfl⟩:=rx
 obtain ⟨t',rfl⟩:=ry
 exact rule i j t t' s _ _ hc ⟨.int (g i j),H,I.tok _,⟨_,rfl⟩,q⟩
theorem opI0 {f:Value→Value→Sem Value} {g:Int→Int→Int}
  (rule : ∀ (i j:Int) (t u:Tok) (s:Shared) (Q:Value→Shared→Prop) (E:Value→Shared→Prop),Q (.int (g i j) s.toks) { s with toks:=s.toks+1 }→wpAny (model X.prog X.w) X.A (f (.int i t) (.int j u)) Q E s) :
  OpR X f (rI0 fun i j=>.int (g i j)):=by
 intro pins s σ H x y v u Q I rx ry h
 obtain ⟨i,j,rfl,rfl,q⟩:=h
 obtain ⟨t,rfl⟩:=rx
 obtain ⟨t',rfl⟩:=ry
 exact rule i j t t' s _ _ ⟨.int (g i j),H,I.tok _,⟨_,rfl⟩,q⟩
theorem opB0 {f:Value→Value→Sem Value} {g:Int→Int→Bool}
  (rule : ∀ (i j:Int) (t u:Tok) (s:Shared) (Q:Value→Shared→Prop) (E:Value→Shared→Prop),Q (.bool (g i j)) s→wpAny (model X.prog X.w) X.A (f (.int i t) (.int j u)) Q E s) :
  OpR X f (rI0 fun i j=>.bl (g i j)):=by
 intro pins s σ H x y v u Q I rx ry h
 obtain ⟨i,j,rfl,rfl,q⟩:=h
 obtain ⟨t,rfl⟩:=rx
 obtain ⟨t',rfl⟩:=ry
 exact rule i j t t' s _ _ ⟨.bl (g i j),H,I,rfl,q⟩
def CPow (i j:Int) : Prop:=0≤j∧j≤1000000∧i.natAbs<2 ^ 64
def CMul (i j:Int) : Prop:=(-(2 ^ 64)<i∧i<2 ^ 64)∨(-(2 ^ 64)<j∧j<2 ^ 64)
theorem CMul.ok {i j:Int} (h:CMul i j) : IntMulOk i j:=by
 rcases h with ⟨h1,h2⟩ | ⟨h1,h2⟩
 ·exact .of_left (intBits_le_64 h1 h2)
 ·exact .of_right (intBits_le_64 h1 h2)
theorem op_add:OpR X (binaryOp .Add) (rI0 fun i j=>.int (i+j)):=opI0 fun _ _ _ _ _ _ _ q=>add_int q
theorem op_sub:OpR X (binaryOp .Sub) (rI0 fun i j=>.int (i - j)):=opI0 fun _ _ _ _ _ _ _ q=>sub_int q
theorem op_mul:OpR X (binaryOp .Mult) (rI CMul fun i j=>.int (i * j)):=opI fun _ _ _ _ _ _ _ hc q=>mul_int q hc.ok
theorem op_mod:OpR X (binaryOp .Mod) (rI (fun _ j=>0<j) fun i j=>.int (i % j)):=opI fun i j _ _ _ _ _ hc q=>by
 have h1:(0:Int)<j:=hc
 exact mod_int' (by omega) (by rw [Int.fmod_eq_emod_of_nonneg i (by omega)]; exact q)
theorem op_pow:OpR X (binaryOp .Pow) (rI CPow fun i j=>.int (i ^ j.toNat)):=opI fun _ _ _ _ _ _ _ hc q=>pow_int_small hc.1 hc.2.1 hc.2.2 q
theorem unI {f:Value→Sem Value} {g:Int→Int}
  (rule : ∀ (i:Int) (t:Tok) (s:Shared) (Q:Value→Shared→Prop) (E:Value→Shared→Prop),Q (.int (g i) s.toks) { s with toks:=s.toks+1 }→wpAny (model X.prog X.w) X.A (f (.int i t)) Q E s) :
  UnR X f (rU fun i=>.int (g i)):=by
 intro pins s σ H x v Q I rx h
 obtain ⟨i,rfl,q⟩:=h
 obtain ⟨t,rfl⟩:=rx
 exact rule i t s _ _ ⟨.int (g i),H,I.tok _,⟨_,rfl⟩,q⟩
theorem un_neg:UnR X (unaryOp .USub) (rU fun i=>.int (-i)):=unI fun _ _ _ _ _ q=>neg_int q
end
def scal:V→V→Bool
 | .non,.non=>true | .non,.int _=>true | .int _,.non=>true | .non,.bl _=>true | .bl _,.non=>true | .non,.str _=>true | .str _,.non=>true
 | .int _,.int _=>true | .bl _,.bl _=>true | .str _,.str _=>true | .byt _,.byt _=>true
 | .int _,.str _=>true | .str _,.int _=>true | .bl _,.str _=>true | .str _,.bl _=>true
 | _,_=>false
def rEq:R2:=fun x y H Q=>scal x y=true∧Q (.bl (decide (x=y))) H
def rNe:R2:=fun x y H Q=>scal x y=true∧Q (.bl (!decide (x=y))) H
theorem dec_int {i j:Int} : decide (V.int i=V.int j)=(i == j):=by
 rw [Bool.eq_iff_iff]
 simp
theorem dec_bl {i j:Bool} : decide (V.bl i=V.bl j)=(i == j):=by
 rw [Bool.eq_iff_iff]
 simp
theorem dec_str {i j:Str} : decide (V.str i=V.str j)=(i == j):=by
 rw [Bool.eq_iff_iff]
 simp
theorem dec_byt {i j:Array UInt8} : decide (V.byt i=V.byt j)=(i.toList == j.toList):=by
 rw [Bool.eq_iff_iff]
 cases i
 cases j
 simp
section
variable {X:Cx} {a b c:Expr} {ta tb tc:TE} {pos:Pos}
theorem fin_bl {pins:List (Addr × Obj)} {σ : St} {H:Hp} {s:Shared} {Q:VK} {k k':Bool} (I:Inv X pins σ H s) (q:Q (.bl k) H) (e:k=k') : EP X pins σ Q (.bool k') s:=by
 subst e
 exact ⟨.bl k,H,I,rfl,q⟩
theorem op_eq:OpR X (compareOp .Eq) rEq:=by
 intro pins s σ H x y v u Q I rx ry h
 obtain ⟨hs,q⟩:=h
 cases x with
 | non =>
  cases rx
  cases y with
  | non=>cases ry; exact PySem.EqNone.eq_none_none (fin_bl I q (by simp))
  | bl j=>cases ry; exact PySem.EqNone.eq_none_bool (fin_bl I q (by simp))
  | int j=>obtain ⟨t',rfl⟩:=ry; exact PySem.EqNone.eq_none_int (fin_bl I q (by simp))
  | str j=>obtain ⟨t',rfl⟩:=ry; exact PySem.EqNone.eq_none_str (fin_bl I q (by simp))
  | _=>exact absurd (show false=true from hs) Bool.false_ne_true
 | bl i =>
  cases rx
  cases y with
  | non=>cases ry; exact PySem.EqNone.eq_bool_none (fin_bl I q (by simp))
  | bl j=>cases ry; exact eq_bool (fin_bl I q dec_bl)
  | str j=>obtain ⟨t',rfl⟩:=ry; exact PySem.EqMixed.eq_bool_str (fin_bl I q (by simp))
  | _=>exact absurd (show false=true from hs) Bool.false_ne_true
 | int i =>
  obtain ⟨t,rfl⟩:=rx
  cases y with
  | non=>cases ry; exact PySem.EqNone.eq_int_none (fin_bl I q (by simp))
  | int j=>obtain ⟨t',rfl⟩:=ry; exact eq_int (fin_bl I q dec_int)
  | str j=>obtain ⟨t',rfl⟩:=ry; exact PySem.EqMixed.eq_int_str (fin_bl I q (by simp))
  | _=>exact absurd (show false=true from hs) Bool.false_ne_true
 | str i =>
  obtain ⟨t,rfl⟩:=rx
  cases y with
  | non=>cases ry; exact PySem.EqNone.eq_str_none (fin_bl I q (by simp))
  | bl j=>cases ry; exact PySem.EqMixed.eq_str_bool (fin_bl I q (by simp))
  | int j=>obtain ⟨t',rfl⟩:=ry; exact PySem.EqMixed.eq_str_int (fin_bl I q (by simp))
  | str j=>obtain ⟨t',rfl⟩:=ry; exact eq_str (fin_bl I q dec_str)
  | _=>exact absurd (show false=true from hs) Bool.false_ne_true
 | byt i =>
  obtain ⟨t,rfl⟩:=rx
  cases y with
  | byt j=>obtain ⟨t',rfl⟩:=ry; exact PySem.W.eq_bytes (fin_bl I q dec_byt)
  | _=>exact absurd (show false=true from hs) Bool.false_ne_true
 | _=>cases y <;> exact absurd (show false=true from hs) Bool.false_ne_true
theorem op_ne:OpR X (compareOp .NotEq) rNe:=by
 intro pins s σ H x y v u Q I rx ry h
 obtain ⟨hs,q⟩:=h
 cases x with
 | non =>
  cases rx
  cases y with
  | non=>cases ry; exact PySem.EqNone.ne_none_none (fin_bl I q (by simp))
  | bl j=>cases ry; exact PySem.EqNone.ne_none_bool (fin_bl I q (by simp))
  | int j=>obtain ⟨t',rfl⟩:=ry; exact PySem.EqNone.ne_none_int (fin_bl I q (by simp))
  | str j=>obtain ⟨t',rfl⟩:=ry; exact PySem.EqNone.ne_none_str (fin_bl I q (by simp))
  | _=>exact absurd (show false=true from hs) Bool.false_ne_true
 | bl i =>
  cases rx
  cases y with
  | non=>cases ry; exact PySem.EqNone.ne_bool_none (fin_bl I q (by simp))
  | bl j=>cases ry; exact ne_bool (fin_bl I q (congrArg not dec_bl))
  | str j=>obtain ⟨t',rfl⟩:=ry; exact PySem.EqMixed.ne_bool_str (fin_bl I q (by simp))
  | _=>exact absurd (show false=true from hs) Bool.false_ne_true
 | int i =>
  obtain ⟨t,rfl⟩:=rx
  cases y with
  | non=>cases ry; exact PySem.EqNone.ne_int_none (fin_bl I q (by simp))
  | int j=>obtain ⟨t',rfl⟩:=ry; exact ne_int (fin_bl I q (congrArg not dec_int))
  | str j=>obtain ⟨t',rfl⟩:=ry; exact PySem.EqMixed.ne_int_str (fin_bl I q (by simp))
  | _=>exact absurd (show false=true from hs) Bool.false_ne_true
 | str i =>
  obtain ⟨t,rfl⟩:=rx
  cases y with
  | non=>cases ry; exact PySem.EqNone.ne_str_none (fin_bl I q (by simp))
  | bl j=>cases ry; exact PySem.EqMixed.ne_str_bool (fin_bl I q (by simp))
  | int j=>obtain ⟨t',rfl⟩:=ry; exact PySem.EqMixed.ne_str_int (fin_bl I q (by simp))
  | str j=>obtain ⟨t',rfl⟩:=ry; exact ne_str (fin_bl I q (congrArg not dec_str))
  | _=>exact absurd (show false=true from hs) Bool.false_ne_true
 | byt i =>
  obtain ⟨t,rfl⟩:=rx
  cases y with
  | byt j=>obtain ⟨t',rfl⟩:=ry; exact PySem.W.ne_bytes (fin_bl I q (congrArg not dec_byt))
  | _=>exact absurd (show false=true from hs) Bool.false_ne_true
 | _=>cases y <;> exact absurd (show false=true from hs) Bool.false_ne_true
theorem op_lt:OpR X (compareOp .Lt) (rI0 fun i j=>.bl (decide (i<j))):=opB0 fun _ _ _ _ _ _ _ q=>lt_int q
theorem op_le:OpR X (compareOp .LtE) (rI0 fun i j=>.bl (decide (i≤j))):=opB0 fun _ _ _ _ _ _ _ q=>le_int q
theorem op_gt:OpR X (compareOp .Gt) (rI0 fun i j=>.bl (decide (j<i))):=opB0 fun _ _ _ _ _ _ _ q=>gt_int q
theorem op_ge:OpR X (compareOp .GtE) (rI0 fun i j=>.bl (decide (j≤i))):=opB0 fun _ _ _ _ _ _ _ q=>ge_int q
theorem nomark (b:Expr) {op:CmpOp} (h:op≠.In:=by decide) (h2:op≠.NotIn:=by decide) : behindInMarks op b=false:=by
 have e1:(op == CmpOp.In)=false:=by cases op <;> first | rfl | exact absurd rfl h
 have e2:(op == CmpOp.NotIn)=false:=by cases op <;> first | rfl | exact absurd rfl h2
 cases b <;> simp [behindInMarks,e1,e2]
theorem pe_cmpR {op:CmpOp} {r:R2} (ho:OpR X (compareOp op) r) (ha:PE X a ta) (hb:PE X b tb) (hm:behindInMarks op b=false) : PE X (.Compare a [op] [b] pos) (tOp r ta tb):=by
 intro pins s σ H Q I h
 exact wpAny_Compare1 (binT ha hb I h fun v u s2 x y H2 I2 rx ry q=>ho pins s2 σ H2 x y v u Q I2 rx ry q) hm
def tTest (t:TE) : TT:=fun σ H Q=>t σ H fun x H'=>∃ k,x=.bl k∧Q k H'
theorem pt_cmpR {op:CmpOp} {r:R2} (ho:OpR X (compareOp op) r) (ha:PE X a ta) (hb:PE X b tb) (hm:behindInMarks op b=false) : PT X (.Compare a [op] [b] pos) (tTest (tOp r ta tb)):=by
 intro pins s σ H Q I h
 refine wpAny_isTrue_Compare1 (thn (ha pins s σ H _ I h) fun v s1 ⟨x,H1,I1,r1,q1⟩=>thn (hb pins s1 σ H1 _ I1 q1) fun u s2 ⟨y,H2,I2,r2,q2⟩ =>
  thn (ho pins s2 σ H2 x y v u _ I2 r1 r2 q2) fun c s3 ⟨z,H3,I3,r3,k,e,q3⟩=>?_) hm
 subst e
 cases r3
 exact wpAny_truthy_bool ⟨H3,I3,q3⟩
def tChain (r r':R2) (ta tb tc:TE) : TE:=fun σ H Q=>ta σ H fun x H1=>tb σ H1 fun y H2=>r x y H2 fun z H3=>∃ k,z=.bl k ∧
 (if k=true then tc σ H3 fun w' H4=>r' y w' H4 Q else Q (.bl false) H3)
theorem pe_chain {op op':CmpOp} {r r':R2} (ho:OpR X (compareOp op) r) (ho':OpR X (compareOp op') r') (ha:PE X a ta) (hb:PE X b tb) (hc:PE X c tc)
  (hm:lastMarks [op,op'] [b,c]=false:=by with_unfolding_all rfl) : PE X (.Compare a [op,op'] [b,c] pos) (tChain r r' ta tb tc):=by
 intro pins s σ H Q I h
 refine Compare_chain (thn (ha pins s σ H _ I h) fun v s1 ⟨x,H1,I1,r1,q1⟩=>chain_link (thn (hb pins s1 σ H1 _ I1 q1) fun u s2 ⟨y,H2,I2,r2,q2⟩ =>
  thn (ho pins s2 σ H2 x y v u _ I2 r1 r2 q2) fun d s3 ⟨z,H3,I3,r3,k,e,q3⟩=>?_)) hm
 subst e
 cases r3
 refine wpAny_truthy_bool ?_
 cases k with
 | false=>exact ite_ff ⟨.bl false,H3,I3,rfl,q3⟩
 | true=>exact ite_tt (chain_last (thn (hc pins s3 σ H3 _ I3 q3) fun w' s4 ⟨z',H4,I4,r4,q4⟩=>ho' pins s4 σ H4 y z' u w' Q I4 r2 r4 q4))
theorem line63:(sizeLine:Nat)<2 ^ 63:=by rw [sizeLine_eq]; decide
theorem vals1 {x:V} {us:List Value} (r:Vals [x] us) : ∃ u,us=[u]∧RelV x u:=by
 cases r with
 | cons r1 r2=>cases r2; exact ⟨_,rfl,r1⟩
theorem vals2 {x y:V} {us:List Value} (r:Vals [x,y] us) : ∃ u w',us=[u,w']∧RelV x u∧RelV y w':=by
 cases r with
 | cons r1 r2 =>
  cases r2 with
  | cons r3 r4=>cases r4; exact ⟨_,_,rfl,r1,r3⟩
theorem call_abs:CallR X (.builtin "abs") (fun xs H Q=>∃ i,xs=[.int i]∧Q (.int (if i<0 then -i else i)) H):=by
 intro pins s σ H xs us Q I r h
 obtain ⟨i,rfl,q⟩:=h
 obtain ⟨u,rfl,t,rfl⟩:=vals1 r
 exact call_abs_int fun u tk=>⟨.int (if i<0 then -i else i),H,I.tok _,⟨_,rfl⟩,q⟩
theorem call_max2 (hc:X.calm=true) : CallR X (.builtin "max") (fun xs H Q=>∃ i j,xs=[.int i,.int j]∧Q (.int (if j > i then j else i)) H):=by
 intro pins s σ H xs us Q I r h
 obtain ⟨i,j,rfl,q⟩:=h
 obtain ⟨u,w',rfl,⟨t,rfl⟩,⟨t',rfl⟩⟩:=vals2 r
 refine max_two_ints (I.ok.hd hc) fun h' tk k=>⟨_,H,I.kept k,?_,q⟩
 by_cases hj:j > i
 ·rw [if_pos hj,if_pos hj]; exact ⟨_,rfl⟩
 ·rw [if_neg hj,if_neg hj]; exact ⟨_,rfl⟩
theorem call_min2 (hc:X.calm=true) : CallR X (.builtin "min") (fun xs H Q=>∃ i j,xs=[.int i,.int j]∧Q (.int (if j<i then j else i)) H):=by
 intro pins s σ H xs us Q I r h
 obtain ⟨i,j,rfl,q⟩:=h
 obtain ⟨u,w',rfl,⟨t,rfl⟩,⟨t',rfl⟩⟩:=vals2 r
 refine min_two_ints (I.ok.hd hc) fun h' tk k=>⟨_,H,I.kept k,?_,q⟩
 by_cases hj:j<i
 ·rw [if_pos hj,if_pos hj]; exact ⟨_,rfl⟩
 ·rw [if_neg hj,if_neg hj]; exact ⟨_,rfl⟩
end
end L2
namespace L2
open PySem PySem.Spec PyProof.Rows
structure ObjM (h:Heap) (x dx C:Addr) (mA:Str→Option Value) : Prop where
 obj:h.get? x=some (PySem.W.instObj C dx)
 ns:h.Ns1 dx mA
 ne:dx≠x
theorem lookIn_ns {h:Heap} {dx:Addr} {mA:Str→Option Value} (n:h.Ns1 dx mA) : ∃ od,h.get? dx=some od∧∀ name,PySem.W.lookIn name od=some (mA name):=by
 obtain ⟨o,es,ep,ho,hd,hk,_,hm⟩:=n
 refine ⟨o,ho,fun name=>?_⟩
 have e:=hm name
 unfold nsFind findBy at e
 rw [← Array.find?_toList] at e
 unfold PySem.W.lookIn
 rw [hd]
 dsimp only
 split
 ·rename_i y q
  rw [q] at e
  exact congrArg some e
 ·rename_i q
  rw [q] at e
  have a:es.toList.any (·.refKey)=false:=by
   rw [List.any_eq_false]
   intro y hy
   obtain ⟨z,t,hkey⟩:=hk y (Array.mem_toList_iff.mp hy)
   simp [DictEntry.refKey,hkey]
  have a' : ¬ es.toList.any (·.refKey)=true:=by rw [a]; exact Bool.false_ne_true
  rw [if_neg a']
  exact congrArg some e
theorem ObjM.look {h:Heap} {x dx C:Addr} {mA:Str→Option Value} (I:ObjM h x dx C mA) : ∃ od,PySem.W.InstAt h x (PySem.W.instObj C dx) C (some od)∧∀ name,PySem.W.lookIn name od=some (mA name) :=
 let ⟨od,ho,hl⟩:=lookIn_ns I.ns
 ⟨od,⟨I.obj,rfl,rfl,ho⟩,hl⟩
theorem RelO.some_of {v:V} {o:Option Value} (r:RelO (some v) o) : ∃ u,o=some u∧RelV v u:=by
 cases o with
 | none=>exact (show False from r).elim
 | some u=>exact ⟨u,rfl,r⟩
section
variable {P:Program} {w:World} {H H':Hp} {h h':Heap} {a C dx:Addr} {fs fs':List (Str × V)}
theorem ins_get (hok:HOk P w H h) (e:H a=some (.ins C dx fs)) : ∃ mA,ObjM h a dx C mA∧(∀ f,RelO (fs.lookup f) (mA f))∧PySem.Within mA (fs.map (·.1))∧fs.length≤1000∧H dx=some (.own a):=by
 obtain ⟨d,z,ne,ob,mA,n,r,q⟩:=(show ObjOk P w H h a (.ins C dx fs) from hok a _ e)
 exact ⟨mA,⟨ob,n,ne⟩,r,q,z,d⟩
end
structure Cls (K:PySem.W.Frag) (C:Addr) : Prop where
 pg:PySem.W.plainGet K C Str.empty=true
 hd:PySem.W.hasDictIn K C=true
 po:PySem.W.plainOver K C=true
 sa:PySem.W.findIn K (.ref C) "__setattr__" = some (some (.builtin "object.__setattr__"))
theorem Cls.get {K:PySem.W.Frag} {C:Addr} (c:Cls K C) (f:Str) : PySem.W.plainGet K C f=true:=c.pg
structure Con (K:PySem.W.Frag) (C:Addr) (f:Str) (v:V) (u:Value) : Prop where
 at_:PySem.W.findIn K (.ref C) f=some (some u)
 rel:RelV v u
 get:PySem.W.specialIn K u "__get__" = some none
 cp:PySem.W.copiedNames.contains f=false
structure Meth (K:PySem.W.Frag) (C:Addr) (m:Str) (f:Addr) : Prop where
 at_:PySem.W.findIn K (.ref C) m=some (some (.ref f))
 fn:PySem.W.isFn K (.ref f)=true
 kp:PySem.W.keepIn K (.ref f)=true
section
variable {X:Cx} {pins:List (Addr × Obj)} {σ : St} {H:Hp} {s:Shared} {A:Around} {E:Value→Shared→Prop} {Q:Value→Shared→Prop} {c:Value} {b:Bool}
inductive TyOf (K:PySem.W.Frag) (H:Hp) : V→Value→Prop where
 | non:TyOf K H .non (.type "NoneType")
 | bl (x:Bool) : TyOf K H (.bl x) (.type "bool")
 | int (i:Int) : TyOf K H (.int i) (.type "int")
 | str (x:Str) : TyOf K H (.str x) (.type "str")
 | flt (x:UInt64) : TyOf K H (.flt x) (.type "float")
 | lst {a:Addr} {xs:List V} (e:H a=some (.lst xs)) : TyOf K H (.ref a) (.type "list")
 | frz {a:Addr} {o:Obj} {xs:List V} (e:H a=some (.frz o (.lst xs))) : TyOf K H (.ref a) (.type "list")
 | tup {a:Addr} {xs:List V} (e:H a=some (.tup xs)) : TyOf K H (.ref a) (.type "tuple")
 | dK {a:Addr} {kvs:List (Key × V)} (e:H a=some (.dK kvs)) : TyOf K H (.ref a) (.type "dict")
 | dT {a:Addr} {kvs:List (List Key × V)} (e:H a=some (.dT kvs)) : TyOf K H (.ref a) (.type "dict")
 | ins {a C dx:Addr} {fs:List (Str × V)} (e:H a=some (.ins C dx fs)) (cl:Cls K C) (ha:PySem.W.findIn K (.ref C) "__class__" = some (some (.builtin "object.__class__")))
   (hn:PySem.W.specialIn K (.builtin "object.__class__") "__get__" = some (some (.builtin "getset_descriptor.__get__"))) (htk:PySem.W.takesIn K (.builtin "object.__class__")=some true)
   (hm:PySem.W.mroIn K C (.type "object")=some true) : TyOf K H (.ref a) (.ref C)
theorem isinst_ok {x:V} {u t:Value} (I:Inv X pins σ H s) (rx:RelV x u) (ty:TyOf X.K H x t) (e:PySem.W.kitOne X.K t c=some b) (h : ∀ tk,Q (.bool b) { s with toks:=tk }) :
  wpAny (model X.prog X.w) A (call (.builtin "isinstance") [u,c]) Q E s:=by
 cases ty with
 | non=>cases (show u=Value.none from rx); exact PySem.W.kia_one PySem.W.kitx_none I.kIn True.intro e (fun z=>nomatch z) h
 | bl y=>cases (show u=Value.bool y from rx); exact PySem.W.kia_one PySem.W.kitx_bool I.kIn True.intro e (fun z=>nomatch z) h
 | int i=>obtain ⟨t,q⟩:=(show ∃ t,u=Value.int i t from rx); cases q; exact PySem.W.kia_one PySem.W.kitx_int I.kIn True.intro e (fun z=>nomatch z) h
 | str y=>obtain ⟨t,q⟩:=(show ∃ t,u=Value.str y t from rx); cases q; exact PySem.W.kia_one PySem.W.kitx_str I.kIn True.intro e (fun z=>nomatch z) h
 | flt y=>obtain ⟨t,q⟩:=(show ∃ t,u=Value.float y t from rx); cases q; exact PySem.W.kia_one PySem.W.kitx_float I.kIn True.intro e (fun z=>nomatch z) h
 | @lst a xs ea =>
  cases (show u=Value.ref a from rx)
  obtain ⟨_,_,n,_,h1⟩:=(show ObjOk X.prog X.w H s.heap a (.lst xs) from I.hok a _ ea)
  exact PySem.W.kia_one PySem.W.kitx_list I.kIn ⟨_,h1,rfl⟩ e (fun z=>nomatch z) h
 | @frz a ob xs ea =>
  cases (show u=Value.ref a from rx)
  obtain ⟨_,_,_,n,_,h1⟩:=(show ObjOk X.prog X.w H s.heap a (.frz ob (.lst xs)) from I.hok a _ ea)
  exact PySem.W.kia_one PySem.W.kitx_list I.kIn ⟨_,h1,rfl⟩ e (fun z=>nomatch z) h
 | @tup a xs ea =>
  cases (show u=Value.ref a from rx)
  obtain ⟨_,_,_,p⟩:=(show ObjOk X.prog X.w H s.heap a (.tup xs) from I.hok a _ ea)
  obtain ⟨o,h1,h2,_⟩:=p
  exact PySem.W.kia_one PySem.W.kitx_tuple I.kIn ⟨o,h1,h2⟩ e (fun z=>nomatch z) h
 | @dK a kvs ea =>
  cases (show u=Value.ref a from rx)
  obtain ⟨_,_,vs,_,p⟩:=(show ObjOk X.prog X.w H s.heap a (.dK kvs) from I.hok a _ ea)
  obtain ⟨o,es,ep,h1,h2,_⟩:=p
  exact PySem.W.kia_one PySem.W.kitx_dict I.kIn ⟨o,h1,h2.1⟩ e (fun z=>nomatch z) h
 | @dT a kvs ea =>
  cases (show u=Value.ref a from rx)
  obtain ⟨_,_,xs,_,o,es,ep,h1,h2,_⟩:=(show ObjOk X.prog X.w H s.heap a (.dT kvs) from I.hok a _ ea)
  exact PySem.W.kia_one PySem.W.kitx_dict I.kIn ⟨o,h1,h2.1⟩ e (fun z=>nomatch z) h
 | @ins a C dx fs ea cl ha hn htk hm =>
  cases (show u=Value.ref a from rx)
  obtain ⟨mA,O,_⟩:=ins_get I.hok ea
  obtain ⟨od,J,_⟩:=O.look
  exact PySem.W.kia_one (PySem.W.kitx_own (cl.get _) cl.hd ha hn htk hm) I.kIn J e (fun z=>nomatch z) h
end
end L2
namespace L2
open PySem PySem.Spec PyProof.Rows
structure Room (k:Nat) (A:Around) : Prop where
 hd:A.handled=none
 gd:A.guards=some []
 dp:A.depth+3 * k+5<recursionLimit
 un:A.units+16 * k+200<cLine
theorem Room.mono {j k:Nat} {A:Around} (r:Room k A) (h:j≤k) : Room j A:=⟨r.hd,r.gd,by have:=r.dp; omega,by have:=r.un; omega⟩
theorem Room.deeper {k:Nat} {A:Around} (r:Room (k+1) A) (env:Env) : Room k (A.deeper env) :=
 ⟨r.hd,r.gd,by have:=r.dp; show A.depth+1+3 * k+5<_; omega,by have:=r.un; show A.units+3+16 * k+200<_; omega⟩
theorem Room.depth {k:Nat} {A:Around} (r:Room k A) : A.depth<recursionLimit:=by have:=r.dp; omega
theorem Room.units {k:Nat} {A:Around} (r:Room k A) : A.units+64<cLine:=by have:=r.un; omega
def tNil:TA:=fun _ H Q=>Q [] H
def tCons (ta:TE) (tr:TA) : TA:=fun σ H Q=>ta σ H fun x H1=>tr σ H1 fun xs H2=>Q (x :: xs) H2
section
variable {X:Cx} {e:Expr} {es:List Expr} {te:TE} {t:TA} {pos:Pos}
theorem pa_nil:PA X [] tNil:=fun _ _ _ _ H Q I h=>Calls.spliced_nil ⟨[],H,I,.nil,h⟩
theorem pa_cons (ha:PE X e te) (hr:PA X es t) (hs:starEach (e :: es) X.env=(false,eval e X.env) :: starEach es X.env:=by rfl) : PA X (e :: es) (tCons te t):=by
 intro pos pins s σ H Q I h
 rw [hs]
 show wpAny _ _ (spliced ((false,eval e X.env) :: backTo pos (starEach es X.env))) _ _ s
 refine Calls.spliced_cons (thn (ha pins s σ H _ I h) fun u s1 ⟨x,H1,I1,r1,q1⟩=>?_)
 exact thn (hr pos pins s1 σ H1 _ I1 q1) fun us s2 ⟨xs,H2,I2,r2,q2⟩=>⟨x :: xs,H2,I2,.cons r1 r2,q2⟩
def tTup (t:TA) : TE:=fun σ H Q=>t σ H fun xs H1=>xs.length≤sizeLine∧∀ p,H1 p=none→Q (.ref p) (upd H1 p (.tup xs))
def tLst (t:TA) : TE:=fun σ H Q=>t σ H fun xs H1=>xs.length≤sizeLine∧∀ p,H1 p=none→Q (.ref p) (upd H1 p (.lst xs))
theorem pe_tup {x1} (h:PA X es t) : PE X (.Tuple es x1 pos) (tTup t):=by
 intro pins s σ H Q I hq
 refine wpAny_Tuple_spliced (thn (h pos pins s σ H _ I hq) fun us s1 ⟨xs,H1,I1,r,z,q⟩=>⟨by rw [← r.length]; exact z,?_⟩)
 have hf:H1 s1.heap.objs.size=none:=I1.hok.fresh (Nat.le_refl _)
 refine ⟨.ref s1.heap.objs.size,upd H1 s1.heap.objs.size (.tup xs),I1.laid (t':=s1.toks) (fun b u e=>Heap.get?_push_of_some _ e) (Nat.le_refl _) ?_,rfl,q _ hf⟩
 exact ⟨z,us,r,⟨_,Heap.get?_push_size _ rfl,rfl,_,rfl⟩⟩
theorem pe_lst (h:PA X es t) : PE X (.List es pos) (tLst t):=by
 intro pins s σ H Q I hq
 refine wpAny_List_spliced (thn (h pos pins s σ H _ I hq) fun us s1 ⟨xs,H1,I1,r,z,q⟩=>⟨by rw [← r.length]; exact z,?_⟩)
 have hf:H1 s1.heap.objs.size=none:=I1.hok.fresh (Nat.le_refl _)
 refine ⟨.ref s1.heap.objs.size,upd H1 s1.heap.objs.size (.lst xs),I1.laid (t':=s1.toks) (fun b u e=>Heap.get?_push_of_some _ e) (Nat.le_refl _) ?_,rfl,q _ hf⟩
 exact ⟨z,us,0,r,Heap.get?_push_size _ rfl⟩
end
abbrev Sp:=List V→Hp→VK→XK→Prop
abbrev CXT:=List Env→Hp→Shared→XK→Value→Shared→Prop
structure Env0 (P:Program) (w:World) (K:PySem.W.Frag) (mg:Str→Option Value) (base:Heap) (A:Around) (outer:List Env) (s:Shared) (H:Hp) : Prop where
 frames:A.frames=some outer
 mod:Mod K mg base
 bs : ∀ b o,base.get? b=some o→s.heap.get? b=some o∧H b=none
 bsz:base.objs.size≤s.heap.objs.size
 funs:s.heap.FunFrames base outer
 frf : ∀ b∈frs outer,H b=none
 hok:HOk P w H s.heap
 bare:AllBare s.gens
def CE (outer:List Env) (P:Program) (w:World) (H:Hp) (s:Shared) (Q:VK) (u:Value) (s':Shared) : Prop :=
 ∃ v H',s'.os=s.os∧AllBare s'.gens∧Un (frs outer) [] H H' s.heap s'.heap∧HOk P w H' s'.heap∧RelV v u∧Q v H'
def CR (CX:CXT) (outer:List Env) (P:Program) (w:World) (H:Hp) (s:Shared) (Q:VK) (E:XK) (r:Result) (s':Shared) : Prop :=
 match r with
 | .ok (.ret u)=>CE outer P w H s Q u s'
 | .ok _=>False
 | .error e=>CX outer H s E e s'
structure FnOk (P:Program) (w:World) (K:PySem.W.Frag) (mg:Str→Option Value) (base:Heap) (CX:CXT) (k:Nat) (f:Addr) (fd:FuncData) (ps:List Str) (sp:Sp) : Prop where
 len : ∀ vs H Q E,sp vs H Q E→vs.length=ps.length
 run : ∀ (A:Around) (outer:List Env) (s:Shared) (H:Hp) (args:Args) (us:List Value) (vs:List V) (Q:VK) (E:XK),Room k A→Env0 P w K mg base A outer s H→BindsTo s fd args (ps.zip us)→Vals vs us→sp vs H Q E →
  codeAny (model P w) A (.call (.ref f) args) (CR CX outer P w H s Q E) s
section
variable {X:Cx} {pins:List (Addr × Obj)} {σ : St} {H:Hp} {s s':Shared}
theorem Inv.env0 (I:Inv X pins σ H s) : Env0 X.prog X.w X.K X.mg X.base X.A X.stack s H :=
 ⟨I.ok.frames,I.ok.mod,I.bs,Nat.le_trans I.ok.bsz I.sz,I.stack,I.stkFree,I.hok,I.bare⟩
theorem Inv.after {Q:VK} {u:Value} (I:Inv X pins σ H s) (h:CE X.stack X.prog X.w H s Q u s') : EP X pins σ Q u s':=by
 obtain ⟨v,H',os,bare,un,hok,r,q⟩:=h
 obtain ⟨hh,g,d,t,os'⟩:=s'
 obtain rfl:os'=s.os:=os
 exact ⟨v,H',I.call (h':=hh) (g':=g) (d':=d) (t':=t) (ch:=[]) un hok bare (fun b z=>absurd z (by simp)),r,q⟩
end
def tCall (sp:Sp) (dvs:List V) (E:XK) (t:TA) : TE:=fun σ H Q=>t σ H fun vs H1=>sp (vs++dvs) H1 Q E
def Binds (K:PySem.W.Frag) (fd:FuncData) (ps:List Str) (ds:List Value) : Prop :=
 ∀ (s:Shared) (us:List Value),K.In s.heap→(us++ds).length=ps.length→BindsTo s fd ⟨us,[]⟩ (ps.zip (us++ds))
theorem Binds.all {K:PySem.W.Frag} {fd:FuncData} {ps:List Str} (h : ∀ us:List Value,us.length=ps.length→bindArgs fd ⟨us,[]⟩=pure (ps.zip us)) : Binds K fd ps []:=fun s us _ hl=>by
 rw [List.append_nil] at hl ⊢
 exact .of_eq (h us hl)
def Passes (CX:CXT) (X:Cx) (E:XK) : Prop:=∀ (pins:List (Addr × Obj)) (σ : St) (H:Hp) (s:Shared) (e:Value) (s':Shared),Inv X pins σ H s→CX X.stack H s E e s'→X.xe e s'
section
variable {X:Cx} {CX:CXT} {k:Nat} {f C:Addr} {fd:FuncData} {ps:List Str} {sp:Sp} {dvs:List V} {ds:List Value} {E:XK} {x m:Str} {p pos apos:Pos} {e o:Expr} {es:List Expr} {ta:TE} {t:TA}
theorem run_fn {pins:List (Addr × Obj)} {σ : St} {H:Hp} {s:Shared} {Q:VK} {us:List Value} {vs:List V} (F:FnOk X.prog X.w X.K X.mg X.base CX k f fd ps sp) (hr:Room k X.A) (hb:Binds X.K fd ps ds) (hd:Vals dvs ds) (hx:Passes CX X E)
  (I:Inv X pins σ H s) (r:Vals vs us) (h:sp (vs++dvs) H Q E) : wpAny (model X.prog X.w) X.A (call (.ref f) us) (EP X pins σ Q) X.xe s:=by
 have r2:Vals (vs++dvs) (us++ds):=r.append hd
 have hl:(us++ds).length=ps.length:=by rw [← r2.length]; exact F.len _ _ _ _ h
 refine wpAny_call (codeAny_mono (F.run X.A X.stack s H ⟨us,[]⟩ (us++ds) (vs++dvs) Q E hr I.env0 (hb s us I.kIn hl) r2 h) fun r s' hq=>?_)
 cases r with
 | error e=>exact hx pins σ H s e s' I hq
 | ok fl =>
  cases fl with
  | ret u=>exact I.after hq
  | next=>exact False.elim hq
  | brk=>exact False.elim hq
  | cont=>exact False.elim hq
theorem pe_call (F:FnOk X.prog X.w X.K X.mg X.base CX k f fd ps sp) (hr:Room k X.A) (hg:Gl X x) (hm:X.mg x=some (.ref f)) (hk:PySem.W.keepIn X.K (.ref f)=true) (hb:Binds X.K fd ps ds) (hd:Vals dvs ds) (hx:Passes CX X E)
  (ha:PA X (e :: es) t) (hdb:(x == ("__debug__" : Str))=false:=by decide) (he:starEach (e :: es) X.env=(false,eval e X.env) :: starEach es X.env:=by rfl) (hpl:(backTo pos (starEach es X.env)).any (·.1)=false:=by rfl) :
  PE X (.Call (.Name x p) (e :: es) [] pos) (tCall sp dvs E t):=by
 intro pins s σ H Q I h
 refine wpAny_Call_Name_kw (ld_glob I hg hm ?_ hdb)
 refine PySem.W.callWith_K (h₀:=X.base) I.ok.mod.kin hk (thn (ha pos pins s σ H _ I h) fun us s1 ⟨vs,H1,I1,r,q⟩=>⟨I1.kIn,?_⟩) he hpl
 exact run_fn F hr hb hd hx I1 r q
structure Mk (K:PySem.W.Frag) (C f:Addr) : Prop where
 makes:PySem.W.makesIn K C=true
 init:PySem.W.findIn K (.ref C) "__init__" = some (some (.ref f))
 fn:PySem.W.isFn K (.ref f)=true
 kp:PySem.W.keepIn K (.ref C)=true
end
def PK (X:Cx) (kws:List Keyword) (t:TA) : Prop :=
 ∀ (pos:Pos) (pins:List (Addr × Obj)) (s:Shared) (σ : St) (H:Hp) (Q:List V→Hp→Prop),Inv X pins σ H s→t σ H Q→wpAny (model X.prog X.w) X.A (evalAll ((backToKw pos (keywordEach kws X.env)).map (·.2))) (AP X pins σ Q) X.xe s
section
variable {X:Cx} {CX:CXT} {k:Nat} {f C:Addr} {fd:FuncData} {ps ks:List Str} {sp:Sp} {E:XK} {x m:Str} {p pos apos kpos:Pos} {e o:Expr} {es:List Expr} {kws:List Keyword} {te ta:TE} {t tk:TA} {nm:Option Str}
theorem pk_nil:PK X [] tNil:=fun _ _ _ _ H Q I h=>wpAny_evalAll_nil ⟨[],H,I,.nil,h⟩
theorem pk_cons (ha:PE X e te) (hr:PK X kws t) : PK X (⟨nm,e,kpos⟩ :: kws) (tCons te t):=by
 intro pos pins s σ H Q I h
 show wpAny _ _ (evalAll ((do let v ← eval e X.env; standAt pos; pure v) :: (backToKw pos (keywordEach kws X.env)).map (·.2))) _ _ s
 refine wpAny_evalAll_cons (wpAny_bind (thn (ha pins s σ H _ I h) fun u s1 ⟨x,H1,I1,r1,q1⟩=>wpAny_bind (wpAny_standAt (wpAny_pure ?_))))
 exact thn (hr pos pins s1 σ H1 _ I1 q1) fun us s2 ⟨xs,H2,I2,r2,q2⟩=>⟨x :: xs,H2,I2,.cons r1 r2,q2⟩
structure KBinds (K:PySem.W.Frag) (fd:FuncData) (ps ks:List Str) (g:List Value→List Value→List Value) (gV:List V→List V→List V) : Prop where
 to : ∀ (s:Shared) (us ws:List Value),K.In s.heap→(g us ws).length=ps.length→BindsTo s fd ⟨us,ks.zip ws⟩ (ps.zip (g us ws))
 rel : ∀ {vs:List V} {us:List Value} {zs:List V} {ws:List Value},Vals vs us→Vals zs ws→Vals (gV vs zs) (g us ws)
variable {g:List Value→List Value→List Value} {gV:List V→List V→List V}
end
structure FnScope (N P:List Str) (sc:Scope) : Prop where
 kind:sc.kind=.function
 co:sc.isCoroutine=false
 gen:sc.isGenerator=false
 nd:N.Nodup
 pre:N.take P.length=P
 par : ∀ x∈P,sc.names.lookup x=some .local∨sc.names.lookup x=some .cell
 nofree : ∀ y∈sc.names,y.2≠.free
theorem bindL_out {kindOf:Str→Option NameKind} {x:Str} : ∀ {binds:List (Str × Value)} {m:Str→Option Value},(∀ v,(x,v)∉binds)→bindL kindOf binds m x=m x
 | [],_,_=>rfl
 | (n,v) :: r,m,h=>by
  unfold bindL
  rw [bindL_out fun w hw=>h w (List.mem_cons_of_mem _ hw)]
  split
  ·have:x≠n:=by rintro rfl; exact h v List.mem_cons_self
   simp [this]
  ·rfl
theorem bindC_out {kindOf:Str→Option NameKind} {x:Str} : ∀ {binds:List (Str × Value)} {m:Str→Option Value},(∀ v,(x,v)∉binds)→bindC kindOf binds m x=m x
 | [],_,_=>rfl
 | (n,v) :: r,m,h=>by
  unfold bindC
  rw [bindC_out fun w hw=>h w (List.mem_cons_of_mem _ hw)]
  split
  ·rfl
  ·have:x≠n:=by rintro rfl; exact h v List.mem_cons_self
   simp [this]
theorem bindL_get {kindOf:Str→Option NameKind} {x:Str} {v:Value} : ∀ {P:List Str} {vs:List Value} {i:Nat} {m:Str→Option Value},P.Nodup→P[i]?=some x→vs[i]?=some v→kindOf x=some .local →
  bindL kindOf (P.zip vs) m x=some v
 | [],_,_,_,_,h,_,_=>by simp at h
 | _ :: _,[],_,_,_,_,h,_=>by simp at h
 | p :: P,w :: vs,0,m,nd,h1,h2,hk=>by
  simp at h1 h2; subst h1; subst h2
  show bindL kindOf ((p,w) :: P.zip vs) m p=_
  unfold bindL
  rw [bindL_out fun v hv=>(List.nodup_cons.mp nd).1 (List.of_mem_zip hv).1,if_pos hk]
  simp
 | p :: P,w :: vs,i+1,m,nd,h1,h2,hk=>by
  show bindL kindOf ((p,w) :: P.zip vs) m x=_
  unfold bindL
  exact bindL_get (i:=i) (List.nodup_cons.mp nd).2 (by simpa using h1) (by simpa using h2) hk
theorem bindC_get {kindOf:Str→Option NameKind} {x:Str} {v:Value} : ∀ {P:List Str} {vs:List Value} {i:Nat} {m:Str→Option Value},P.Nodup→P[i]?=some x→vs[i]?=some v→kindOf x≠some .local →
  bindC kindOf (P.zip vs) m x=some v
 | [],_,_,_,_,h,_,_=>by simp at h
 | _ :: _,[],_,_,_,_,h,_=>by simp at h
 | p :: P,w :: vs,0,m,nd,h1,h2,hk=>by
  simp at h1 h2; subst h1; subst h2
  show bindC kindOf ((p,w) :: P.zip vs) m p=_
  unfold bindC
  rw [bindC_out fun v hv=>(List.nodup_cons.mp nd).1 (List.of_mem_zip hv).1,if_neg hk]
  simp
 | p :: P,w :: vs,i+1,m,nd,h1,h2,hk=>by
  show bindC kindOf ((p,w) :: P.zip vs) m x=_
  unfold bindC
  exact bindC_get (i:=i) (List.nodup_cons.mp nd).2 (by simpa using h1) (by simpa using h2) hk
def start (N:List Str) (vs:List V) : St:=vs.map some++List.replicate (N.length - vs.length) none
def cxOf (CX:CXT) (P:Program) (w:World) (K:PySem.W.Frag) (mg:Str→Option Value) (base:Heap) (N:List Str) (qual:Str) (scope:Scope) (f:Addr) (cd:Value) (A:Around) (outer:List Env) (s:Shared) (H:Hp) (E:XK) : Cx where
 prog:=P
 w:=w
 K:=K
 mg:=mg
 base:=base
 A:=A.deeper (envOfC qual scope s.heap.objs.size f cd)
 N:=N
 s₀:=s
 H₀:=H
 env:=envOfC qual scope s.heap.objs.size f cd
 outer:=outer
 stack:=envOfC qual scope s.heap.objs.size f cd :: outer
 ex:=[]
 calm:=true
 fn:=fun _=>true
 pn:=[]
 xe:=fun e s'=>wpAny (model P w) (A.deeper (envOfC qual scope s.heap.objs.size f cd)) (leaving (envOfC qual scope s.heap.objs.size f cd) e) (fun _ s''=>CX outer H s E e s'') (fun e' s''=>CX outer H s E e' s'') s'
theorem cell_has {sc:Scope} {n:Nat} {x:Str} (h:sc.names.lookup x=some .cell) : ∃ c,(cellsFrom n sc.names []).lookup x=some c:=by
 have q:=PySem.W.cellsFrom_some sc.names n [] (.inl h)
 exact Option.isSome_iff_exists.mp q
theorem inv_start {CX:CXT} {P:Program} {w:World} {K:PySem.W.Frag} {mg:Str→Option Value} {base:Heap} {N ps:List Str} {qual:Str} {scope:Scope} {f:Addr} {cd:Value} {A:Around} {outer:List Env} {s s1:Shared} {H:Hp} {E:XK} {us:List Value} {vs:List V}
  (S:FnScope N ps scope) (hd:A.handled=none) (e0:Env0 P w K mg base A outer s H) (hl:vs.length=ps.length) (r:Vals vs us)
  (x:InCallC s s.heap.objs.size (bindL (envOfC qual scope s.heap.objs.size f cd).kindOf (ps.zip us) fun _=>none) (cellsFrom (s.heap.objs.size+1) scope.names []) (bindC (envOfC qual scope s.heap.objs.size f cd).kindOf (ps.zip us) fun _=>none) s1) :
  Inv (cxOf CX P w K mg base N qual scope f cd A outer s H E) [] (start N vs) H s1:=by
 have hpl:ps.length≤N.length:=by have:=congrArg List.length S.pre; rw [List.length_take] at this; omega
 obtain ⟨h1,tk,rfl,hk⟩:=x.done
 have noA : ∀ b:Addr,b∉(cxOf CX P w K mg base N qual scope f cd A outer s H E).ex:=fun b z=>absurd (show b∈([] : List Addr) from z) (by simp)
 refine ⟨⟨e0.mod,S.kind,rfl,rfl,Nat.le_refl _,fun y z c h1 h2=>?_,fun y hy=>?_,fun y c _ h=>?_,fun _=>hd,Around.frames_deeper e0.frames,.inr ⟨rfl,rfl⟩,fun b z=>absurd z (noA b),e0.bs,e0.bsz,fun b _ _=>noA b,fun b z=>absurd z (noA b),e0.funs,e0.frf⟩,
  rfl,e0.bare,Un.kept hk,⟨_,x.toInCall.ns,fun i y v h1 h2 h3=>?_⟩,fun y c h=>⟨_,x.cell y c h⟩,e0.hok.fresh (Nat.le_refl _),fun y c h=>?_,fun p hp=>absurd (show p∈([] : List (Addr × Obj)) from hp) (by simp),e0.hok.kept hk,?_⟩
 ·exact name_of_addr x.apart (PySem.mem_of_lookup h1) (PySem.mem_of_lookup h2)
 ·have hy:scope.names.lookup y=some .cell∨scope.names.lookup y=some .free:=hy
  rcases hy with hy | hy
  ·exact cell_has hy
  ·exact absurd rfl (S.nofree _ (PySem.mem_of_lookup hy))
 ·exact Nat.le_of_lt (x.above y c (PySem.mem_of_lookup h))
 ·have hi:i<vs.length:=by
   unfold start at h2
   by_cases hi:i<vs.length
   ·exact hi
   ·rw [List.getElem?_append_right (by simpa using hi)] at h2
    rw [List.getElem?_replicate] at h2
    split at h2 <;> cases h2
  have ha:vs[i]?=some v:=by
   unfold start at h2
   rw [List.getElem?_append_left (by simpa using hi),List.getElem?_map] at h2
   cases e:vs[i]? with
   | none=>rw [e] at h2; cases h2
   | some a=>rw [e] at h2; cases h2; rfl
  obtain ⟨u,hu,rv⟩:=r.get ha
  have hp:ps[i]?=some y:=by
   rw [← S.pre,List.getElem?_take_of_lt (by omega)]; exact h1
  have ndP:ps.Nodup:=by rw [← S.pre]; exact S.nd.sublist (List.take_sublist _ _)
  refine ⟨u,rv,?_⟩
  rcases S.par y (List.mem_of_getElem? hp) with k | k
  ·exact .inl ⟨k,bindL_get ndP hp hu k⟩
  ·obtain ⟨c,e⟩:=cell_has (n:=s.heap.objs.size+1) k
   refine .inr ⟨.inl k,c,e,?_⟩
   have q:=x.cell y c e
   rw [bindC_get ndP hp hu (by show scope.names.lookup y≠_; rw [k]; decide)] at q
   exact q
 ·exact e0.hok.fresh (Nat.le_of_lt (x.above y c (PySem.mem_of_lookup h)))
 ·unfold start
  show _=N.length
  rw [List.length_append,List.length_map,List.length_replicate]
  omega
theorem fn_of {CX:CXT} {P:Program} {w:World} {K:PySem.W.Frag} {mg:Str→Option Value} {base:Heap} {k:Nat} {f:Addr} {name qual:Str} {params:Arguments} {body:List Stmt} {scope:Scope} {dV kV doc pm cdv ct oc:Value} {an od:Option Addr}
  {osl:Array (Option Value)} {N ps:List Str} {sp:Sp} (lk:K.lookup f=some ⟨oc,od,.func (PySem.W.fnOf name qual params body scope dV kV doc pm an cdv ct),osl⟩) (hcd:PySem.W.codeIn K cdv qual=true) (S:FnScope N ps scope)
  (len : ∀ vs H Q E,sp vs H Q E→vs.length=ps.length)
  (hbody : ∀ (A:Around) (outer:List Env) (s:Shared) (H:Hp) (vs:List V) (Q:VK) (E:XK),Room k (A.deeper (envOfC qual scope s.heap.objs.size f cdv))→sp vs H Q E →
   ∃ t,PSs (cxOf CX P w K mg base N qual scope f cdv A outer s H E) body t∧t { nx:=fun _ H'=>Q .non H',rt:=Q } (start N vs) H) :
  FnOk P w K mg base CX (k+1) f (PySem.W.fnOf name qual params body scope dV kV doc pm an cdv ct) ps sp:=by
 refine ⟨len,fun A outer s H args us vs Q E hr e0 hb r hsp=>?_⟩
 have hl:=len _ _ _ _ hsp
 have KX:K.In s.heap:=e0.mod.kin.keeps fun b o e=>(e0.bs b o e).1
 have lim:s.heap.NoLimit:=e0.mod.nolimit.keeps fun b o e=>(e0.bs b o e).1
 have hkind : ∀ y∈ps.zip us,scope.names.lookup y.1=some .local∨(scope.names.lookup y.1=some .cell∧((cellsFrom (s.heap.objs.size+1) scope.names []).lookup y.1).isSome=true):=fun ⟨n,v⟩ hy=>by
  rcases S.par n (List.of_mem_zip hy).1 with q | q
  ·exact .inl q
  ·exact .inr ⟨q,PySem.W.cellsFrom_some _ _ _ (.inl q)⟩
 refine codeAny_call_function hr.depth (KX _ _ lk) rfl S.co S.gen rfl (PySem.W.codeRec_of KX hcd) (hb _ _ _ _ ?_)
 refine wpAny_newFunctionEnv_cells S.kind hkind fun env he s1 x=>?_
 subst he
 refine ⟨lim.keeps x.toInCall.keep,codeAny_func ?_⟩
 obtain ⟨t,ht,hq⟩:=hbody A outer s H vs Q E (hr.deeper _) hsp
 have I:Inv (cxOf CX P w K mg base N qual scope f cdv A outer s H E) [] (start N vs) H s1:=inv_start S hr.hd e0 hl r x
 refine wpAny_mono (ht [] s1 (start N vs) H _ I hq) (fun fl s' hs=>?_) fun e s' hs=>hs
 have fin : ∀ {σ':St} {H':Hp} {v:V} {u:Value},Inv (cxOf CX P w K mg base N qual scope f cdv A outer s H E) [] σ' H' s'→RelV v u→Q v H'→CE outer P w H s Q u s' :=
  fun {σ' H' v u} J rv q=>⟨v,H',J.os,J.bare,J.base,J.hok,rv,q⟩
 cases fl with
 | ret u =>
  obtain ⟨v,σ',H',J,rv,q⟩:=hs
  exact fin J rv q
 | next =>
  obtain ⟨σ',H',J,q⟩:=hs
  exact fin (v:=V.non) (u:=Value.none) J rfl q
 | brk =>
  obtain ⟨_,_,_,q⟩:=hs
  exact False.elim q
 | cont =>
  obtain ⟨_,_,_,q⟩:=hs
  exact False.elim q
end L2
namespace L2
open PySem PySem.Spec PyProof.Rows
section
variable {X:Cx} {x:Str} {p pos:Pos} {e:Expr} {es:List Expr} {t:TA} {id T:String} {r:List V→Hp→VK→Prop}
def tCB (r:List V→Hp→VK→Prop) (t:TA) : TE:=fun σ H Q=>t σ H fun vs H1=>r vs H1 Q
theorem pe_callB (hc:CallR X (.builtin id) r) (hg:Gl X x) (hm:X.mg x=none) (hv:bootBuiltins x=some (.builtin id)) (ha:PA X (e :: es) t) (hn:x ≠ "__name__" := by decide) (hdb:(x == ("__debug__" : Str))=false:=by decide)
  (he:starEach (e :: es) X.env=(false,eval e X.env) :: starEach es X.env:=by rfl) (hpl:(backTo pos (starEach es X.env)).any (·.1)=false:=by rfl) : PE X (.Call (.Name x p) (e :: es) [] pos) (tCB r t):=by
 intro pins s σ H Q I h
 refine wpAny_Call_Name_kw (ld_blt I hg hm hv ?_ hn hdb)
 exact PyProof.Rows.callWith_builtin1 (thn (ha pos pins s σ H _ I h) fun us s1 ⟨vs,H1,I1,r1,q1⟩=>hc pins s1 σ H1 vs us Q I1 r1 q1) he hpl
theorem pe_callTy (hc:CallR X (.type T) r) (hg:Gl X x) (hm:X.mg x=none) (hv:bootBuiltins x=some (.type T)) (ha:PA X (e :: es) t) (hn:x ≠ "__name__" := by decide) (hdb:(x == ("__debug__" : Str))=false:=by decide)
  (he:starEach (e :: es) X.env=(false,eval e X.env) :: starEach es X.env:=by rfl) (hpl:(backTo pos (starEach es X.env)).any (·.1)=false:=by rfl) : PE X (.Call (.Name x p) (e :: es) [] pos) (tCB r t):=by
 intro pins s σ H Q I h
 refine wpAny_Call_Name_kw (ld_blt I hg hm hv ?_ hn hdb)
 exact PyProof.Rows.callWith_type1 (thn (ha pos pins s σ H _ I h) fun us s1 ⟨vs,H1,I1,r1,q1⟩=>hc pins s1 σ H1 vs us Q I1 r1 q1) he hpl
end
end L2
namespace HT
open PySem PyProof.Rows
theorem rcLt_int (A:Around) (s:Shared) (a:Int) (t:Tok) (c:Int) (u:Tok) (prog:Program) (w:World) (E:Value→Shared→Prop) (Q:Value→Shared→Prop) (h:Q (.bool (decide (a<c))) s) :
  wpAny (model prog w) A (richCompare .Lt (.int a t) (.int c u)) Q E s :=
 (PyProof.Rows.lt_int h:wpAny (model prog w) A (compareOp .Lt (.int a t) (.int c u)) Q E s)
section
variable {prog:Program} {w:World} {A:Around} {E:Value→Shared→Prop} {s:Shared}
def sIx (n d:Nat) : Option Int→Nat
 | none=>d
 | some v=>if v<0 then (v+(n:Int)).toNat else min v.toNat n
end
end HT
namespace L2
open PySem PySem.Spec PyProof.Rows
abbrev TO:=St→Hp→(Option Int→Hp→Prop)→Prop
def PO (X:Cx) (e:Option Expr) (t:TO) : Prop :=
 ∀ (pins:List (Addr × Obj)) (s:Shared) (σ : St) (H:Hp) (Q:Option Int→Hp→Prop),Inv X pins σ H s→t σ H Q →
  wpAny (model X.prog X.w) X.A (evalPart e X.env) (fun u s'=>∃ o H',Inv X pins σ H' s'∧IsPart u o∧Q o H') X.xe s
def tNoPart:TO:=fun _ H Q=>Q none H
def tPart (t:TE) : TO:=fun σ H Q=>t σ H fun x H1=>∃ i,x=.int i∧Q (some i) H1
section
variable {X:Cx} {e:Expr} {te:TE} {lo hi:Option Expr} {tl th:TO} {pos p2:Pos}
theorem po_none:PO X none tNoPart:=by
 intro pins s σ H Q I h
 rw [evalPart_none]
 exact wpAny_pure ⟨none,H,I,.none,h⟩
theorem po_some (h:PE X e te) : PO X (some e) (tPart te):=by
 intro pins s σ H Q I hw
 rw [evalPart_some]
 refine thn (h pins s σ H _ I hw) fun u s1 ⟨x,H1,I1,r1,q1⟩=>?_
 obtain ⟨i,rfl,q⟩:=q1
 obtain ⟨t,rfl⟩:=r1
 exact ⟨some i,H1,I1,.int i t,q⟩
def SlR (X:Cx) (r:V→Option Int→Option Int→Hp→VK→Prop) : Prop :=
 ∀ (pins:List (Addr × Obj)) (s:Shared) (σ : St) (H:Hp) (x:V) (v vl vu:Value) (lo hi:Option Int) (sl:Addr) (Q:VK),Inv X pins σ H s→RelV x v→s.heap.IsSliceOf sl vl vu .none→IsPart vl lo→IsPart vu hi→r x lo hi H Q →
  ∃ T id,typeLookup (.type T) "__getitem__" = pure (some (.builtin id))∧s.TypeIs v T∧wpAny (model X.prog X.w) X.A (getItem v (.ref sl)) (EP X pins σ Q) X.xe s
def tSl (r:V→Option Int→Option Int→Hp→VK→Prop) (te:TE) (tl th:TO) : TE:=fun σ H Q=>te σ H fun x H1=>tl σ H1 fun l H2=>th σ H2 fun u H3=>r x l u H3 Q
theorem pe_slice {r:V→Option Int→Option Int→Hp→VK→Prop} (hr:SlR X r) (he:PE X e te) (hl:PO X lo tl) (hu:PO X hi th) : PE X (.Subscript e (.Slice lo hi none p2) pos) (tSl r te tl th):=by
 intro pins s σ H Q I h
 refine Subscript_ (thn (he pins s σ H _ I h) fun v s1 ⟨x,H1,I1,r1,q1⟩=>?_)
 refine wpAny_Slice (thn (hl pins s1 σ H1 _ I1 q1) fun vl s2 ⟨l,H2,I2,pl,q2⟩=>thn (hu pins s2 σ H2 _ I2 q2) fun vu s3 ⟨u,H3,I3,pu,q3⟩=>?_)
 rw [evalPart_none]
 refine wpAny_pure ?_
 have I4:Inv X pins σ H3 { s3 with heap:=s3.heap.push { cls:=.type "slice", data:=.fields #[vl,vu,.none] } }:=I3.kept (t':=s3.toks) fun b ob q=>Heap.get?_push_of_some _ q
 obtain ⟨T,id,hT,ht,hg⟩:=hr pins { s3 with heap:=s3.heap.push { cls:=.type "slice", data:=.fields #[vl,vu,.none] } } σ H3 x v vl vu l u s3.heap.objs.size Q I4 r1 (Heap.IsSliceOf.new ..) pl pu q3
 show wpAny (model X.prog X.w) X.A (subscriptTail e (.Slice lo hi none p2) v (.ref s3.heap.objs.size)) (EP X pins σ Q) X.xe { s3 with heap:=s3.heap.push { cls:=.type "slice", data:=.fields #[vl,vu,.none] } }
 exact tail_any (ops:=[.ref s3.heap.objs.size,v]) ht hT hg (by with_unfolding_all rfl)
def cutV (xs:List V) (lo hi:Option Int) : List V:=(xs.drop (HT.sIx xs.length 0 lo)).take (HT.sIx xs.length xs.length hi - HT.sIx xs.length 0 lo)
theorem cutV_length (xs:List V) (lo hi:Option Int) : (cutV xs lo hi).length≤xs.length:=by
 unfold cutV
 rw [List.length_take,List.length_drop]
 omega
end
end L2
namespace L2
open PySem PySem.Spec PyProof.Rows
def ixN (n:Nat) (i:Int) : Option Nat:=if 0≤i then (if i<n then some i.toNat else none) else if -(n:Int)≤i then some (i+n).toNat else none
def atI {α : Type} (xs:List α) (i:Int) : Option α:=(ixN xs.length i).bind fun j=>xs[j]?
theorem ixN_seq {n:Nat} {i:Int} {j:Nat} (h:ixN n i=some j) : seqIndex? i n=some j∧j<n∧-(n:Int)≤i∧i<n:=by
 unfold ixN at h
 by_cases h0 : 0≤i
 ·rw [if_pos h0] at h
  by_cases h1:i<n
  ·rw [if_pos h1] at h
   have e:i.toNat=j:=Option.some.inj h
   exact ⟨by rw [seqIndex_of h0 h1,e],by omega,by omega,h1⟩
  ·rw [if_neg h1] at h; cases h
 ·rw [if_neg h0] at h
  by_cases h1 : -(n:Int)≤i
  ·rw [if_pos h1] at h
   have e:(i+n).toNat=j:=Option.some.inj h
   exact ⟨by rw [seqIndex_neg (by omega) h1,e],by omega,h1,by omega⟩
  ·rw [if_neg h1] at h; cases h
theorem atI_get {α : Type} {xs:List α} {i:Int} {v : α} (h:atI xs i=some v) : ∃ j,seqIndex? i xs.length=some j∧xs[j]?=some v∧j<xs.length∧-(xs.length:Int)≤i∧i<xs.length:=by
 unfold atI at h
 cases e:ixN xs.length i with
 | none=>rw [e] at h; cases h
 | some j =>
  rw [e] at h
  obtain ⟨h1,h2,h3,h4⟩:=ixN_seq e
  exact ⟨j,h1,h,h2,h3,h4⟩
theorem atI_nat {α : Type} {xs:List α} {j:Nat} {v : α} (h:xs[j]?=some v) : atI xs (j:Int)=some v:=by
 have hj:j<xs.length:=(List.getElem?_eq_some_iff.mp h).1
 have e:ixN xs.length (j:Int)=some j:=by
  unfold ixN
  rw [if_pos (by omega),if_pos (by omega)]; simp
 unfold atI; rw [e]; exact h
def PlainIx (b:Expr) : Prop:=∀ o i,subscripted b false o i=operate [o,i] (getItem o i)
def IxR (X:Cx) (r:R2) : Prop :=
 ∀ (value slice:Expr) (pins:List (Addr × Obj)) (s:Shared) (σ : St) (H:Hp) (x y:V) (v u:Value) (Q:VK),Inv X pins σ H s→RelV x v→RelV y u→r x y H Q →
  subscripted slice false v u=operate [v,u] (getItem v u)→wpAny (model X.prog X.w) X.A (subscriptTail value slice v u) (EP X pins σ Q) X.xe s
def MtR (X:Cx) (id:String) (r:V→List V→Hp→VK→Prop) : Prop :=
 ∀ (pins:List (Addr × Obj)) (s:Shared) (σ : St) (H:Hp) (x:V) (xs:List V) (v:Value) (us:List Value) (Q:VK),Inv X pins σ H s→RelV x v→Vals xs us→r x xs H Q →
  wpAny (model X.prog X.w) X.A (call (.builtin id) (v :: us)) (EP X pins σ Q) X.xe s
section
variable {X:Cx} {a b:Expr} {ta tb:TE} {pos:Pos}
theorem pe_ix {r:R2} (hr:IxR X r) (ha:PE X a ta) (hb:PE X b tb) (hs:PlainIx b) : PE X (.Subscript a b pos) (tOp r ta tb):=by
 intro pins s σ H Q I h
 exact Subscript_ (binT ha hb I h fun v u s2 x y H2 I2 rx ry q=>hr a b pins s2 σ H2 x y v u Q I2 rx ry q (hs _ _))
def rIxL (K:PySem.W.Frag) : R2:=fun x y H Q=>∃ p xs i v,x=.ref p∧y=.int i∧SqL K H p xs∧atI xs i=some v∧Q v H
def rIxT (K:PySem.W.Frag) : R2:=fun x y H Q=>∃ p xs i v,x=.ref p∧y=.int i∧SqT K H p xs∧atI xs i=some v∧Q v H
theorem ix_list:IxR X (rIxL X.K):=by
 intro value slice pins s σ H x y v u Q I rx ry h hs
 obtain ⟨p,xs,i,z,rfl,rfl,hq,he,q⟩:=h
 cases rx
 obtain ⟨t,rfl⟩:=ry
 obtain ⟨its,r,pl,hz⟩:=I.list hq
 obtain ⟨j,h1,h2,h3,h4,h5⟩:=atI_get he
 obtain ⟨w,ew,rw'⟩:=r.get h2
 have hl:=r.length
 have hn:=line63
 have fin:EP X pins σ Q w s:=⟨z,H,I,rw',q⟩
 by_cases h0 : 0≤i
 ·have hj:i.toNat=j:=by
   rw [seqIndex_of h0 h5] at h1
   exact Option.some.inj h1
  exact item_listR pl.isList h0 (by omega) (by rw [hj]; simpa using ew) fin hs
 ·have hj:(i+(its.toArray.size:Int)).toNat=j:=by
   rw [seqIndex_neg (by omega) h4] at h1
   rw [List.size_toArray,← hl]
   exact Option.some.inj h1
  exact subscriptTail_builtinR (x:=w) pl.isList.typeIs slot_list_getitem.lookup
   (wpAny_getItem_list_neg (Q:=fun r s'=>r=w∧EP X pins σ Q r s') pl.isList (by omega) (by rw [List.size_toArray] <;> omega) (by omega) (by rw [hj]; simpa using ew) ⟨rfl,fin⟩) hs
theorem ix_tup:IxR X (rIxT X.K):=by
 intro value slice pins s σ H x y v u Q I rx ry h hs
 obtain ⟨p,xs,i,z,rfl,rfl,hq,he,q⟩:=h
 cases rx
 obtain ⟨t,rfl⟩:=ry
 obtain ⟨its,r,pl,hz⟩:=I.tuple hq
 obtain ⟨j,h1,h2,h3,h4,h5⟩:=atI_get he
 obtain ⟨w,ew,rw'⟩:=r.get h2
 have hl:=r.length
 have hn:=line63
 have fin:EP X pins σ Q w s:=⟨z,H,I,rw',q⟩
 exact subscriptTail_builtinR (x:=w) pl.typeIs slot_tuple_getitem.lookup
  (getItem_tuple (j:=j) (Q:=fun r s'=>r=w∧EP X pins σ Q r s') pl (by omega) (by omega) (by rw [List.size_toArray,← hl]; exact h1) (by simpa using ew) ⟨rfl,fin⟩) hs
theorem mapSeq_set (its:List Value) (n j:Nat) (u:Value) : Obj.mapSeq (·.setIfInBounds j u) { cls:=.type "list", data:=.seq its.toArray n }={ cls:=.type "list", data:=.seq (its.set j u).toArray n }:=by
 simp [Obj.mapSeq]
theorem Inv.lst {pins:List (Addr × Obj)} {σ : St} {H:Hp} {s:Shared} {p:Addr} {xs:List V} (I:Inv X pins σ H s) (h:H p=some (.lst xs)) :
  ∃ (its:List Value) (n:Nat),Vals xs its∧s.heap.get? p=some { cls:=.type "list", data:=.seq its.toArray n }∧xs.length≤sizeLine:=by
 obtain ⟨z,its,n,r,e⟩:=I.hok p _ h
 exact ⟨its,n,r,e,z⟩
theorem Inv.lstUpd {pins:List (Addr × Obj)} {σ : St} {H:Hp} {s:Shared} {p:Addr} {xs ys:List V} {its its':List Value} {n n':Nat} {f:Obj→Obj} (I:Inv X pins σ H s) (h:H p=some (.lst xs))
  (ho:s.heap.get? p=some { cls:=.type "list", data:=.seq its.toArray n }) (hf:f { cls:=.type "list", data:=.seq its.toArray n }={ cls:=.type "list", data:=.seq its'.toArray n' }) (r:Vals ys its') (hz:ys.length≤sizeLine) (t:Nat) :
  Inv X pins σ (upd H p (.lst ys)) { s with heap:=s.heap.update p f,toks:=t }:=by
 have e:(s.heap.update p f).get? p=some { cls:=.type "list", data:=.seq its'.toArray n' }:=by
  rw [Heap.get?_update_self f ho (by rw [hf] <;> rfl),hf]
 refine I.write (x:=p) (e:=p) (by rw [h]; trivial) (.inl rfl) (fun b u hb q=>(Heap.get?_update_other _ _ (Ne.symm hb)).trans q) ⟨_,e⟩ ?_
 exact ⟨hz,its',n',r,e⟩
def rSetL:V→V→V→Hp→(Hp→Prop)→Prop:=fun o i v H Q=>∃ p xs k j,o=.ref p∧i=.int k∧H p=some (.lst xs)∧ixN xs.length k=some j∧Q (upd H p (.lst (xs.set j v)))
theorem set_list:PSet X rSetL:=by
 intro pins s σ H o i v ov iv u Q I ro ri rv h
 obtain ⟨p,xs,k,j,rfl,rfl,hp,hj,q⟩:=h
 cases ro
 obtain ⟨t,rfl⟩:=ri
 obtain ⟨its,n,r,ho,hz⟩:=I.lst hp
 obtain ⟨h1,h2,h3,h4⟩:=ixN_seq hj
 have hl:=r.length
 have hn:=line63
 have I':Inv X pins σ (upd H p (.lst (xs.set j v))) { s with heap:=s.heap.update p (Obj.mapSeq (·.setIfInBounds j u)) } :=
  I.lstUpd hp ho (mapSeq_set its n j u) (r.set rv j) (by rw [List.length_set]; exact hz) s.toks
 by_cases h0 : 0≤k
 ·have hk:k.toNat=j:=by
   rw [seqIndex_of h0 h4] at h1
   exact Option.some.inj h1
  exact PySem.W.ki_setAt ho h0 (by omega) (by rw [List.size_toArray,← hl]; exact h4) (by rw [hk]; exact ⟨_,I',q⟩)
 ·have hk:(k+(its.toArray.size:Int)).toNat=j:=by
   rw [seqIndex_neg (by omega) h3] at h1
   rw [List.size_toArray,← hl]
   exact Option.some.inj h1
  exact PySem.W.ki_setBack ho (by omega) (by rw [List.size_toArray,← hl]; exact h3) (by omega) (by rw [hk]; exact ⟨_,I',q⟩)
theorem slice_bounds (lo hi:Option Int) (n:Nat) : (sliceBounds lo hi none n).1=((HT.sIx n 0 lo:Nat) : Int)∧(sliceBounds lo hi none n).2.1=((HT.sIx n n hi:Nat) : Int)∧(sliceBounds lo hi none n).2.2=1:=by
 refine ⟨?_,?_,rfl⟩
 ·cases lo with
  | none=>simp [sliceBounds,HT.sIx]
  | some i =>
   simp only [sliceBounds,HT.sIx,Option.getD_none,show (1:Int) > 0 by decide,if_true]
   by_cases h:i<0
   ·simp only [h,if_true] <;> omega
   ·simp only [h,if_false] <;> omega
 ·cases hi with
  | none=>simp [sliceBounds,HT.sIx]
  | some i =>
   simp only [sliceBounds,HT.sIx,Option.getD_none,show (1:Int) > 0 by decide,if_true]
   by_cases h:i<0
   ·simp only [h,if_true] <;> omega
   ·simp only [h,if_false] <;> omega
theorem slicePick_cut (its:List Value) (lo hi:Option Int) : slicePick its.toArray lo hi none=((its.drop (HT.sIx its.length 0 lo)).take (HT.sIx its.length its.length hi - HT.sIx its.length 0 lo)).toArray:=by
 obtain ⟨h1,h2,h3⟩:=slice_bounds lo hi its.toArray.size
 unfold slicePick
 rw [h1,h2,h3]
 simp only [sliceRange_one,pick_run,List.size_toArray] <;> rfl
def rSlL (K:PySem.W.Frag) : V→Option Int→Option Int→Hp→VK→Prop:=fun x lo hi H Q=>∃ a xs,x=.ref a∧SqL K H a xs∧∀ p,H p=none→Q (.ref p) (upd H p (.lst (cutV xs lo hi)))
theorem sl_list:SlR X (rSlL X.K):=by
 intro pins s σ H x v vl vu lo hi sl Q I rx hs pl pu h
 obtain ⟨a,xs,rfl,hx,q⟩:=h
 cases rx
 obtain ⟨its,r,ht,hz⟩:=I.list hx
 have hlen:=r.length
 refine ⟨"list", _,slot_list_getitem.lookup,ht.isList.typeIs,?_⟩
 refine wpAny_getItem_list_slice ht.isList hs pl pu .none (by simp) ?_ (by rw [List.size_toArray] <;> omega)
 rw [slicePick_cut,← hlen]
 refine ⟨.ref s.heap.objs.size,_,I.laid (t':=s.toks) (o:=.lst (cutV xs lo hi)) (fun b ob q=>Heap.get?_push_of_some _ q) (Nat.le_refl _) ?_,rfl,q _ (I.hok.fresh (Nat.le_refl _))⟩
 exact ⟨Nat.le_trans (cutV_length xs lo hi) hz,_,0,(r.drop (HT.sIx xs.length 0 lo)).take (HT.sIx xs.length xs.length hi - HT.sIx xs.length 0 lo),Heap.get?_push_size _ rfl⟩
def flatV:V→Bool
 | .non=>true
 | .bl _=>true
 | .int _=>true
 | .str _=>true
 | _=>false
def eqV:V→V→Bool
 | .non,.non=>true
 | .bl a,.bl b=>a == b
 | .bl a,.int b=>(if a then 1 else 0) == b
 | .int a,.bl b=>a == (if b then 1 else 0)
 | .int a,.int b=>a == b
 | .str a,.str b=>a == b
 | _,_=>false
theorem eqAt_V {A:Around} {s:Shared} {y x:V} {u v:Value} (ry:RelV y u) (rx:RelV x v) (fy:flatV y=true) (fx:flatV x=true) : SeqAt.EqAt A s u v (eqV y x):=by
 cases y with
 | non =>
  cases ry
  cases x with
  | non=>cases rx; exact SeqAt.EqAt.same _
  | bl b=>cases rx; exact SeqAt.EqAt.none_bool b
  | int b=>obtain ⟨t,rfl⟩:=rx; exact SeqAt.EqAt.none_int b t
  | str b=>obtain ⟨t,rfl⟩:=rx; exact SeqAt.EqAt.none_str b t
  | _=>exact absurd (show false=true from fx) Bool.false_ne_true
 | bl a =>
  cases ry
  cases x with
  | non=>cases rx; exact SeqAt.EqAt.bool_none a
  | bl b=>cases rx; exact SeqAt.EqAt.bool_bool a b
  | int b=>obtain ⟨t,rfl⟩:=rx; exact SeqAt.EqAt.bool_int a b t
  | str b=>obtain ⟨t,rfl⟩:=rx; exact SeqAt.EqAt.bool_str a b t
  | _=>exact absurd (show false=true from fx) Bool.false_ne_true
 | int a =>
  obtain ⟨t',rfl⟩:=ry
  cases x with
  | non=>cases rx; exact SeqAt.EqAt.int_none a t'
  | bl b=>cases rx; exact SeqAt.EqAt.int_bool a t' b
  | int b=>obtain ⟨t,rfl⟩:=rx; exact SeqAt.EqAt.int_int a t' b t
  | str b=>obtain ⟨t,rfl⟩:=rx; exact SeqAt.EqAt.int_str a t' b t
  | _=>exact absurd (show false=true from fx) Bool.false_ne_true
 | str a =>
  obtain ⟨t',rfl⟩:=ry
  cases x with
  | non=>cases rx; exact SeqAt.EqAt.str_none a t'
  | bl b=>cases rx; exact SeqAt.EqAt.str_bool a t' b
  | int b=>obtain ⟨t,rfl⟩:=rx; exact SeqAt.EqAt.str_int a t' b t
  | str b=>obtain ⟨t,rfl⟩:=rx; exact SeqAt.EqAt.str_str a t' b t
  | _=>exact absurd (show false=true from fx) Bool.false_ne_true
 | _=>exact absurd (show false=true from fy) Bool.false_ne_true
def eqU (x:V) (u:Value) : Bool:=match u with
 | .none=>eqV .non x
 | .bool b=>eqV (.bl b) x
 | .int i _=>eqV (.int i) x
 | .str z _=>eqV (.str z) x
 | _=>false
theorem eqU_of {x y:V} {u:Value} (r:RelV y u) (f:flatV y=true) : eqU x u=eqV y x:=by
 cases y with
 | non=>cases r; rfl
 | bl b=>cases r; rfl
 | int i=>obtain ⟨t,rfl⟩:=r; rfl
 | str z=>obtain ⟨t,rfl⟩:=r; rfl
 | _=>exact absurd (show false=true from f) Bool.false_ne_true
theorem any_eqU {x:V} : ∀ {xs:List V} {us:List Value},Vals xs us→xs.all flatV=true→us.any (eqU x)=xs.any fun y=>eqV y x
 | _,_,.nil,_=>rfl
 | y :: xs,u :: us,.cons r t,f=>by
  rw [List.all_cons,Bool.and_eq_true] at f
  rw [List.any_cons,List.any_cons,eqU_of r f.1,any_eqU t f.2]
theorem mem_eqAt {A:Around} {s:Shared} {x:V} {v:Value} (rx:RelV x v) (fx:flatV x=true) : ∀ {xs:List V} {us:List Value},Vals xs us→xs.all flatV=true→∀ u∈us,SeqAt.EqAt A s u v (eqU x u)
 | _,_,.nil,_=>fun u hu=>by cases hu
 | y :: xs,u :: us,.cons r t,f=>fun u' hu=>by
  rw [List.all_cons,Bool.and_eq_true] at f
  rcases List.mem_cons.mp hu with rfl | hu
  ·rw [eqU_of r f.1]; exact eqAt_V r rx f.1 fx
  ·exact mem_eqAt rx fx t f.2 u' hu
def inV (x:V) (xs:List V) : Bool:=xs.any fun y=>eqV y x
def rIn (K:PySem.W.Frag) (neg:Bool) : R2:=fun x y H Q=>∃ p xs,y=.ref p∧(SqL K H p xs∨SqT K H p xs)∧flatV x=true∧xs.all flatV=true∧Q (.bl (if neg then !inV x xs else inV x xs)) H
theorem op_in_seq:OpR X (compareOp .In) (rIn X.K false):=by
 intro pins s σ H x y v u Q I rx ry h
 obtain ⟨p,xs,rfl,hq,fx,fs,q⟩:=h
 cases ry
 rcases hq with hq | hq
 ·obtain ⟨its,r,pl,hz⟩:=I.list hq
  refine SeqAt.in_listAt (eqU x) pl.isList (fun w hw=>mem_eqAt rx fx r fs w (by simpa using hw)) ⟨.bl _,H,I,rfl,?_⟩
  rw [show its.toArray.any (eqU x)=its.any (eqU x) by simp,any_eqU r fs]
  exact q
 ·obtain ⟨its,r,pl,hz⟩:=I.tuple hq
  refine SeqAt.in_tupleAt (eqU x) pl (fun w hw=>mem_eqAt rx fx r fs w (by simpa using hw)) ⟨.bl _,H,I,rfl,?_⟩
  rw [show its.toArray.any (eqU x)=its.any (eqU x) by simp,any_eqU r fs]
  exact q
theorem op_notIn_seq:OpR X (compareOp .NotIn) (rIn X.K true):=by
 intro pins s σ H x y v u Q I rx ry h
 obtain ⟨p,xs,rfl,hq,fx,fs,q⟩:=h
 cases ry
 rcases hq with hq | hq
 ·obtain ⟨its,r,pl,hz⟩:=I.list hq
  refine SeqAt.notIn_listAt (eqU x) pl.isList (fun w hw=>mem_eqAt rx fx r fs w (by simpa using hw)) ⟨.bl _,H,I,rfl,?_⟩
  rw [show its.toArray.any (eqU x)=its.any (eqU x) by simp,any_eqU r fs]
  exact q
 ·obtain ⟨its,r,pl,hz⟩:=I.tuple hq
  refine SeqAt.notIn_tupleAt (eqU x) pl (fun w hw=>mem_eqAt rx fx r fs w (by simpa using hw)) ⟨.bl _,H,I,rfl,?_⟩
  rw [show its.toArray.any (eqU x)=its.any (eqU x) by simp,any_eqU r fs]
  exact q
theorem call_len_seq:CallR X (.builtin "len") (fun xs H Q=>∃ p ys,xs=[.ref p]∧(SqL X.K H p ys∨SqT X.K H p ys)∧Q (.int ys.length) H):=by
 intro pins s σ H xs us Q I r h
 obtain ⟨p,ys,rfl,hq,q⟩:=h
 obtain ⟨u,rfl,rx⟩:=vals1 r
 cases rx
 have hn:=line63
 rcases hq with hq | hq
 ·obtain ⟨its,r',pl,hz⟩:=I.list hq
  have hlen:=r'.length
  exact Calls.call_len_list pl.isList (by simp only [List.size_toArray] <;> omega) ⟨.int ys.length,H,I.tok _,⟨s.toks+1,by rw [List.size_toArray,hlen]⟩,q⟩
 ·obtain ⟨its,r',pl,hz⟩:=I.tuple hq
  have hlen:=r'.length
  exact len_tuple pl (by simp only [List.size_toArray] <;> omega) ⟨.int ys.length,H,I.tok _,⟨s.toks+1,by rw [List.size_toArray,hlen]⟩,q⟩
theorem call_list_of:CallR X (.type "list") (fun xs H Q=>∃ p ys,xs=[.ref p]∧(SqL X.K H p ys∨SqT X.K H p ys)∧∀ l,H l=none→Q (.ref l) (upd H l (.lst ys))):=by
 intro pins s σ H xs us Q I r h
 obtain ⟨p,ys,rfl,hq,q⟩:=h
 obtain ⟨u,rfl,rx⟩:=vals1 r
 cases rx
 have fin : ∀ (its:List Value),Vals ys its→ys.length≤sizeLine→∀ (h':Heap) (c':Nat),(∀ b o',s.heap.get? b=some o'→h'.get? b=some o') →
   h'.get? s.heap.objs.size=some { cls:=.type "list", dict:=none,data:=.seq its.toArray c',slots:=#[] }→EP X pins σ Q (.ref s.heap.objs.size) { s with heap:=h' }:=fun its r' hz h' c' kp e =>
  ⟨.ref s.heap.objs.size,_,I.laid (t':=s.toks) kp (Nat.le_refl _) (show ObjOk X.prog X.w _ h' _ (.lst ys) from ⟨hz,its,c',r',e⟩),rfl,q _ (I.hok.fresh (Nat.le_refl _))⟩
 rcases hq with hq | hq
 ·obtain ⟨its,r',pl,hz⟩:=I.list hq
  have hlen:=r'.length
  obtain ⟨o,ho,hc,n,hd⟩:=pl.isList
  exact call_list_seq p (.inl rfl) ho hc hd (fun h' c' kp e=>fin its r' hz h' c' kp e) (by simp only [List.size_toArray] <;> omega)
 ·obtain ⟨its,r',pl,hz⟩:=I.tuple hq
  have hlen:=r'.length
  obtain ⟨o,ho,hc,n,hd⟩:=pl
  exact call_list_seq p (.inr rfl) ho hc hd (fun h' c' kp e=>fin its r' hz h' c' kp e) (by simp only [List.size_toArray] <;> omega)
theorem call_tuple_of:CallR X (.type "tuple") (fun xs H Q=>∃ p ys,xs=[.ref p]∧((SqL X.K H p ys∧∀ l,H l=none→Q (.ref l) (upd H l (.tup ys)))∨(SqT X.K H p ys∧Q (.ref p) H))):=by
 intro pins s σ H xs us Q I r h
 obtain ⟨p,ys,rfl,h⟩:=h
 obtain ⟨u,rfl,rx⟩:=vals1 r
 cases rx
 rcases h with ⟨hq,q⟩ | ⟨hq,q⟩
 ·obtain ⟨its,r',pl,hz⟩:=I.list hq
  have hlen:=r'.length
  refine call_tuple_list pl.isList (fun h' kp=>?_) (by simp only [List.size_toArray] <;> omega)
  have I1:Inv X pins σ H { s with heap:=h' }:=I.kept (t':=s.toks) kp
  have I2:Inv X pins σ (upd H h'.objs.size (.tup ys)) { s with heap:=h'.push { cls:=.type "tuple", data:=.seq its.toArray } } :=
   I1.laid (t':=s.toks) (fun b o e=>Heap.get?_push_of_some _ e) (Nat.le_refl _) (show ObjOk X.prog X.w _ _ _ (.tup ys) from ⟨hz,its,r',IsTup.new _ _⟩)
  exact ⟨.ref h'.objs.size,_,I2,rfl,q _ (I1.hok.fresh (Nat.le_refl _))⟩
 ·obtain ⟨its,r',pl,hz⟩:=I.tuple hq
  exact call_tuple_same pl ⟨.ref p,H,I,rfl,q⟩
def tyV (K:PySem.W.Frag) (T:String) (x:V) (H:Hp) : Prop:=match x with
 | .str _=>T = "str"
 | .int _=>T = "int"
 | .ref p=>(T = "list" ∧ ∃ xs,SqL K H p xs)∨(T = "tuple" ∧ ((∃ o,K.lookup p=some o∧o.cls=.type "tuple" ∧ o.dict=none)∨∃ o xs,H p=some (.frz o (.tup xs))∧o.cls=.type "tuple" ∧ o.dict=none)) ∨
   (T = "dict" ∧ ((∃ kvs,H p=some (.dK kvs))∨∃ kvs,H p=some (.dT kvs)))∨(T = "set" ∧ ∃ S n,H p=some (.set S n))
 | _=>False
theorem tyV_is {pins:List (Addr × Obj)} {σ : St} {H:Hp} {s:Shared} {T:String} {x:V} {v:Value} (I:Inv X pins σ H s) (r:RelV x v) (ty:tyV X.K T x H) :
  s.TypeIs v T∧∀ a,v=.ref a→∃ ob,s.heap.get? a=some ob∧ob.dict=none:=by
 cases x with
 | str z =>
  obtain ⟨t,rfl⟩:=r
  cases (show T = "str" from ty)
  exact ⟨typeIs_str s z t,fun _ e=>nomatch e⟩
 | int i =>
  obtain ⟨t,rfl⟩:=r
  cases (show T = "int" from ty)
  exact ⟨typeIs_int s i t,fun _ e=>nomatch e⟩
 | ref p =>
  cases r
  rcases ty with ⟨rfl,xs,hq⟩ | ⟨rfl,⟨o,hk,hc,hd⟩ | ⟨o,xs,hk,hc,hd⟩⟩ | ⟨rfl,hk⟩ | ⟨rfl,S,n,hk⟩
  ·obtain ⟨its,_,pl,_⟩:=I.list hq
   refine ⟨pl.isList.typeIs,fun a e=>?_⟩
   cases e
   obtain ⟨o,n,e,c,hd,_⟩:=pl
   exact ⟨o,e,hd⟩
  ·refine ⟨⟨o,I.kIn p o hk,hc⟩,fun a e=>?_⟩
   cases e
   exact ⟨o,I.kIn _ o hk,hd⟩
  ·obtain ⟨e,_⟩:=(show ObjOk X.prog X.w H s.heap p (.frz o (.tup xs)) from I.hok p _ hk)
   exact ⟨⟨o,e,hc⟩,fun a z=>by cases z; exact ⟨o,e,hd⟩⟩
  ·have z : ∃ o,s.heap.get? p=some o∧o.ExactDict:=by
    rcases hk with ⟨kvs,hk⟩ | ⟨kvs,hk⟩
    ·obtain ⟨_,_,_,_,o,_,_,e,ex,_⟩:=I.hok p _ hk
     exact ⟨o,e,ex⟩
    ·obtain ⟨_,_,_,_,o,_,_,e,ex,_⟩:=I.hok p _ hk
     exact ⟨o,e,ex⟩
   obtain ⟨o,e,ex⟩:=z
   refine ⟨⟨o,e,ex.1⟩,fun a e2=>?_⟩
   cases e2
   exact ⟨o,e,ex.2.1⟩
  ·obtain ⟨o,_,_,_,e,ex,_⟩:=I.hok p _ hk
   refine ⟨⟨o,e,ex.1⟩,fun a e2=>?_⟩
   cases e2
   exact ⟨o,e,ex.2.1⟩
 | _=>exact False.elim ty
def tBM0 (K:PySem.W.Frag) (T:String) (r:V→List V→Hp→VK→Prop) (to:TE) : TE:=fun σ H Q=>to σ H fun x H1=>tyV K T x H1∧r x [] H1 Q
def tBM (K:PySem.W.Frag) (T:String) (r:V→List V→Hp→VK→Prop) (to:TE) (t:TA) : TE:=fun σ H Q=>to σ H fun x H1=>tyV K T x H1∧t σ H1 fun xs H2=>r x xs H2 Q
variable {o e:Expr} {es:List Expr} {to:TE} {t:TA} {name:Str} {apos cpos:Pos} {T id:String} {r:V→List V→Hp→VK→Prop}
theorem pe_bm0 (pa:PlainAttrs T) (slot:Slot T name id) (hty:typeOf (.builtin id)=pure (.type "method_descriptor")) (hm:MtR X id r) (ho:PE X o to)
  (hbase:attributeBase o name X.env (eval o X.env)=eval o X.env:=by rfl) (hline:(apos.endLine == cpos.line)=true:=by rfl) : PE X (.Call (.Attribute o name apos) [] [] cpos) (tBM0 X.K T r to):=by
 intro pins s σ H Q I h
 refine wpAny_Call_method0_late hbase hline (thn (ho pins s σ H _ I h) fun v s1 ⟨x,H1,I1,r1,ty,q1⟩=>?_)
 obtain ⟨h1,h2⟩:=tyV_is I1 r1 ty
 exact ⟨T,id,pa,slot,hty,h1,h2,Calls.callWith_builtin rfl (PySem.evalArgs_none (hm pins s1 σ H1 x [] v [] Q I1 r1 .nil q1))⟩
theorem pe_bm (pa:PlainAttrs T) (slot:Slot T name id) (hty:typeOf (.builtin id)=pure (.type "method_descriptor")) (hm:MtR X id r) (ho:PE X o to) (ha:PA X (e :: es) t)
  (hbase:attributeBase o name X.env (eval o X.env)=eval o X.env:=by rfl)
  (hfew:((backTo cpos (starEach (e :: es) X.env)).all (fun x=>!x.1) && (backToKw cpos (keywordEach [] X.env)).all (fun x=>x.1.isSome)
   && decide ((e :: es).length+([] : List Keyword).length+(if ([] : List Keyword).isEmpty then 0 else 1)<30))=true:=by rfl)
  (hline:(apos.endLine == cpos.line)=true:=by rfl) (hs:starEach (e :: es) X.env=(false,eval e X.env) :: starEach es X.env:=by rfl) (hplain:(backTo cpos (starEach es X.env)).any (·.1)=false:=by rfl) :
  PE X (.Call (.Attribute o name apos) (e :: es) [] cpos) (tBM X.K T r to t):=by
 intro pins s σ H Q I h
 refine wpAny_Call_method_late hbase hfew hline rfl (thn (ho pins s σ H _ I h) fun v s1 ⟨x,H1,I1,r1,ty,q1⟩=>?_)
 obtain ⟨h1,h2⟩:=tyV_is I1 r1 ty
 refine ⟨T,id,pa,slot,hty,h1,h2,?_⟩
 have hA:=ha cpos pins s1 σ H1 _ I1 q1
 rw [hs] at hA ⊢
 refine Calls.callWith_builtin (by show (false || (backTo cpos (starEach es X.env)).any (·.1))=false; rw [hplain] <;> rfl) (Calls.evalArgs_plain ?_)
 exact thn hA fun us s2 ⟨vs,H2,I2,r2,q2⟩=>hm pins s2 σ H2 x vs v us Q I2 r1 r2 q2
/- xs.append(e), list.index on a module's tuple .. are MtR facts of 06m -/
end
end L2
namespace L2
open PySem PySem.Spec PyProof.Rows
def MtM (X:Cx) (id:String) (r:V→List V→Hp→VK→Prop) : Prop :=
 ∀ (pins:List (Addr × Obj)) (s:Shared) (σ : St) (H:Hp) (x:V) (xs:List V) (v:Value) (us:List Value) (Q:VK),Inv X pins σ H s→RelV x v→Vals xs us→r x xs H Q →
  wpAny (model X.prog X.w) X.A (call (.builtin id) (v :: us)) (EP X pins σ Q) X.xe s
theorem Vals.one : ∀ {x:V} {us:List Value},Vals [x] us→∃ u,us=[u]∧RelV x u
 | _,_,.cons r .nil=>⟨_,rfl,r⟩
theorem Vals.zero : ∀ {us:List Value},Vals [] us→us=[]
 | _,.nil=>rfl
theorem Vals.dropLast {xs:List V} {us:List Value} (h:Vals xs us) : Vals xs.dropLast us.dropLast:=by
 induction h with
 | nil=>exact .nil
 | cons r t ih =>
  cases t with
  | nil=>exact .nil
  | cons q t'=>exact .cons r ih
theorem Vals.eraseIdx : ∀ {xs:List V} {us:List Value} (i:Nat),Vals xs us→Vals (xs.eraseIdx i) (us.eraseIdx i)
 | _,_,_,.nil=>.nil
 | _,_,0,.cons _ t=>t
 | _,_,i+1,.cons r t=>.cons r (Vals.eraseIdx i t)
theorem Vals.reverse {xs:List V} {us:List Value} (h:Vals xs us) : Vals xs.reverse us.reverse:=by
 induction h with
 | nil=>exact .nil
 | cons r t ih=>rw [List.reverse_cons,List.reverse_cons]; exact Vals.append ih (.cons r .nil)
theorem Vals.rep {xs:List V} {us:List Value} (h:Vals xs us) : ∀ k:Nat,Vals (List.replicate k xs).flatten (List.replicate k us).flatten
 | 0=>.nil
 | k+1=>by
  rw [List.replicate_succ,List.replicate_succ,List.flatten_cons,List.flatten_cons]
  exact Vals.append h (Vals.rep h k)
theorem erase_last {α : Type} (l:List α) : l.eraseIdx (l.length - 1)=l.dropLast:=by
 induction l with
 | nil=>rfl
 | cons a r ih =>
  cases r with
  | nil=>rfl
  | cons b r =>
   have e:(a :: b :: r).length - 1=((b :: r).length - 1)+1:=by
    have h1:(a :: b :: r).length=r.length+2:=rfl
    have h2:(b :: r).length=r.length+1:=rfl
    omega
   rw [e,List.eraseIdx_cons_succ,ih]
   all_goals rfl
theorem len_erase {α : Type} : ∀ (l:List α) (i:Nat),(l.eraseIdx i).length≤l.length
 | [],_=>Nat.le_refl _
 | _ :: _,0=>Nat.le_succ _
 | _ :: r,i+1=>Nat.succ_le_succ (len_erase r i)
theorem foldl_rep (its:List Value) : ∀ (k:Nat) (acc:List Value),
  List.foldl (fun x1 x2=>x1++x2) acc.toArray (List.replicate k its.toArray)=(acc++(List.replicate k its).flatten).toArray
 | 0,acc=>by simp
 | k+1,acc=>by
  have e:acc.toArray++its.toArray=(acc++its).toArray:=by simp
  have e2:(acc++its)++(List.replicate k its).flatten=acc++(List.replicate (k+1) its).flatten:=by
   rw [List.replicate_succ,List.flatten_cons,List.append_assoc]
  rw [← e2,← foldl_rep its k (acc++its),← e,List.replicate_succ,List.foldl_cons]
section
variable {X:Cx} {pins:List (Addr × Obj)} {σ : St} {H:Hp} {s:Shared} {l b:Addr} {xs ys zs:List V}
theorem Inv.lset {its its':List Value} {n:Nat} {f:Array Value→Array Value} {t':Nat} (I:Inv X pins σ H s) (hH:H l=some (.lst xs))
  (e:s.heap.get? l=some { cls:=.type "list", data:=.seq its.toArray n }) (hf:f its.toArray=its'.toArray) (hv:Vals ys its') (hz:ys.length≤sizeLine) :
  Inv X pins σ (upd H l (.lst ys)) { s with heap:=s.heap.update l (Obj.mapSeq f),toks:=t' }:=by
 have q:=PySem.IsL.update e f
 rw [hf] at q
 refine I.write (x:=l) (e:=l) (by rw [hH]; exact trivial) (.inl rfl) (fun b' u hb hu=>(Heap.get?_update_other s.heap (Obj.mapSeq f) (Ne.symm hb)).trans hu) ⟨_,q⟩ ?_
 exact ⟨hz,its',_,hv,q⟩
theorem Inv.lnew {its:List Value} {t':Nat} (I:Inv X pins σ H s) (hv:Vals ys its) (hz:ys.length≤sizeLine) :
  Inv X pins σ (upd H s.heap.objs.size (.lst ys)) { s with heap:=s.heap.push { cls:=.type "list", data:=.seq its.toArray },toks:=t' } :=
 I.laid (fun _ _ q=>Heap.get?_push_of_some _ q) (Nat.le_refl _) ⟨hz,its,0,hv,Heap.get?_push_size _ rfl⟩
theorem Inv.fresh (I:Inv X pins σ H s) : H s.heap.objs.size=none:=I.hok.fresh (Nat.le_refl _)
theorem Inv.lstM (I:Inv X pins σ H s) (hH:H l=some (.lst xs)) : xs.length≤sizeLine∧∃ (its:List Value) (n:Nat),Vals xs its∧xs.length=its.length∧s.heap.get? l=some { cls:=.type "list", data:=.seq its.toArray n }:=by
 obtain ⟨z,its,n,r,e⟩:=I.hok l _ hH
 exact ⟨z,its,n,r,r.length,e⟩
theorem notLongL {n:Nat} (h:n≤sizeLine) : Builtin.List.listTooLong n=false:=by
 unfold Builtin.List.listTooLong
 exact decide_eq_false (by omega)
end
section
variable {X:Cx}
def rAppend:V→List V→Hp→VK→Prop:=fun x vs H Q=>∃ l xs y,x=.ref l∧vs=[y]∧H l=some (.lst xs)∧xs.length<sizeLine∧Q .non (upd H l (.lst (xs++[y])))
theorem mt_append:MtM X "list.append" rAppend:=by
 intro pins s σ H x vs v us Q I rx rv h
 obtain ⟨l,xs,y,rfl,rfl,hH,hz,q⟩:=h
 cases rx
 obtain ⟨u,rfl,ru⟩:=rv.one
 obtain ⟨z,its,n,r,hl,e⟩:=I.lstM hH
 refine call_meets F.slot_list_append ⟨_,e,rfl⟩ F.entry_list_append (F.args_list_append_2 _ _) (PySem.list_append l its.toArray n u (by rw [List.size_toArray]; omega)) ⟨e,?_⟩
 refine ⟨.non,_,I.lset (its':=its++[u]) hH e (by simp) (r.append (.cons ru .nil)) ?_,rfl,q⟩
 rw [List.length_append,List.length_singleton]
 omega
def rExtend:V→List V→Hp→VK→Prop:=fun x vs H Q=>∃ l b xs zs,x=.ref l∧vs=[.ref b]∧H l=some (.lst xs)∧H b=some (.lst zs)∧xs.length+zs.length≤sizeLine∧Q .non (upd H l (.lst (xs++zs)))
theorem mt_extend:MtM X "list.extend" rExtend:=by
 intro pins s σ H x vs v us Q I rx rv h
 obtain ⟨l,b,xs,zs,rfl,rfl,hH,hB,hz,q⟩:=h
 cases rx
 obtain ⟨u,rfl,ru⟩:=rv.one
 cases ru
 obtain ⟨z,its,n,r,hl,e⟩:=I.lstM hH
 obtain ⟨z2,its2,n2,r2,hl2,e2⟩:=I.lstM hB
 have hsz:its.toArray.size+its2.toArray.size≤sizeLine:=by rw [List.size_toArray,List.size_toArray]; omega
 have hlong : ¬ (!its.toArray.isEmpty && Builtin.List.listTooLong (its.toArray.size+its2.toArray.size))=true:=by
  rw [notLongL hsz,Bool.and_false]
  exact Bool.false_ne_true
 refine call_meets F.slot_list_extend ⟨_,e,rfl⟩ F.entry_list_extend (F.args_list_extend_2 _ _)
  (AutoSeq1.list_extend_list_list_0 l its.toArray n b its2.toArray n2 hlong (by rw [List.size_toArray]; omega) (by omega)) ⟨e,e2,?_⟩
 refine ⟨.non,_,I.lset (its':=its++its2) hH e (by simp) (r.append r2) ?_,rfl,q⟩
 rw [List.length_append]
 omega
def rPop:V→List V→Hp→VK→Prop:=fun x vs H Q=>∃ l xs y,x=.ref l∧vs=[]∧H l=some (.lst xs)∧xs[xs.length - 1]?=some y∧Q y (upd H l (.lst xs.dropLast))
theorem mt_pop:MtM X "list.pop" rPop:=by
 intro pins s σ H x vs v us Q I rx rv h
 obtain ⟨l,xs,y,rfl,rfl,hH,hy,q⟩:=h
 cases rx
 have hus:=rv.zero
 subst hus
 obtain ⟨z,its,n,r,hl,e⟩:=I.lstM hH
 obtain ⟨u,hu,ru⟩:=r.get hy
 have hy':its.toArray[its.toArray.size - 1]?=some u:=by
  show its.toArray[its.length - 1]?=some u
  rw [← Array.getElem?_toList,← hl]
  exact hu
 refine call_meets F.slot_list_pop ⟨_,e,rfl⟩ F.entry_list_pop (F.args_list_pop_1 _) (MeetsSeq.list_pop_last l its.toArray n u hy' (by rw [List.size_toArray]; omega)) ⟨e,?_⟩
 refine ⟨y,_,I.lset (its':=its.dropLast) hH e ?_ r.dropLast ?_,ru,q⟩
 ·show its.toArray.eraseIdxIfInBounds (its.toArray.size - 1)=its.dropLast.toArray
  rw [List.size_toArray,List.eraseIdxIfInBounds_toArray,erase_last]
 ·rw [List.length_dropLast]
  omega
def rPopAt:V→List V→Hp→VK→Prop:=fun x vs H Q=>∃ l xs i k y,x=.ref l∧vs=[.int i]∧H l=some (.lst xs)∧-(2 ^ 63)≤i∧i<2 ^ 63∧seqIndex? i xs.length=some k∧xs[k]?=some y∧Q y (upd H l (.lst (xs.eraseIdx k)))
theorem mt_popAt:MtM X "list.pop" rPopAt:=by
 intro pins s σ H x vs v us Q I rx rv h
 obtain ⟨l,xs,i,k,y,rfl,rfl,hH,h1,h2,hk,hy,q⟩:=h
 cases rx
 obtain ⟨u,rfl,ru⟩:=rv.one
 obtain ⟨t,rfl⟩:=ru
 obtain ⟨z,its,n,r,hl,e⟩:=I.lstM hH
 obtain ⟨w,hw,rw'⟩:=r.get hy
 refine call_meets F.slot_list_pop ⟨_,e,rfl⟩ F.entry_list_pop (F.args_list_pop_2 _ _)
  (MeetsSeq.list_pop_at l its.toArray n i t k w (fitsIndex_both h1 h2) (by rw [List.size_toArray,← hl]; exact hk) (by rw [← Array.getElem?_toList]; exact hw) (by rw [List.size_toArray]; omega)) ⟨e,?_⟩
 refine ⟨y,_,I.lset (its':=its.eraseIdx k) hH e ?_ (r.eraseIdx k) ?_,rw',q⟩
 ·show its.toArray.eraseIdxIfInBounds k=(its.eraseIdx k).toArray
  rw [List.eraseIdxIfInBounds_toArray]
 ·have:=len_erase xs k
  omega
def rReverse:V→List V→Hp→VK→Prop:=fun x vs H Q=>∃ l xs,x=.ref l∧vs=[]∧H l=some (.lst xs)∧Q .non (upd H l (.lst xs.reverse))
theorem mt_reverse:MtM X "list.reverse" rReverse:=by
 intro pins s σ H x vs v us Q I rx rv h
 obtain ⟨l,xs,rfl,rfl,hH,q⟩:=h
 cases rx
 have hus:=rv.zero
 subst hus
 obtain ⟨z,its,n,r,hl,e⟩:=I.lstM hH
 refine call_meets F.slot_list_reverse ⟨_,e,rfl⟩ F.entry_list_reverse (F.args_list_reverse_1 _) (AutoSeq1.list_reverse_list_0 l its.toArray n (by rw [List.size_toArray]; omega)) ⟨e,?_⟩
 refine ⟨.non,_,I.lset (its':=its.reverse) hH e (by simp) r.reverse ?_,rfl,q⟩
 rw [List.length_reverse]
 omega
def rCat:R2:=fun x y H Q=>∃ l b xs zs,x=.ref l∧y=.ref b∧H l=some (.lst xs)∧H b=some (.lst zs)∧xs.length+zs.length≤sizeLine∧∀ p,H p=none→Q (.ref p) (upd H p (.lst (xs++zs)))
theorem op_cat:OpR X (binaryOp .Add) rCat:=by
 intro pins s σ H x y v u Q I rx ry h
 obtain ⟨l,b,xs,zs,rfl,rfl,hH,hB,hz,q⟩:=h
 cases rx
 cases ry
 obtain ⟨z,its,n,r,hl,e⟩:=I.lstM hH
 obtain ⟨z2,its2,n2,r2,hl2,e2⟩:=I.lstM hB
 refine PySem.P.add_list e e2 ?_ (by rw [List.size_toArray,List.size_toArray]; omega)
 have ea:its.toArray++its2.toArray=(its++its2).toArray:=by simp
 rw [ea]
 exact ⟨.ref _,_,I.lnew (t':=s.toks) (r.append r2) (by rw [List.length_append]; omega),rfl,q _ I.fresh⟩
def rRep:R2:=fun x y H Q=>∃ l k xs,x=.ref l∧y=.int k∧H l=some (.lst xs)∧-(2 ^ 63)≤k∧k<2 ^ 63∧xs.length * k.toNat≤sizeLine ∧
 ∀ p,H p=none→Q (.ref p) (upd H p (.lst (List.replicate k.toNat xs).flatten))
theorem len_rep {α : Type} (xs:List α) (k:Nat) : (List.replicate k xs).flatten.length=k * xs.length:=by
 induction k with
 | zero=>simp
 | succ k ih=>rw [List.replicate_succ,List.flatten_cons,List.length_append,ih,Nat.succ_mul,Nat.add_comm]
theorem op_rep:OpR X (binaryOp .Mult) rRep:=by
 intro pins s σ H x y v u Q I rx ry h
 obtain ⟨l,k,xs,rfl,rfl,hH,h1,h2,hz,q⟩:=h
 cases rx
 obtain ⟨t,rfl⟩:=ry
 obtain ⟨z,its,n,r,hl,e⟩:=I.lstM hH
 have hlen:its.toArray.size * k.toNat≤sizeLine:=by rw [List.size_toArray,← hl]; exact hz
 have hcap : ¬ its.toArray.size * k.toNat > (2 ^ 63 - 1) / 8:=by
  have:(sizeLine:Nat)≤(2 ^ 63 - 1) / 8:=by decide
  omega
 have hfit : ¬ (!Builtin.List.listFitsIndex k)=true:=by
  rw [fitsIndex_both h1 h2]
  exact Bool.false_ne_true
 have hlong : ¬ Builtin.List.listTooLong (its.toArray.size * k.toNat)=true:=by
  rw [notLongL hlen]
  exact Bool.false_ne_true
 have hnew:List.foldl (fun x1 x2=>x1++x2) #[] (List.replicate (if its.toArray.isEmpty=true then 0 else k.toNat) its.toArray)=(List.replicate k.toNat its).flatten.toArray:=by
  have f0 : ∀ m:Nat,List.foldl (fun x1 x2=>x1++x2) #[] (List.replicate m its.toArray)=(List.replicate m its).flatten.toArray:=fun m=>by
   have:=foldl_rep its m []
   rw [List.nil_append] at this
   exact this
  rw [f0]
  cases its with
  | nil=>simp
  | cons a r'=>rw [if_neg (by simp)]
 refine wpAny_binaryOp_repeat_ref (T := "list") (U := "int") (by decide) ⟨_,e,rfl⟩ (fun s'=>typeIs_int s' k t) noFill_list_mul F.fills_int_mul F.slot_int_rmul repeat_list F.slot_int_index.lookup
  (call_meets F.slot_int_rmul (typeIs_int s k t) F.entry_int_rmul (F.args_int_rmul_2 _ _) (int___rmul___int_list k t l its.toArray n)
   ⟨e,rfl,⟨_,e,rfl⟩,call_meets F.slot_list_mul ⟨_,e,rfl⟩ F.entry_list_mul (F.args_list_mul_2 _ _) (AutoListH.list___mul___list_int_3 l its.toArray n k t hfit hcap hlong) ⟨e,?_⟩⟩)
 rw [hnew]
 exact ⟨.ref _,_,I.lnew (t':=s.toks) (r.rep k.toNat) (by rw [len_rep,Nat.mul_comm]; exact hz),rfl,q _ I.fresh⟩
end
end L2
namespace L2
open PySem PySem.Spec PyProof.Rows
section
variable {κ : Type} [DecidableEq κ]
def valV (kvs:List (κ × V)) (k : κ) : Option V:=(kvs.find? fun kv=>decide (kv.1=k)).map (·.2)
def putK (kvs:List (κ × V)) (k : κ) (v:V) : List (κ × V) :=
 if (kvs.any fun kv=>decide (kv.1=k))=true then kvs.map (fun kv=>if kv.1=k then (kv.1,v) else kv) else kvs++[(k,v)]
theorem valV_pos {p : κ × V} {r:List (κ × V)} {k : κ} (e:p.1=k) : valV (p :: r) k=some p.2:=by simp [valV,List.find?_cons,e]
theorem valV_neg {p : κ × V} {r:List (κ × V)} {k : κ} (e : ¬ p.1=k) : valV (p :: r) k=valV r k:=by simp [valV,List.find?_cons,e]
theorem valV_any (k : κ) : ∀ kvs:List (κ × V),(kvs.any fun kv=>decide (kv.1=k))=(valV kvs k).isSome
 | []=>rfl
 | p :: r=>by
  rw [List.any_cons]
  by_cases e:p.1=k
  ·simp only [valV_pos e,decide_eq_true e,Bool.true_or,Option.isSome_some]
  ·rw [valV_neg e,decide_eq_false e,Bool.false_or]; exact valV_any k r
theorem length_putK (kvs:List (κ × V)) (k : κ) (v:V) : (putK kvs k v).length≤kvs.length+1:=by
 unfold putK
 split
 ·rw [List.length_map]; omega
 ·rw [List.length_append,List.length_cons,List.length_nil]; omega
theorem RelO.isSome_eq {o:Option V} {u:Option Value} (r:RelO o u) : o.isSome=u.isSome:=by
 cases o with
 | none=>cases u with
  | none=>rfl
  | some _=>exact (show False from r).elim
 | some _=>cases u with
  | none=>exact (show False from r).elim
  | some _=>rfl
theorem KV.val {kvs:List (κ × V)} {vs:List (κ × Value)} (r:KV kvs vs) (k : κ) : RelO (valV kvs k) (valueAt vs k):=by
 unfold KV at r
 induction r with
 | nil=>exact True.intro
 | @cons p q ps qs h t ih =>
  obtain ⟨h1,h2⟩:=h
  by_cases e:p.1=k
  ·have e':q.1=k:=h1.symm.trans e
   have b:valueAt (q :: qs) k=some q.2:=by simp [valueAt,List.find?_cons,e']
   rw [valV_pos e,b]; exact h2
  ·have e' : ¬ q.1=k:=fun z=>e (h1.trans z)
   have b:valueAt (q :: qs) k=valueAt qs k:=by simp [valueAt,List.find?_cons,e']
   rw [valV_neg e,b]; exact ih
theorem KV.any {kvs:List (κ × V)} {vs:List (κ × Value)} (r:KV kvs vs) (k : κ) : (kvs.any fun kv=>decide (kv.1=k))=vs.any fun kv=>decide (kv.1=k):=by
 unfold KV at r
 induction r with
 | nil=>rfl
 | cons h t ih=>rw [List.any_cons,List.any_cons,ih,h.1]
theorem KV.repl {kvs:List (κ × V)} {vs:List (κ × Value)} (r:KV kvs vs) (k : κ) {y:V} {u:Value} (ry:RelV y u) :
  KV (kvs.map fun kv=>if kv.1=k then (kv.1,y) else kv) (vs.map fun kv=>if kv.1=k then (kv.1,u) else kv):=by
 unfold KV at r ⊢
 induction r with
 | nil=>exact .nil
 | @cons p q ps qs h t ih =>
  rw [List.map_cons,List.map_cons]
  refine .cons ?_ ih
  obtain ⟨h1,h2⟩:=h
  by_cases e:p.1=k
  ·rw [if_pos e,if_pos (h1.symm.trans e)]; exact ⟨h1,ry⟩
  ·rw [if_neg e,if_neg (fun z=>e (h1.trans z))]; exact ⟨h1,h2⟩
theorem KV.put {kvs:List (κ × V)} {vs:List (κ × Value)} (r:KV kvs vs) (k : κ) {y:V} {u:Value} (ry:RelV y u) : KV (putK kvs k y) (stored vs k u):=by
 unfold putK stored
 rw [r.any k]
 by_cases e:(vs.any fun kv=>decide (kv.1=k))=true
 ·rw [if_pos e,if_pos e]; exact r.repl k ry
 ·rw [if_neg e,if_neg e]; exact Paired.snoc r ⟨rfl,ry⟩
theorem KV.length {kvs:List (κ × V)} {vs:List (κ × Value)} (r:KV kvs vs) : kvs.length=vs.length:=Paired.length r
end
theorem kV_is {P:Program} {w:World} {k:Key} {u:Value} (r:RelV (kV k) u) : (mixKind P w).is k u=true:=by
 cases k with
 | inl i=>obtain ⟨t,e⟩:=(show ∃ t,u=Value.int i t from r); subst e; exact mixKind_int P w i t
 | inr x=>obtain ⟨t,e⟩:=(show ∃ t,u=Value.str x t from r); subst e; exact mixKind_str P w x t
theorem items_are {P:Program} {w:World} : ∀ {ks:List Key} {us:List Value},Vals (ks.map kV) us→ItemsAre (mixKind P w) ks us
 | [],_,r=>by rw [List.map_nil] at r; cases r; exact .nil
 | k :: ks,_,r=>by
  rw [List.map_cons] at r
  cases r with
  | cons h t=>exact .cons (kV_is h) (items_are t)
abbrev KT (H:Hp) : List (List Key × V)→List (List Key × Addr × Value)→Prop:=Paired fun p q=>p.1=q.1∧H q.2.1=some (.tup (p.1.map kV))∧RelV p.2 q.2.2
theorem KT.val {H:Hp} {kvs:List (List Key × V)} {xs:List (List Key × Addr × Value)} (r:KT H kvs xs) (k:List Key) : RelO (valV kvs k) ((atKey xs k).map (·.2)):=by
 induction r with
 | nil=>exact True.intro
 | @cons p q ps qs h t ih =>
  obtain ⟨h1,_,h2⟩:=h
  by_cases e:p.1=k
  ·have e':q.1=k:=h1.symm.trans e
   have b:atKey (q :: qs) k=some q.2:=by simp [atKey,List.find?_cons,e']
   rw [valV_pos e,b]; exact h2
  ·have e' : ¬ q.1=k:=fun z=>e (h1.trans z)
   have b:atKey (q :: qs) k=atKey qs k:=by simp [atKey,List.find?_cons,e']
   rw [valV_neg e,b]; exact ih
theorem KT.repl {H:Hp} {kvs:List (List Key × V)} {xs:List (List Key × Addr × Value)} (r:KT H kvs xs) (k:List Key) {y:V} {u:Value} (ry:RelV y u) :
  KT H (kvs.map fun kv=>if kv.1=k then (kv.1,y) else kv) (xs.map (putAt k u)):=by
 induction r with
 | nil=>exact .nil
 | @cons p q ps qs h t ih =>
  rw [List.map_cons,List.map_cons]
  refine .cons ?_ ih
  obtain ⟨h1,h2,h3⟩:=h
  unfold putAt
  by_cases e:p.1=k
  ·rw [if_pos e,if_pos (h1.symm.trans e)]; exact ⟨h1,h2,ry⟩
  ·rw [if_neg e,if_neg (fun z=>e (h1.trans z))]; exact ⟨h1,h2,h3⟩
theorem KT.put {H:Hp} {kvs:List (List Key × V)} {xs:List (List Key × Addr × Value)} (r:KT H kvs xs) (k:List Key) {b:Addr} {y:V} {u:Value} (hb:H b=some (.tup (k.map kV))) (ry:RelV y u) :
  KT H (putK kvs k y) (storedH xs k b u):=by
 have e:(kvs.any fun kv=>decide (kv.1=k))=(atKey xs k).isSome:=by
  rw [valV_any,(r.val k).isSome_eq,Option.isSome_map]
 unfold putK storedH
 rw [e]
 by_cases q:(atKey xs k).isSome=true
 ·rw [if_pos q,if_pos q]; exact r.repl k ry
 ·rw [if_neg q,if_neg q]; exact Paired.snoc r ⟨rfl,hb,ry⟩
theorem KT.keeps {H H':Hp} {kvs:List (List Key × V)} {xs:List (List Key × Addr × Value)} (r:KT H kvs xs) (ht : ∀ b ys,H b=some (.tup ys)→H' b=some (.tup ys)) : KT H' kvs xs :=
 Paired.mapP r fun _ _ z=>⟨z.1,ht _ _ z.2.1,z.2.2⟩
section
variable {P:Program} {w:World} {H:Hp} {h:Heap} {a:Addr}
theorem rd_of {u:HO} (ok:HOk P w H h) (e:Rd H a u) : ObjOk P w H h a u:=e.ok ok
theorem dk_rd {kvs:List (Key × V)} (ok:HOk P w H h) (e:Rd H a (.dK kvs)) : kvs.length≤sizeLine∧(a == sysModules)=false∧∃ vs,KV kvs vs∧h.DictOf (mixKind P w) a vs :=
 show ObjOk P w H h a (.dK kvs) from rd_of ok e
theorem dk_of {kvs:List (Key × V)} (ok:HOk P w H h) (e:H a=some (.dK kvs)) : kvs.length≤sizeLine∧(a == sysModules)=false∧∃ vs,KV kvs vs∧h.DictOf (mixKind P w) a vs:=dk_rd ok (.inl e)
theorem key_of {ks:List Key} (ok:HOk P w H h) (e:H a=some (.tup (ks.map kV))) : (tupleKind (mixKind P w)).is h ks a:=by
 obtain ⟨_,its,r,o,h1,h2,n,h3⟩:=(show ObjOk P w H h a (.tup (ks.map kV)) from ok a _ e)
 exact ⟨o,its.toArray,n,h1,h2,h3,by simpa using items_are r⟩
theorem dt_rd {kvs:List (List Key × V)} (ok:HOk P w H h) (e:Rd H a (.dT kvs)) : kvs.length≤sizeLine∧(a == sysModules)=false ∧
  ∃ xs,KT H kvs xs∧h.DictOfH (tupleKind (mixKind P w)) a xs:=by
 obtain ⟨z,y,xs,r,o,es,ep,h1,h2,h3,h4,h5⟩:=(show ObjOk P w H h a (.dT kvs) from rd_of ok e)
 refine ⟨z,y,xs,r,o,es,ep,h1,h2,h3,h4,fun x hx=>?_,h5⟩
 have all : ∀ {l:List (List Key × V)} {m:List (List Key × Addr × Value)},KT H l m→∀ x∈m,(tupleKind (mixKind P w)).is h x.1 x.2.1:=by
  intro l m q
  induction q with
  | nil=>intro x hx; exact nomatch hx
  | @cons p q ps qs hq t ih =>
   intro x hx
   rcases List.mem_cons.mp hx with e | hx
   ·subst e
    exact key_of ok (by rw [← hq.1]; exact hq.2.1)
   ·exact ih x hx
 exact all r x hx
theorem dt_of {kvs:List (List Key × V)} (ok:HOk P w H h) (e:H a=some (.dT kvs)) : kvs.length≤sizeLine∧(a == sysModules)=false ∧
  ∃ xs,KT H kvs xs∧h.DictOfH (tupleKind (mixKind P w)) a xs:=dt_rd ok (.inl e)
end
def DGet (H:Hp) (a:Addr) (y:V) (r:Option V) : Prop :=
 (∃ kvs k,Rd H a (.dK kvs)∧y=kV k∧r=valV kvs k)∨∃ kvs k b,Rd H a (.dT kvs)∧y=.ref b∧H b=some (.tup (k.map kV))∧r=valV kvs k
def DPut (H:Hp) (a:Addr) (y v:V) (H':Hp) : Prop :=
 (∃ kvs k,H a=some (.dK kvs)∧y=kV k∧kvs.length<sizeLine∧H'=upd H a (.dK (putK kvs k v))) ∨
 ∃ kvs k b,H a=some (.dT kvs)∧y=.ref b∧H b=some (.tup (k.map kV))∧kvs.length<sizeLine∧H'=upd H a (.dT (putK kvs k v))
theorem DGet.k {H:Hp} {a:Addr} {kvs:List (Key × V)} {k:Key} (e:H a=some (.dK kvs)) : DGet H a (kV k) (valV kvs k):=.inl ⟨kvs,k,.inl e,rfl,rfl⟩
theorem DPut.k {H:Hp} {a:Addr} {kvs:List (Key × V)} {k:Key} {v:V} (e:H a=some (.dK kvs)) (hl:kvs.length<sizeLine) : DPut H a (kV k) v (upd H a (.dK (putK kvs k v))):=.inl ⟨kvs,k,e,rfl,hl,rfl⟩
section
variable {X:Cx} {pins:List (Addr × Obj)} {σ : St} {H:Hp} {s:Shared} {a:Addr} {y v:V} {u r:Value} {o:Option V} {A:Around} {E:Value→Shared→Prop}
theorem Inv.big (I:Inv X pins σ H s) : sysModules<s.heap.objs.size:=by
 have h:mainGlobals<s.heap.objs.size:=(I.mod.glob.keeps I.bk).lt
 exact Nat.lt_trans (by decide) h
theorem d_getItem {Q:Value→Shared→Prop} (hu:A.units+1<cLine) (I:Inv X pins σ H s) (g:DGet H a y (some v)) (ry:RelV y u) (h : ∀ w' s',Inv X pins σ H s'→RelV v w'→Q w' s') :
  wpAny (model X.prog X.w) A (getItem (.ref a) u) Q E s:=by
 rcases g with ⟨kvs,k,e,ey,l⟩ | ⟨kvs,k,b,e,ey,eb,l⟩
 ·subst ey
  obtain ⟨z,hd,vs,rel,dd⟩:=dk_rd I.hok e
  obtain ⟨w',hw,rw'⟩:=RelO.some_of (v:=v) (o:=valueAt vs k) (by rw [l]; exact rel.val k)
  exact wpAny_getItem_of (kV_is ry) dd.mapOf hw (h w' _ (I.tok _) rw')
 ·subst ey
  cases (show u=Value.ref b from ry)
  obtain ⟨z,hd,xs,rel,dd⟩:=dt_rd I.hok e
  obtain ⟨w',hw,rw'⟩:=RelO.some_of (v:=v) (o:=(atKey xs k).map (·.2)) (by rw [l]; exact rel.val k)
  obtain ⟨p,hp,hp2⟩:=Option.map_eq_some_iff.mp hw
  refine wpAny_getItem_heap (tupleKind_room_in1 hu) (key_of I.hok eb) dd hp ?_
  rw [hp2]
  exact h w' _ (I.tok _) rw'
theorem d_write {h':Heap} {t':Nat} {ob:HO} (I:Inv X pins σ H s) (mu:Mut (H a)) (hs:Heap.SameBut a s.heap h') (he : ∃ q,h'.get? a=some q) (new:ObjOk X.prog X.w (upd H a ob) h' a ob) :
  Inv X pins σ (upd H a ob) { s with heap:=h',toks:=t' } :=
 I.write (x:=a) (e:=a) mu (.inl rfl) (fun b q hb z=>(hs.2 b hb).trans z) he new
theorem dk_new {P:Program} {w:World} {H':Hp} {h':Heap} {kvs:List (Key × V)} {vs:List (Key × Value)} (z:kvs.length≤sizeLine) (hd:(a == sysModules)=false) (rel:KV kvs vs) (dd:h'.DictOf (mixKind P w) a vs) :
  ObjOk P w H' h' a (.dK kvs):=⟨z,hd,vs,rel,dd⟩
theorem d_setItem {H':Hp} {Q:Unit→Shared→Prop} (hu:A.units+1<cLine) (I:Inv X pins σ H s) (g:DPut H a y v H') (ry:RelV y u) (rv:RelV v r) (h : ∀ s',Inv X pins σ H' s'→Q () s') :
  wpAny (model X.prog X.w) A (setItem (.ref a) u r) Q E s:=by
 rcases g with ⟨kvs,k,e,ey,l,eH⟩ | ⟨kvs,k,b,e,ey,eb,l,eH⟩
 ·subst ey eH
  obtain ⟨z,hd,vs,rel,dd⟩:=dk_of I.hok e
  have hz:vs.length≤sizeLine:=by rw [← rel.length]; exact z
  have hl:(putK kvs k v).length≤sizeLine:=by have:=length_putK kvs k v; omega
  refine wpAny_setItem_pairs (hsz:=hz) (kV_is ry) dd fun h' dd' hs=>h _ ?_
  have he : ∃ q,h'.get? a=some q:=let ⟨q,_,_,hq,_⟩:=dd'; ⟨q,hq⟩
  exact d_write I (by rw [e]; exact True.intro) hs he (dk_new hl hd (rel.put k rv) dd')
 ·subst ey eH
  cases (show u=Value.ref b from ry)
  obtain ⟨z,hd,xs,rel,dd⟩:=dt_of I.hok e
  have hz:xs.length≤sizeLine:=by rw [← Paired.length rel]; exact z
  have hl:(putK kvs k v).length≤sizeLine:=by have:=length_putK kvs k v; omega
  refine wpAny_setItem_heap (hsz:=hz) (tupleKind_room_in1 hu) (key_of I.hok eb) dd fun h' dd' hs=>h _ ?_
  obtain ⟨q,es,ep,hq,h2,h3,h4,_,h5⟩:=dd'
  refine d_write I (by rw [e]; exact True.intro) hs ⟨q,hq⟩ ⟨hl,hd,_,(rel.put k eb rv).keeps fun c ys ec=>?_,q,es,ep,hq,h2,h3,h4,h5⟩
  rw [upd_ne (ne_of ec e (fun z=>nomatch z))]
  exact ec
end
def NoSl (i:Expr) : Prop:=∀ ov iv,subscripted i false ov iv=operate [ov,iv] (getItem ov iv)
theorem subD_of {prog:Program} {w:World} {A:Around} {E:Value→Shared→Prop} {s:Shared} {env:Env} {value slice:Expr} {pos:Pos} {T id:String} {Q:Value→Shared→Prop}
  (hl:typeLookup (.type T) "__getitem__" = pure (some (.builtin id))) (hs:NoSl slice)
  (h:wpAny (model prog w) A (eval value env) (fun o s₁=>wpAny (model prog w) A (eval slice env) (fun i s₂=>s₂.TypeIs o T∧wpAny (model prog w) A (getItem o i) Q E s₂) E s₁) E s) :
  wpAny (model prog w) A (eval (.Subscript value slice pos) env) Q E s:=by
 refine Subscript_ (wpAny_mono h (fun o s₁ h₁=>wpAny_mono h₁ (fun i s₂ h₂=>?_) fun _ _ x=>x) fun _ _ x=>x)
 obtain ⟨hT,h₂⟩:=h₂
 unfold subscriptTail
 refine wpAny_bind ?_
 rw [getitemInPython_of_ne hT.not_modules]
 refine wpAny_bind (wpAny_specialOf hT hl ?_)
 have fin:wpAny (model prog w) A (subscripted slice false o i) (fun r s₃=>wpAny (model prog w) A (letTemporaryGo value o r >>= fun _=>pure r) Q E s₃) E s₂:=by
  rw [hs o i]
  exact wpAny_operating (wpAny_mono h₂ (fun r s₃ h₃=>wpAny_bind (wpAny_letTemporaryGo (wpAny_pure h₃))) fun _ _ x=>x)
 first
  | exact wpAny_pure (wpAny_bind fin)
  | exact wpAny_bind (wpAny_pure (wpAny_bind fin))
  | exact wpAny_bind fin
theorem dict_typeIs {X:Cx} {pins:List (Addr × Obj)} {σ : St} {H:Hp} {s:Shared} {a:Addr} {y:V} {o:Option V} (I:Inv X pins σ H s) (g:DGet H a y o) : s.TypeIs (.ref a) "dict" := by
 rcases g with ⟨kvs,k,e,_,_⟩ | ⟨kvs,k,b,e,_,_,_⟩
 ·obtain ⟨_,_,vs,_,dd⟩:=dk_rd I.hok e
  exact dd.typeIs
 ·obtain ⟨_,_,xs,_,dd⟩:=dt_rd I.hok e
  exact dd.typeIs
def tDGet (td ty:TE) : TE:=fun σ H Q=>td σ H fun x H1=>ty σ H1 fun y H2=>∃ a v,x=.ref a∧DGet H2 a y (some v)∧Q v H2
def sDPut (td ty tv:TE) : TS:=fun D σ H=>tv σ H fun v H1=>td σ H1 fun x H2=>ty σ H2 fun y H3=>∃ a H4,x=.ref a∧DPut H3 a y v H4∧D.nx σ H4
section
variable {X:Cx} {o i e value:Expr} {pos pos' tpos:Pos} {td ty tv:TE}
theorem pe_dget (hu:X.A.units+1<cLine) (ho:PE X o td) (hi:PE X i ty) (hs:NoSl i) : PE X (.Subscript o i pos) (tDGet td ty):=by
 intro pins s σ H Q I h
 refine subD_of PySem.F.slot_dict_getitem.lookup hs (thn (ho pins s σ H _ I h) fun u s1 ⟨x,H1,I1,rx,q1⟩=>thn (hi pins s1 σ H1 _ I1 q1) fun iv s2 ⟨y,H2,I2,ry,a,v,ex,g,q2⟩=>?_)
 subst ex
 obtain rfl:u=Value.ref a:=rx
 exact ⟨dict_typeIs I2 g,d_getItem hu I2 g ry fun w' s3 I3 rw'=>⟨v,H2,I3,rw',q2⟩⟩
theorem ps_dput (hu:X.A.units+1<cLine) (ho:PE X o td) (hi:PE X i ty) (hv:PE X value tv) (hs:swapsWith value (some (.Subscript o i pos')) pos.line X.env=pure false) :
  PS X (.Assign [.Subscript o i pos'] value pos) (sDPut td ty tv):=by
 intro pins s σ H D I h
 refine wpAny_Assign_Subscript (thn (hv pins s σ H _ I h) fun r s1 ⟨v,H1,I1,rv,q1⟩=>thn (ho pins s1 σ H1 _ I1 q1) fun u s2 ⟨x,H2,I2,rx,q2⟩=>thn (hi pins s2 σ H2 _ I2 q2) fun iv s3 ⟨y,H3,I3,ry,a,H4,ex,g,q3⟩=>?_) hs
 subst ex
 obtain rfl:u=Value.ref a:=rx
 exact d_setItem hu I3 g ry rv fun s4 I4=>⟨σ,H4,I4,q3⟩
end
theorem dk_empty {P:Program} {w:World} {H:Hp} (h:Heap) (hb:sysModules<h.objs.size) : ObjOk P w H (h.push { cls:=.type "dict", data:=.dict #[] }) h.objs.size (.dK []) :=
 ⟨Nat.zero_le _,beq_eq_false_iff_ne.mpr (Ne.symm (Nat.ne_of_lt hb)),[],.nil,Heap.DictOf.new h⟩
def tPairs:List (TE × TE)→St→Hp→(List (V × V)→Hp→Prop)→Prop
 | [],_,H,Q=>Q [] H
 | (tk,tv) :: r,σ,H,Q=>tk σ H fun x H1=>tv σ H1 fun y H2=>tPairs r σ H2 fun ps H3=>Q ((x,y) :: ps) H3
abbrev VV:List (V × V)→List (Value × Value)→Prop:=Paired fun p q=>RelV p.1 q.1∧RelV p.2 q.2
def PPs (X:Cx) (pos:Pos) (keys:List (Option Expr)) (values:List Expr) (trs:List (TE × TE)) : Prop :=
 ∀ (pins:List (Addr × Obj)) (s:Shared) (σ : St) (H:Hp) (Q:List (V × V)→Hp→Prop),Inv X pins σ H s→tPairs trs σ H Q →
  wpAny (model X.prog X.w) X.A (evalPairs (pairTrees keys values X.env pos)) (fun vs s'=>∃ ps H',Inv X pins σ H' s'∧VV ps vs∧Q ps H') X.xe s
theorem pps_nil {X:Cx} {pos:Pos} : PPs X pos [] [] []:=fun pins s σ H Q I h=>pairTrees_nil_walk ⟨[],H,I,.nil,h⟩
theorem pps_cons {X:Cx} {pos:Pos} {k v:Expr} {ks:List (Option Expr)} {vs:List Expr} {tk tv:TE} {trs:List (TE × TE)} (hk:PE X k tk) (hv:PE X v tv) (hr:PPs X pos ks vs trs) :
  PPs X pos (some k :: ks) (v :: vs) ((tk,tv) :: trs):=fun pins s σ H Q I h =>
 pairTrees_cons_walk (thn (hk pins s σ H _ I h) fun u s1 ⟨x,H1,I1,rx,q1⟩=>thn (hv pins s1 σ H1 _ I1 q1) fun w2 s2 ⟨y,H2,I2,ry,q2⟩ =>
  thn (hr pins s2 σ H2 _ I2 q2) fun ws s3 ⟨ps,H3,I3,rel,q3⟩=>⟨(x,y) :: ps,H3,I3,.cons ⟨rx,ry⟩ rel,q3⟩)
def mergeK (kvs more:List (Key × V)) : List (Key × V):=more.foldl (fun acc kv=>putK acc kv.1 kv.2) kvs
theorem KV.merge : ∀ {more:List (Key × V)} {rs:List (Key × Value)} {kvs:List (Key × V)} {vs:List (Key × Value)},KV more rs→KV kvs vs→KV (mergeK kvs more) (merged vs rs):=by
 intro more rs kvs vs r
 unfold KV at r
 induction r generalizing kvs vs with
 | nil=>intro q; exact q
 | @cons p q ps qs h t ih =>
  intro r0
  have e:KV (putK kvs p.1 p.2) (stored vs q.1 q.2):=by
   have:=r0.put p.1 h.2
   rw [← h.1]; exact this
  exact ih e
theorem length_mergeK : ∀ (more kvs:List (Key × V)),(mergeK kvs more).length≤kvs.length+more.length
 | [],kvs=>by show kvs.length≤kvs.length+0; omega
 | p :: r,kvs=>by
  have h1:=length_mergeK r (putK kvs p.1 p.2)
  have h2:=length_putK kvs p.1 p.2
  show (mergeK (putK kvs p.1 p.2) r).length≤_
  rw [List.length_cons]; omega
theorem carries_of {P:Program} {w:World} : ∀ {kvs:List (Key × V)} {ws:List (Value × Value)},VV (kvs.map fun kv=>(kV kv.1,kv.2)) ws→∃ rs,Carries (mixKind P w) ws rs∧KV kvs rs
 | [],_,r=>by rw [List.map_nil] at r; cases r; exact ⟨[],True.intro,.nil⟩
 | p :: kvs,_,r=>by
  rw [List.map_cons] at r
  cases r with
  | @cons a b as bs h t =>
   obtain ⟨rs,c,q⟩:=carries_of (P:=P) (w:=w) t
   obtain ⟨b1,b2⟩:=b
   exact ⟨(p.1,b2) :: rs,⟨kV_is h.1,rfl,c⟩,.cons ⟨rfl,h.2⟩ q⟩
def tDisp (trs:List (TE × TE)) : TE:=fun σ H Q=>∀ p,H p=none→tPairs trs σ (upd H p (.dK [])) fun ps H2=>H2 p=some (.dK [])∧∃ kvs:List (Key × V),ps=kvs.map (fun kv=>(kV kv.1,kv.2))∧kvs.length≤15∧Q (.ref p) (upd H2 p (.dK (mergeK [] kvs)))
theorem pe_disp {X:Cx} {pos:Pos} {keys:List (Option Expr)} {values:List Expr} {trs:List (TE × TE)} (h:PPs X pos keys values trs) (hall:keys.all (·.isSome)=true) (hl:keys.length=values.length) (h0:keys≠[])
  (h15:keys.length≤15) : PE X (.Dict keys values pos) (tDisp trs):=by
 intro pins s σ H Q I q
 have hn:=I.hok.fresh (Nat.le_refl s.heap.objs.size)
 have I1:=I.laid (a:=s.heap.objs.size) (o:=.dK []) (h':=s.heap.push { cls:=.type "dict", data:=.dict #[] }) (t':=s.toks) (fun _ _ q=>Heap.get?_push_of_some _ q) (Nat.le_refl _) (dk_empty s.heap I.big)
 refine wpAny_Dict_walk (knd:=mixKind X.prog X.w) hall hl h0 h15 (thn (h pins _ σ _ _ I1 (q _ hn)) fun ws s2 ⟨ps,H2,I2,rel,e,kvs,ep,lk,q2⟩=>?_)
 subst ep
 obtain ⟨rs,c,rk⟩:=carries_of (P:=X.prog) (w:=X.w) rel
 obtain ⟨z,hd,vs0,r0,dd⟩:=dk_of I2.hok e
 cases r0
 refine ⟨rs,c,dd,fun h' dd' hs=>⟨.ref s.heap.objs.size,_,?_,rfl,q2⟩⟩
 have hz:(mergeK [] kvs).length≤sizeLine:=by
  have h1:=length_mergeK kvs []
  rw [List.length_nil] at h1
  rw [sizeLine_eq]; omega
 have he : ∃ q,h'.get? s.heap.objs.size=some q:=let ⟨q,_,_,hq,_⟩:=dd'; ⟨q,hq⟩
 exact d_write I2 (by rw [e]; exact True.intro) hs he (dk_new hz hd (rk.merge .nil) dd')
structure M1 (X:Cx) (o:Expr) (m:Str) (apos:Pos) (e:Expr) (cpos:Pos) : Prop where
 base:attributeBase o m X.env (eval o X.env)=eval o X.env
 few:((backTo cpos (starEach [e] X.env)).all (fun x=>!x.1) && (backToKw cpos (keywordEach [] X.env)).all (fun x=>x.1.isSome)
  && decide (([e] : List Expr).length+([] : List Keyword).length+(if ([] : List Keyword).isEmpty then 0 else 1)<30))=true
 line:(apos.endLine == cpos.line)=true
 trees:backTo cpos (starEach [e] X.env)=[(false,eval e X.env)]
structure M2 (X:Cx) (o:Expr) (m:Str) (apos:Pos) (e f:Expr) (cpos:Pos) : Prop where
 base:attributeBase o m X.env (eval o X.env)=eval o X.env
 few:((backTo cpos (starEach [e,f] X.env)).all (fun x=>!x.1) && (backToKw cpos (keywordEach [] X.env)).all (fun x=>x.1.isSome)
  && decide (([e,f] : List Expr).length+([] : List Keyword).length+(if ([] : List Keyword).isEmpty then 0 else 1)<30))=true
 line:(apos.endLine == cpos.line)=true
 trees:backTo cpos (starEach [e,f] X.env)=[(false,eval e X.env),(false,eval f X.env)]
end L2
namespace Att
open PySem PySem.W PySem.Calls PyProof.Rows
theorem ints_of_wellAll {P:Params} {h:Heap} : ∀ (ns:List Int) (vs:List Value),WellAll P h vs (ns.map WData.int)→IntsAre vs ns:=by
 intro ns
 induction ns with
 | nil =>
  intro vs w
  rw [List.map_nil] at w
  cases w
  exact .nil
 | cons n ns ih =>
  intro vs w
  rw [List.map_cons] at w
  cases w with
  | cons a b =>
   cases a
   exact .cons _ _ (ih _ b)
theorem script_of {l:OpenLaw} {n:Nat} (hn:l.most=some n) {P:Params} {h:Heap} {args:List WData} {vals:List Value}
  (hpre:l.row.toRowW.claim.pre args=true) (hwl:WellAll P h vals args) :
  ∃ a vs ns,vals=[Value.ref a]∧args=[WData.list (ns.map WData.int)]∧h.get? a=some { cls:=.type "list", data:=.seq vs.toArray }∧IntsAre vs ns∧ns.length≤n:=by
 have hsh:WShape.hasAll [] args [.list .int]=true:=(pre_splitW hpre).1
 have hc:l.pre.holds [] { args:=args }=true:=(pre_splitW hpre).2
 obtain ⟨d,r,rfl,h1,h2⟩:=hasAllW_cons hsh
 obtain rfl:=hasAllW_nil h2
 obtain ⟨xs,rfl,h3⟩:=hasW_list h1
 obtain ⟨ns,rfl⟩:=items_int h3
 have hlen:ns.length≤n:=by
  unfold OpenLaw.pre at hc
  have h4:(WTm.not (.lt (.lit (.int (n:Int))) (.len (.arg 0)))).holds [] { args:=[.list (ns.map .int)] }=true:=by
   have h4:=(holds_andW hc).1
   rw [hn] at h4
   exact h4
  have h5:=condW_of h4 (w_not (w_lt w_lit (w_len_list (w_arg rfl))))
  rw [List.length_map] at h5
  refine Nat.le_of_not_lt fun q=>?_
  have q':(n:Int)<((ns.length:Nat) : Int):=by omega
  first
   | (rw [decide_eq_true q'] at h5; exact absurd h5 (by decide))
   | (simp at h5; omega)
 cases hwl with
 | cons w1 w2 =>
  cases w2
  cases w1 with
  | list ho hall=>exact ⟨_,_,ns,rfl,rfl,ho,ints_of_wellAll ns _ hall,hlen⟩
theorem post_true (l:OpenLaw) (args:List WData) : l.row.toRowW.claim.post args (.bool true) args=true :=
 postW_of (r:=l.row.toRowW) (X:=(true == true))
  (show WShape.has [] (.bool true) .bool=true by first | rfl | decide | simp [WShape.has,WShape.arms,WShape.armsAll])
  (show (WTm.eq .res (.lit (.bool true))).value [] { args:=args,res:=some (.bool true),after:=args }=some (.bool (true == true)) from w_eq_bool (w_res rfl) w_lit) rfl
theorem attach_call {l:OpenLaw} {n:Nat} {q:Program} {loose:List Str} {XP:(Str→Option Value)→Heap→Prop} {YP:World→Heap→Prop} {d:DefRec}
  (hn:l.most=some n) (hdf:d.params.defaults=[])
  (call : ∀ (w:World) (s₀ s₁ : Shared) (mg mb:Str→Option Value) (fa:Addr) (o:Obj) (pm cd doc:Value) (a:Addr) (vs:List Value) (ns:List Int),
   Ground q loose [] XP w s₀ mg mb s₁.heap→YP w s₁.heap →
   s₁.heap.get? fa=some o→o.data=.func (docDef d.name d.params d.body d.scope pm cd doc)→s₁.heap.CodeRec cd d.name→mg d.name=some (.ref fa) →
   s₁.heap.get? a=some { cls:=.type "list", data:=.seq vs.toArray }→IntsAre vs ns→ns.length≤n→s₁.gens=#[] →
   codeAny (model l.prog w) callerA (.call (.ref fa) ⟨[.ref a],[]⟩) (fun r s'=>r=.ok (.ret (.bool true))∧OldK s₁.heap s'.heap∧s'.os=s₁.os∧AllBare s'.gens) s₁) :
  WalkO q loose XP YP l.row.toRowW d [] (fun f vs=>PySem.call f vs):=by
 intro w s₀ s₁ mg mb G Y fa o pm cd doc dV kV ho hd hcd hD hmg hg args vals as hpre hlay hrd hwl hlo
 obtain rfl:dV=.none:=Dflts.none hD hdf
 obtain rfl:kV=.none:=Dflts.noKw hD
 obtain ⟨a,vs,ns,rfl,rfl,hobj,hints,hlen⟩:=script_of hn hpre hwl
 refine enter_call (codeAny_mono (call w s₀ s₁ mg mb fa o pm cd doc a vs ns G Y ho (fd_plain hd) hcd hmg hobj hints hlen hg) fun r s' hq=>?_)
 obtain ⟨rfl,h2,h3,h4⟩:=hq
 exact ⟨.inl ⟨.bool true,.bool true,[],rfl,fun _=>rfl,.bool true,post_true l _,fun _=>⟨List.Pairwise.nil,fun _ hm=>(nomatch hm)⟩⟩,h2,h3,h4⟩
section
variable {prog:Program} {w:World} {A:Around} {E:Value→Shared→Prop} {s:Shared} {K:Frag}
def ledger (h:Heap) (L d:Addr) : List (Addr × Obj):=(List.range h.objs.size).filterMap fun a=>if a=L∨a=d then none else (h.get? a).map fun o=>(a,o)
end
end Att
namespace L2
open PySem PySem.Spec PyProof.Rows
theorem vals_ints : ∀ {vs:List Value} {ns:List Int},IntsAre vs ns→Vals (ns.map V.int) vs
 | _,_,.nil=>.nil
 | _,_,.cons n t h=>.cons ⟨t,rfl⟩ (vals_ints h)
def Only (H:Hp) : Prop:=∀ b,H b=none∨∃ o xs,H b=some (.frz o (.lst xs))
theorem law_call {P:Program} {w:World} {K:PySem.W.Frag} {mg mb:Str→Option Value} {CX:CXT} {k:Nat} {fa a:Addr} {fd:FuncData} {x:Str} {sp:Sp} {s₁ : Shared} {vs:List Value} {ns:List Int}
  (KX:K.In s₁.heap) (hns:s₁.heap.Ns mainGlobals mg) (hb:s₁.heap.Ns builtinsNs mb) (hbb : ∀ x:Str,x ≠ "__name__" → mb x=bootBuiltins x) (hlim:s₁.heap.NoLimit) (hg:s₁.gens=#[])
  (ha:s₁.heap.get? a=some { cls:=.type "list", data:=.seq vs.toArray }) (hi:IntsAre vs ns) (hl:ns.length≤sizeLine) (hr:Room k callerA)
  (F : ∀ base:Heap,K.In base→base.Ns mainGlobals mg→FnOk P w K mg base CX k fa fd [x] sp) (hbind : ∀ (s:Shared) (u:Value),BindsTo s fd ⟨[u],[]⟩ [(x,u)])
  (hsp : ∀ H:Hp,Only H→SqL K H a (ns.map V.int)→sp [.ref a] H (fun v _=>v=.bl true) fun _ _ _=>False)
  (hCX : ∀ H e s',CX [] H s₁ (fun _ _ _=>False) e s'→False) :
  codeAny (model P w) callerA (.call (.ref fa) ⟨[.ref a],[]⟩) (fun r s'=>r=.ok (.ret (.bool true))∧OldK s₁.heap s'.heap∧s'.os=s₁.os∧AllBare s'.gens) s₁:=by
 have rv:=vals_ints hi
 have lenV:=hi.length
 -- from an abstract heap in which nothing but the script may be tracked
 have core : ∀ H:Hp,Only H→SqL K H a (ns.map V.int)→HOk P w H s₁.heap→(∀ b,H b≠none→b=a)→(H a≠none→K.lookup a=none) →
   codeAny (model P w) callerA (.call (.ref fa) ⟨[.ref a],[]⟩) (fun r s'=>r=.ok (.ret (.bool true))∧OldK s₁.heap s'.heap∧s'.os=s₁.os∧AllBare s'.gens) s₁:=by
  intro H hO hS hok hA hK
  have base_of : ∀ {b:Addr} {o:Obj},s₁.heap.get? b=some o→H b=none→(hidT s₁.heap H).get? b=some o:=fun e n=>hidT_get e n
  have noA : ∀ {b:Addr} {o:Obj} {es:Array DictEntry} {ep:Nat},s₁.heap.get? b=some o→o.data=.dict es ep→H b=none:=fun {b o es ep} e d=>by
   cases q:H b with
   | none=>rfl
   | some u =>
    have e':b=a:=hA b (by rw [q]; simp)
    subst e'
    rw [ha] at e; cases e
    have d':Data.seq vs.toArray _=Data.dict es ep:=d
    cases d'
  have nsK : ∀ {b:Addr} {m:Str→Option Value},s₁.heap.Ns b m→(hidT s₁.heap H).Ns b m:=fun {b m} ⟨o,es,ep,e,d,r⟩=>⟨o,es,ep,base_of e (noA e d),d,r⟩
  have hKb:K.In (hidT s₁.heap H):=fun b o e=>base_of (KX b o e) (by
   cases q:H b with
   | none=>rfl
   | some u =>
    have e':b=a:=hA b (by rw [q]; simp)
    subst e'
    rw [hK (by rw [q]; simp)] at e; cases e)
  have hM:Mod K mg (hidT s₁.heap H):=⟨hKb,nsK hns,⟨mb,nsK hb,hbb⟩,let ⟨mc,h1,h2⟩:=hlim; ⟨mc,nsK h1,h2⟩⟩
  have e0:Env0 P w K mg (hidT s₁.heap H) callerA [] s₁ H:=⟨rfl,hM,fun b o e=>of_hidT e,Nat.le_of_eq (hidT_size _ _),trivial,fun b hb=>absurd (show b∈([] : List Addr) from hb) (by simp),hok,.of_eq hg⟩
  refine codeAny_mono ((F _ hKb (nsK hns)).run callerA [] s₁ H ⟨[.ref a],[]⟩ [.ref a] [.ref a] _ _ hr e0 (hbind s₁ (.ref a)) (.cons rfl .nil) (hsp H hO hS)) fun r s' h=>?_
  cases r with
  | error e=>exact (hCX H e s' h).elim
  | ok fl =>
   cases fl with
   | next=>exact False.elim h
   | brk=>exact False.elim h
   | cont=>exact False.elim h
   | ret u =>
    obtain ⟨v,H',os,bare,un,hok',r',q⟩:=h
    have q':v=.bl true:=q
    subst q'
    obtain rfl:u=Value.bool true:=r'
    refine ⟨rfl,OldK.of_keep fun b o e=>?_,os,bare⟩
    cases q:H b with
    | none=>exact un.keep b o e q (by intro z; exact absurd (show b∈([] : List Addr) from z) (by simp)) (by simp)
    | some u =>
     rcases hO b with z | ⟨ob,xs,z⟩
     ·rw [q] at z; cases z
     ·have z2:=un.frzs b ob _ z
      obtain ⟨e1,_⟩:=hok b _ z
      obtain ⟨e2,_⟩:=hok' b _ z2
      rw [e] at e1; cases e1
      exact e2
 cases hk:K.lookup a with
 | some o =>
  -- the script is one of the module's own objects
  have e:=KX a o hk
  rw [ha] at e
  cases e
  refine core (fun _=>none) (fun _=>.inl rfl) (.inr ⟨_,vs.toArray,_,hk,rfl,rfl,rfl,by rw [List.size_toArray,lenV]; exact hl,by simpa using rv⟩) (fun b u z=>by have z':(none:Option HO)=some u:=z; cases z') (fun b z=>absurd rfl z) fun z=>absurd rfl z
 | none =>
  refine core (fun b=>if b=a then some (.frz { cls:=.type "list", data:=.seq vs.toArray } (.lst (ns.map V.int))) else none) (fun b=>?_) (.inl (.inr ⟨{ cls:=.type "list", data:=.seq vs.toArray },if_pos rfl⟩)) (fun b u z=>?_) (fun b z=>?_) fun _=>hk
  ·by_cases hb:b=a
   ·exact .inr ⟨_,_,if_pos hb⟩
   ·exact .inl (if_neg hb)
  ·by_cases hb:b=a
   ·have z':=(if_pos hb).symm.trans z
    cases z'
    subst hb
    exact ⟨ha,by rw [List.length_map]; exact hl,vs,_,rv,ha⟩
   ·have z':=(if_neg hb).symm.trans z
    cases z'
  ·by_cases hb:b=a
   ·exact hb
   ·exact absurd (if_neg hb) z
end L2
namespace L2
open PySem PySem.Spec PyProof.Rows
theorem walk_of {l:PySem.W.OpenLaw} {n k:Nat} {q:Program} {loose:List Str} {XP:(Str→Option Value)→Heap→Prop} {YP:World→Heap→Prop} {d:DefRec} {K:Params→PySem.W.Frag} {CX:World→CXT} {sp:World→Sp} {x:Str}
  (hn:l.most=some n) (hn2:n≤sizeLine) (hdf:d.params.defaults=[]) (hr:Room k callerA)
  (hY : ∀ (w:World) (h:Heap),YP w h→(K w.params).In h)
  (F : ∀ (w:World) (mg:Str→Option Value) (fa:Addr) (h:Heap),(K w.params).In h→h.Ns mainGlobals mg→mg d.name=some (.ref fa) →
   ∃ fd:FuncData,(∀ (s:Shared) (u:Value),BindsTo s fd ⟨[u],[]⟩ [(x,u)]) ∧
    ∀ base:Heap,(K w.params).In base→base.Ns mainGlobals mg→FnOk l.prog w (K w.params) mg base (CX w) k fa fd [x] (sp w))
  (hsp : ∀ (w:World) (H:Hp) (a:Addr) (ns:List Int),ns.length≤n→Only H→SqL (K w.params) H a (ns.map V.int)→sp w [.ref a] H (fun v _=>v=.bl true) fun _ _ _=>False)
  (hCX : ∀ (w:World) (H:Hp) (s:Shared) (e:Value) (s':Shared),CX w [] H s (fun _ _ _=>False) e s'→False) :
  PySem.W.WalkO q loose XP YP l.row.toRowW d [] (fun f vs=>PySem.call f vs):=by
 refine Att.attach_call hn hdf fun w s₀ s₁ mg mb fa o pm cd doc a vs ns G Y ho hd hcd hmg hobj hints hlen hg=>?_
 have KX:=hY w _ Y
 obtain ⟨fd,hb,hF⟩:=F w mg fa _ KX G.T.g hmg
 exact law_call KX G.T.g G.T.b G.T.builtins G.T.nolimit hg hobj hints (Nat.le_trans hlen hn2) hr hF hb (fun H hO hS=>hsp w H a ns hlen hO hS) fun H e s'=>hCX w H s₁ e s'
end L2
namespace L2
open PySem PySem.Spec PyProof.Rows
def defArgs (s:Stmt) : Arguments:=match s with
 | .FunctionDef _ a _ _ _ _ _ _ _ _=>a
 | _=>{ posonlyargs:=[],args:=[],vararg:=none,kwonlyargs:=[],kw_defaults:=[],kwarg:=none,defaults:=[] }
def defBody (s:Stmt) : List Stmt:=match s with
 | .FunctionDef _ _ b _ _ _ _ _ _ _=>b
 | _=>[]
def defScope (s:Stmt) : Scope:=match s with
 | .FunctionDef _ _ _ _ _ _ sc _ _ _=>sc
 | _=>{ kind:=.function,names:=[],isGenerator:=false,isCoroutine:=false }
abbrev CX0:CXT:=fun _ _ _ _ _ _=>False
abbrev E0:XK:=fun _ _ _=>False
theorem pass0 {X:Cx} : Passes CX0 X E0:=fun _ _ _ _ _ _ _ h=>h.elim
structure Fun (K:PySem.W.Frag) (x qual:Str) (st:Stmt) (f:Addr) (fd:FuncData) : Prop where
 ex : ∃ (oc:Value) (od:Option Addr) (kV doc pm:Value) (an:Option Addr) (cdv ct:Value) (osl:Array (Option Value)),
  fd=PySem.W.fnOf x qual (defArgs st) (defBody st) (defScope st) .none kV doc pm an cdv ct∧K.lookup f=some ⟨oc,od,.func fd,osl⟩∧PySem.W.codeIn K cdv qual=true
 kp:PySem.W.keepIn K (.ref f)=true
section
variable {P:Program} {w:World} {K:PySem.W.Frag} {mg:Str→Option Value} {base:Heap}
theorem Fun.ok {x qual:Str} {st:Stmt} {f:Addr} {fd:FuncData} {N ps:List Str} {k:Nat} {sp:Sp} (F:Fun K x qual st f fd) (S:FnScope N ps (defScope st)) (len : ∀ vs H Q E,sp vs H Q E→vs.length=ps.length)
  (hbody : ∀ (cdv:Value) (A:Around) (outer:List Env) (s:Shared) (H:Hp) (vs:List V) (Q:VK) (E:XK),Room k (A.deeper (envOfC qual (defScope st) s.heap.objs.size f cdv))→sp vs H Q E →
   ∃ t,PSs (cxOf CX0 P w K mg base N qual (defScope st) f cdv A outer s H E).nox (defBody st) t∧t { nx:=fun _ H'=>Q .non H',rt:=Q } (start N vs) H) : FnOk P w K mg base CX0 (k+1) f fd ps sp:=by
 obtain ⟨oc,od,kV,doc,pm,an,cdv,ct,osl,rfl,lk,hcd⟩:=F.ex
 refine fn_of lk hcd S len fun A outer s H vs Q E hr hsp=>?_
 obtain ⟨t,h,q⟩:=hbody cdv A outer s H vs Q E hr hsp
 exact ⟨t,h.nox,q⟩
theorem Fun.binds {x qual:Str} {st:Stmt} {f:Addr} {fd:FuncData} {ps:List Str} (F:Fun K x qual st f fd)
  (h : ∀ (kV doc pm:Value) (an:Option Addr) (cdv ct:Value) (us:List Value),us.length=ps.length→bindArgs (PySem.W.fnOf x qual (defArgs st) (defBody st) (defScope st) .none kV doc pm an cdv ct) ⟨us,[]⟩=pure (ps.zip us)) : Binds K fd ps []:=by
 obtain ⟨oc,od,kV,doc,pm,an,cdv,ct,osl,rfl,lk,hcd⟩:=F.ex
 exact .all (h kV doc pm an cdv ct)
theorem fun_mk {x qual:Str} {st:Stmt} {f:Addr} {oc:Value} {od an:Option Addr} {osl:Array (Option Value)} {kV doc pm cdv ct:Value} (l:K.lookup f=some ⟨oc,od,.func (PySem.W.fnOf x qual (defArgs st) (defBody st) (defScope st) .none kV doc pm an cdv ct),osl⟩)
  (c:PySem.W.codeIn K cdv qual=true) (k:PySem.W.keepIn K (.ref f)=true) : Fun K x qual st f (PySem.W.fnOf x qual (defArgs st) (defBody st) (defScope st) .none kV doc pm an cdv ct):=⟨⟨oc,od,kV,doc,pm,an,cdv,ct,osl,rfl,l,c⟩,k⟩
end
theorem hu_of {A:Around} {k:Nat} (hr:Room k A) : A.units+1<cLine:=Nat.lt_of_le_of_lt (Nat.add_le_add_left (by decide : 1≤64) _) hr.units
section
variable {X:Cx}
theorem pv (i:Nat) {x:Str} {pos:Pos} (hN:X.N[i]?=some x:=by rfl) (hv:Vis X.env.scope x:=by first | exact Or.inl rfl | exact Or.inr (Or.inl rfl) | exact Or.inr (Or.inr rfl)) (hd:(x == ("__debug__" : Str))=false:=by decide)
  (hcd:(x == ("__classdict__" : Str))=false:=by decide) : PE X (.Name x pos) (tVar i):=pe_var hN hv hd hcd
end
theorem iteF {A B:Prop} (h:B) : if false=true then A else B:=by
 rw [if_neg Bool.false_ne_true]
 exact h
theorem iteT {A B:Prop} (h:A) : if true=true then A else B:=by
 rw [if_pos rfl]
 exact h
theorem ite2 {c A B:Prop} [Decidable c] (h1:c→A) (h2 : ¬ c→B) : if c then A else B:=by
 by_cases h:c
 ·rw [if_pos h]
  exact h1 h
 ·rw [if_neg h]
  exact h2 h
theorem iteNS {c A B:Prop} [Decidable c] (hc:c) (h:B) : if (!decide c)=true then A else B:=by
 rw [decide_eq_true hc]
 exact iteF h
def Same (H H':Hp) : Prop:=∀ b o,H b=some o→H' b=some o
theorem Same.refl (H:Hp) : Same H H:=fun _ _ h=>h
theorem Same.trans {H H1 H2:Hp} (a:Same H H1) (b:Same H1 H2) : Same H H2:=fun c o h=>b c o (a c o h)
theorem Same.free {H H':Hp} (e:Same H H') {l:Addr} (h:H' l=Option.none) : H l=Option.none:=by
 cases q:H l with
 | none=>rfl
 | some o =>
  rw [e l o q] at h
  cases h
theorem Same.seq {K:PySem.W.Frag} {H H':Hp} {a:Addr} {xs:List V} (e:Same H H') (h:SqL K H a xs) : SqL K H' a xs:=by
 rcases h with (h | ⟨o,h⟩) | h
 ·exact .inl (.inl (e _ _ h))
 ·exact .inl (.inr ⟨o,e _ _ h⟩)
 ·exact .inr h
end L2
namespace L2
open PySem PySem.Spec PyProof.Rows
def closL (cells:List (Str × Addr)) : List (Str × NameKind)→List (Str × Addr)→List (Str × Addr)
 | [],acc=>acc
 | (n,k) :: r,acc=>if (k == NameKind.free)=true then (match cells.lookup n with | some c=>closL cells r ((n,c) :: acc) | none=>closL cells r acc) else closL cells r acc
theorem closL_run {env:Env} : ∀ (ns:List (Str × NameKind)) (acc:List (Str × Addr)),(∀ y∈ns,y.2=.free→∃ c,env.cells.lookup y.1=some c) →
  (forIn ns acc (fun x cs=>(match x with | (name,kind)=>if (kind == NameKind.free)=true then (do let c ← cellOf env name; pure (ForInStep.yield ((name,c) :: cs))) else pure (ForInStep.yield cs))) : Sem (List (Str × Addr)))=pure (closL env.cells ns acc)
 | [],acc,_=>rfl
 | (n,k) :: r,acc,h=>by
  rw [List.forIn_cons]
  by_cases hk:(k == NameKind.free)=true
  ·obtain ⟨c,hc⟩:=h (n,k) List.mem_cons_self (by simpa using hk)
   have hc:env.cells.lookup n=some c:=hc
   have e:=closL_run (env:=env) r ((n,c) :: acc) fun y hy=>h y (List.mem_cons_of_mem _ hy)
   simp only [closL,hk,if_true,cellOf,hc,pure_bind]
   exact e
  ·have e:=closL_run (env:=env) r acc fun y hy=>h y (List.mem_cons_of_mem _ hy)
   have hk:(k == NameKind.free)=false:=by simpa using hk
   simp only [closL,hk,Bool.false_eq_true,if_false,pure_bind]
   exact e
theorem closureFor_eq {scope:Scope} {env:Env} (h : ∀ y∈scope.names,y.2=.free→∃ c,env.cells.lookup y.1=some c) : closureFor scope env=pure (closL env.cells scope.names []):=by
 have e:=closL_run (env:=env) scope.names [] h
 unfold closureFor
 simp only [bind_pure]
 first
  | exact e
  | (refine Eq.trans ?_ e; congr 1)
  | (simp only [bind_pure_comp] at e ⊢; exact e)
theorem closL_sub {cells:List (Str × Addr)} : ∀ {ns:List (Str × NameKind)} {acc:List (Str × Addr)} {x:Str} {c:Addr},(closL cells ns acc).lookup x=some c→acc.lookup x=some c∨cells.lookup x=some c
 | [],acc,x,c,h=>.inl h
 | (n,k) :: r,acc,x,c,h=>by
  unfold closL at h
  split at h
  ·split at h
   ·rename_i q hq
    rcases closL_sub h with z | z
    ·rw [List.lookup_cons] at z
     cases hx:x == n with
     | true =>
      rw [hx] at z
      cases z
      have:x=n:=by simpa using hx
      subst this
      exact .inr hq
     | false =>
      rw [hx] at z
      exact .inl z
    ·exact .inr z
   ·exact closL_sub h
  ·exact closL_sub h
theorem closL_has {cells:List (Str × Addr)} : ∀ {ns:List (Str × NameKind)} {acc:List (Str × Addr)} {x:Str} {c:Addr},cells.lookup x=some c→((x,NameKind.free)∈ns∨acc.lookup x=some c)→(closL cells ns acc).lookup x=some c
 | [],acc,x,c,hc,h=>h.elim (fun z=>nomatch z) fun z=>z
 | (n,k) :: r,acc,x,c,hc,h=>by
  unfold closL
  split
  ·rename_i hk
   split
   ·rename_i q hq
    refine closL_has hc ?_
    rcases h with h | h
    ·rcases List.mem_cons.mp h with e | h
     ·cases e
      rw [hc] at hq
      cases hq
      exact .inr (by simp)
     ·exact .inl h
    ·by_cases e:x=n
     ·subst e
      rw [hc] at hq
      cases hq
      exact .inr (by simp)
     ·exact .inr (by rw [List.lookup_cons,(by simpa using e:(x == n)=false)]; exact h)
   ·rename_i hq
    refine closL_has hc ?_
    rcases h with h | h
    ·rcases List.mem_cons.mp h with e | h
     ·cases e
      rw [hc] at hq
      cases hq
     ·exact .inl h
    ·exact .inr h
  ·rename_i hk
   refine closL_has hc ?_
   rcases h with h | h
   ·rcases List.mem_cons.mp h with e | h
    ·cases e
     exact absurd rfl hk
    ·exact .inl h
   ·exact .inr h
theorem lookup_relabel_free {env:Env} : ∀ {names:List (Str × NameKind)} {x:Str},names.lookup x=some .free →
  (names.map fun (n,k)=>if (k == NameKind.free && env.scope.kind == .function && env.kindOf n == some .cell) then (n,NameKind.cell) else (n,k)).lookup x=some .cell ∨
  (names.map fun (n,k)=>if (k == NameKind.free && env.scope.kind == .function && env.kindOf n == some .cell) then (n,NameKind.cell) else (n,k)).lookup x=some .free
 | [],_,h=>by simp at h
 | (n,k) :: r,x,h=>by
  have ih:=@lookup_relabel_free env r x
  show List.lookup x ((if (k == NameKind.free && env.scope.kind == .function && env.kindOf n == some .cell)=true then (n,NameKind.cell) else (n,k)) :: _)=_∨List.lookup x ((if (k == NameKind.free && env.scope.kind == .function && env.kindOf n == some .cell)=true then (n,NameKind.cell) else (n,k)) :: _)=_
  cases hx:x == n with
  | true =>
   simp only [List.lookup_cons,hx] at h
   cases h
   by_cases hc:(NameKind.free == NameKind.free && env.scope.kind == .function && env.kindOf n == some .cell)=true
   ·rw [if_pos hc]; simp [List.lookup_cons,hx]
   ·rw [if_neg hc]; simp [List.lookup_cons,hx]
  | false =>
   simp only [List.lookup_cons,hx] at h
   by_cases hc:(k == NameKind.free && env.scope.kind == .function && env.kindOf n == some .cell)=true
   ·rw [if_pos hc]; simp only [List.lookup_cons,hx]; exact ih h
   ·rw [if_neg hc]; simp only [List.lookup_cons,hx]; exact ih h
theorem of_relabel {env:Env} : ∀ {names:List (Str × NameKind)} {x:Str} {q:NameKind},(names.map fun (n,k)=>if (k == NameKind.free && env.scope.kind == .function && env.kindOf n == some .cell) then (n,NameKind.cell) else (n,k)).lookup x=some q →
  (∀ y∈names,y.2≠.cell)→q=.cell∨q=.free→(x,NameKind.free)∈names
 | [],_,_,h,_,_=>by simp at h
 | (n,k) :: r,x,q,h,hn,hq=>by
  have ih:=@of_relabel env r x q
  have h:List.lookup x ((if (k == NameKind.free && env.scope.kind == .function && env.kindOf n == some .cell)=true then (n,NameKind.cell) else (n,k)) :: r.map fun (n,k)=>if (k == NameKind.free && env.scope.kind == .function && env.kindOf n == some .cell) then (n,NameKind.cell) else (n,k))=some q:=h
  have nk:k≠.cell:=hn (n,k) List.mem_cons_self
  have hn' : ∀ y∈r,y.2≠.cell:=fun y hy=>hn y (List.mem_cons_of_mem _ hy)
  cases hx:x == n with
  | true =>
   have e:x=n:=by simpa using hx
   subst e
   by_cases hc:(k == NameKind.free && env.scope.kind == .function && env.kindOf x == some .cell)=true
   ·have:k=.free:=by
     simp only [Bool.and_eq_true] at hc
     simpa using hc.1.1
    subst this
    exact List.mem_cons_self
   ·rw [if_neg hc] at h
    simp only [List.lookup_cons,hx] at h
    cases h
    rcases hq with z | z
    ·exact absurd z nk
    ·rw [z]; exact List.mem_cons_self
  | false =>
   by_cases hc:(k == NameKind.free && env.scope.kind == .function && env.kindOf n == some .cell)=true
   ·rw [if_pos hc] at h; simp only [List.lookup_cons,hx] at h; exact List.mem_cons_of_mem _ (ih h hn' hq)
   ·rw [if_neg hc] at h; simp only [List.lookup_cons,hx] at h; exact List.mem_cons_of_mem _ (ih h hn' hq)
end L2
namespace L2
open PySem PySem.Spec PyProof.Rows
def startC (ix:List (Option Nat)) (σ : St) : St:=ix.map fun o=>o.bind fun i=>(σ[i]?).join
def cxC (X:Cx) (N:List Str) (scope:Scope) (C:Addr) (fp:List Addr) (s:Shared) (H:Hp) : Cx :=
 { X with N:=N,s₀:=s,H₀:=H,env:=compEnvC scope (closL X.env.cells scope.names []) C X.env,outer:=X.stack,stack:=X.stack,ex:=fp,fn:=fun _=>false,xe:=fun _ _=>False }
structure CompOk (X:Cx) (scope:Scope) (N:List Str) (ix:List (Option Nat)) : Prop where
 kind:scope.kind=.function
 nocell : ∀ y∈scope.names,y.2≠.cell
 len:ix.length=N.length
 names : ∀ y∈scope.names,y.2=.local→scope.names.lookup y.1=some .local
 fr : ∀ y∈scope.names,y.2=.free→X.env.kindOf y.1=some .cell∨X.env.kindOf y.1=some .free
 cap : ∀ (j i:Nat),ix[j]?=some (some i)→∃ x:Str,N[j]?=some x∧X.N[i]?=some x∧scope.names.lookup x=some .free∧(x,NameKind.free)∈scope.names
theorem mem_of_lookup {names:List (Str × NameKind)} {x:Str} {k:NameKind} (h:names.lookup x=some k) : (x,k)∈names:=by
 induction names with
 | nil=>simp at h
 | cons p r ih =>
  obtain ⟨n,q⟩:=p
  rw [List.lookup_cons] at h
  cases hx:x == n with
  | true =>
   rw [hx] at h; cases h; have:x=n:=by simpa using hx
   subst this; exact List.mem_cons_self
  | false=>rw [hx] at h; exact List.mem_cons_of_mem _ (ih h)
section
variable {X:Cx} {pins:List (Addr × Obj)} {σ : St} {H:Hp} {s:Shared} {scope:Scope} {N:List Str} {ix:List (Option Nat)} {fp:List Addr}
theorem CompOk.ok (c:CompOk X scope N ix) (I:Inv X pins σ H s) (hf : ∀ b∈fp,FpOk X pins H b) (hlt : ∀ b∈fp,b<s.heap.objs.size) {C:Nat} (hC:s.heap.objs.size≤C) : (cxC X N scope C fp s H).Ok where
 mod:=I.ok.mod
 kind:=c.kind
 glob:=I.ok.glob
 blt:=I.ok.blt
 above:=hC
 inj:=fun x y d h1 h2=>by
  have h1:(closL X.env.cells scope.names []).lookup x=some d:=h1
  have h2:(closL X.env.cells scope.names []).lookup y=some d:=h2
  rcases closL_sub h1 with z | z
  ·simp at z
  ·rcases closL_sub h2 with z' | z'
   ·simp at z'
   ·exact I.ok.inj x y d z z'
 has:=fun x h=>by
  have hm:(x,NameKind.free)∈scope.names:=by
   rcases h with h | h
   ·exact of_relabel h c.nocell (.inl rfl)
   ·exact of_relabel h c.nocell (.inr rfl)
  obtain ⟨d,hd⟩:=I.ok.has x (c.fr _ hm rfl)
  exact ⟨d,closL_has hd (.inl hm)⟩
 cab:=fun x d h=>by cases h
 hd:=I.ok.hd
 frames:=I.ok.frames
 stk:=.inl rfl
 exf:=fun b hb=>by
  refine ⟨fun z=>?_,fun x d e z=>?_⟩
  ·have z:b=C:=z
   have:=hlt b hb
   rw [z] at this
   exact absurd (Nat.lt_of_lt_of_le this hC) (Nat.lt_irrefl _)
  ·rcases closL_sub e with q | q
   ·simp at q
   ·exact (hf b hb).2.2.2.2.1 x d q z
 bs:=fun b o e=>I.bs b o e
 bsz:=Nat.le_trans I.ok.bsz I.sz
 noex:=fun b o e hb=>by
  rcases (hf b hb).2.2.2.1 with z | z
  ·exact I.ok.noex b o e z
  ·exact absurd (Nat.lt_of_lt_of_le (Heap.lt_size (I.ok.bs b o e).1) z) (Nat.lt_irrefl _)
 exfs:=fun b hb z=>by
  rcases List.mem_cons.mp (I.stkSub b z) with e | e
  ·exact (hf b hb).2.1 e
  ·exact (hf b hb).2.2.1 e
 funs:=I.stack
 frf:=I.stkFree
theorem CompOk.enter (c:CompOk X scope N ix) (I:Inv X pins σ H s) (hf : ∀ b∈fp,FpOk X pins H b) (ho : ∀ b∈fp,∃ o,s.heap.get? b=some o∧∀ v,o.data≠.cell v) {C D:Nat} {h':Heap} {t':Nat} {m:Str→Option Value} {oD:Obj} (hC:C=s.heap.objs.size+1) (hD:D=s.heap.objs.size)
  (k : ∀ b o,s.heap.get? b=some o→h'.get? b=some o) (hn:h'.Ns C m) (hoD:h'.get? D=some oD) (hdD : ∀ v,oD.data≠.cell v) :
  Inv (cxC X N scope C fp s H) (pins++[(D,oD)]) (startC ix σ) H { s with heap:=h',toks:=t' }:=by
 have hlt : ∀ b∈fp,b<s.heap.objs.size:=fun b hb=>let ⟨o,e,_⟩:=ho b hb; Heap.lt_size e
 have sub : ∀ x d,(closL X.env.cells scope.names []).lookup x=some d→X.env.cells.lookup x=some d:=fun x d e=>by
  rcases closL_sub e with z | z
  ·simp at z
  ·exact z
 refine ⟨c.ok I hf hlt (by omega),rfl,I.bare,Un.kept k,⟨m,hn,fun j x v e1 e2 e3=>?_⟩,fun x d e=>?_,I.hok.fresh (by show s.heap.objs.size≤C; omega),fun x d e=>I.freeC x d (sub x d e),fun p hp=>?_,I.hok.kept k,?_⟩
 ·have e2:(ix.map fun o=>o.bind fun i=>(σ[i]?).join)[j]?=some (some v):=e2
  rw [List.getElem?_map] at e2
  cases hj:ix[j]? with
  | none=>rw [hj] at e2; cases e2
  | some o =>
   rw [hj] at e2
   cases o with
   | none=>cases e2
   | some i =>
    have e2:some ((σ[i]?).join)=some (some v):=e2
    obtain ⟨x',a1,a2,a3,a4⟩:=c.cap j i hj
    have e1:N[j]?=some x:=e1
    rw [e1] at a1
    cases a1
    have hs : σ[i]?=some (some v):=by
     have z:=Option.some.inj e2
     cases q : σ[i]? with
     | none=>rw [q] at z; cases z
     | some w=>rw [q] at z; have z:w=some v:=z; rw [z]
    have kx:=c.fr _ a4 rfl
    obtain ⟨m0,hn0,hl0⟩:=I.loc
    obtain ⟨u,r,l⟩:=hl0 i x v a2 hs (kx.elim (fun z=>.inr (.inl z)) fun z=>.inr (.inr z))
    refine ⟨u,r,.inr ⟨?_,?_⟩⟩
    ·exact lookup_relabel_free (env:=X.env) a3
    ·rcases l with ⟨z,_⟩ | ⟨_,d,hd,hcell⟩
     ·rcases kx with q | q <;> rw [q] at z <;> cases z
     ·refine ⟨d,closL_has hd (.inl a4),?_⟩
      obtain ⟨o,ho,hdt⟩:=hcell
      exact ⟨o,k d o ho,hdt⟩
 ·obtain ⟨v,o,ho,hdt⟩:=I.cell x d (sub x d e)
  exact ⟨v,o,k d o ho,hdt⟩
 ·have nstk : ∀ b,b≠X.env.locals→b∉X.fs→b∉frs X.stack:=fun b h1 h2 z=>by
   rcases List.mem_cons.mp (I.stkSub b z) with e | e
   ·exact h1 e
   ·exact h2 e
  have old : ∀ p∈X.pn++pins,h'.get? p.1=some p.2∧H p.1=none∧p.1≠C∧p.1∉frs X.stack∧∀ v,p.2.data≠.cell v:=fun p hp=>by
   obtain ⟨a1,a2,a3,a4,a5⟩:=I.pin p hp
   have : @LT.lt Nat _ p.1 s.heap.objs.size:=Heap.lt_size a1
   exact ⟨k _ _ a1,a2,Nat.ne_of_lt (by rw [hC]; exact Nat.lt_succ_of_lt this),nstk _ a3 a4,a5⟩
  have hp:p∈X.pn++(pins++[(D,oD)]):=hp
  rcases List.mem_append.mp hp with z | z
  ·exact old p (List.mem_append_left _ z)
  ·rcases List.mem_append.mp z with z | z
   ·exact old p (List.mem_append_right _ z)
   ·have e:p=(D,oD):=by simpa using z
    subst e
    have lt : @LT.lt Nat _ X.env.locals s.heap.objs.size:=I.lt
    refine ⟨hoD,I.hok.fresh (by show s.heap.objs.size≤D; omega),(by show (D:Nat)≠C; omega),nstk D (Nat.ne_of_gt (by rw [hD]; exact lt)) (I.nofs (by omega)),hdD⟩
 ·show (ix.map _).length=N.length
  rw [List.length_map,c.len]
theorem CompOk.leave (c:CompOk X scope N ix) (I:Inv X pins σ H s) (hf : ∀ b∈fp,FpOk X pins H b) {C D:Nat} {σ':St} {H':Hp} {s':Shared} {ys:List V} {its:List Value} {n:Nat} {pl:List (Addr × Obj)} (hC:C=s.heap.objs.size+1) (hD:D=s.heap.objs.size)
  (I':Inv (cxC X N scope C fp s H) (pl++[(D,{ cls:=.type "list", data:=.seq its.toArray n })]) σ' H' s') (rv:Vals ys its) (hz:ys.length≤sizeLine) :
  Inv X pins σ (upd H' D (.lst ys)) s':=by
 have pD:=I'.pin (D,_) (List.mem_append_right _ (List.mem_append_right _ List.mem_cons_self))
 have hDn:H' D=none:=pD.2.1
 have u:Un (frs X.stack) fp H H' s.heap s'.heap:=I'.base
 have hlt : ∀ b o,s.heap.get? b=some o→b≠D:=fun b o e=>Nat.ne_of_lt (by have : @LT.lt Nat _ b s.heap.objs.size:=Heap.lt_size e; rw [hD]; exact this)
 refine I.call' (ch:=fp) I'.os ?_ ?_ I'.bare fun b hb=>?_
 ·refine ⟨u.keep,u.slot,fun b o e n hx=>by rw [upd_ne (hlt b o e)]; exact u.free b o e n hx,u.there,fun b xs e=>?_,fun b o w e=>?_,fun b ps e=>?_⟩
  ·have e':=u.tups b xs e
   rw [upd_ne (ne_of_none e' hDn)]; exact e'
  ·have e':=u.frzs b o w e
   rw [upd_ne (ne_of_none e' hDn)]; exact e'
  ·obtain ⟨more,e'⟩:=u.tbls b ps e
   exact ⟨more,by rw [upd_ne (ne_of_none e' hDn)]; exact e'⟩
 ·intro b o e
  by_cases hb:b=D
  ·subst hb
   rw [upd_same] at e
   cases e
   exact ⟨hz,its,n,rv,pD.1⟩
  ·rw [upd_ne hb] at e
   refine (I'.hok b o e).stay (fun _ _ _ q=>q) (fun a q=>?_) fun a xs q=>?_
   ·rw [upd_ne (ne_of_none q hDn)]; exact q
   ·rw [upd_ne (ne_of_none q hDn)]; exact q
 ·obtain ⟨f0,f1,f2,f3,f4,f5⟩:=hf b hb
  exact ⟨f3,f1,f4,f5⟩
end
end L2
namespace L2
open PySem PySem.Spec PyProof.Rows
section
variable {prog:Program} {w:World} {A:Around} {R:Result→Shared→Prop} {s:Shared}
theorem compLoop_any {elt target iter:Expr} {ifs:List Expr} {scope:Scope} {pos:Pos} {it acc:Value} {env:Env} (I:Nat→Shared→Prop)
  (turn : ∀ n s,I n s→wpAny (model prog w) A (pyNext it) (fun r s₁=>match r with
   | none=>R (.ok .next) s₁
   | some v=>wpAny (model prog w) A (letOwnedTupleGo target it v) (fun _ s₁=>wpAny (model prog w) A (assign target env v) (fun _ s₂ =>
     wpAny (model prog w) A (forIn ifs true fun c r=>if r=true then do let ok ← isTrue c env (eval c env); pure (ForInStep.yield ok) else pure (ForInStep.yield r)) (fun ok s₃ =>
      if ok=true then wpAny (model prog w) A (eval elt env) (fun x s₄ =>
       wpAny (model prog w) A (call (.builtin "list.append") [acc,x]) (fun _ s₅=>∃ m,m<n∧I m s₅) (fun _ _=>False) s₄) (fun _ _=>False) s₃
      else ∃ m,m<n∧I m s₃) (fun _ _=>False) s₂) (fun _ _=>False) s₁) (fun _ _=>False) s₁) (fun _ _=>False) s)
  (n:Nat) (h:I n s) :
  codeAny (model prog w) A (.compLoop (.ListComp elt [⟨target,iter,ifs,0⟩] scope pos) 0 it acc env) R s:=by
 refine codeAny_loop rfl I (fun n s hI=>?_) n h
 show wpAny _ A ((compTurn (.ListComp elt [⟨target,iter,ifs,0⟩] scope pos) 0 it acc env).onRaise (fun x=>do noteFrame x env; theTreesLotGoes x)) _ _ s
 refine wpAny_noted ?_
 rw [compTurn_list]
 refine wpAny_bind (wpAny_standAt (wpAny_bind (wpAny_mono (turn n s hI) (fun r s₁ h₁=>?_) fun _ _ h'=>h'.elim)))
 cases r with
 | none=>exact wpAny_pure h₁
 | some v =>
  refine wpAny_bind (wpAny_mono h₁ (fun _ s₁ h₁=>?_) fun _ _ h'=>h'.elim)
  refine wpAny_bind (wpAny_mono h₁ (fun _ s₂ h₂=>wpAny_bind (wpAny_mono h₂ (fun ok s₃ h₃=>?_) fun _ _ h'=>h'.elim)) fun _ _ h'=>h'.elim)
  cases ok with
  | false=>exact wpAny_pure ⟨rfl,h₃⟩
  | true =>
   refine wpAny_bind (wpAny_bind (wpAny_mono h₃ (fun x s₄ h₄=>wpAny_bind (wpAny_mono h₄ (fun _ s₅ h₅=>?_) fun _ _ h'=>h'.elim)) fun _ _ h'=>h'.elim))
   exact wpAny_pure (wpAny_pure ⟨rfl,h₅⟩)
end
def PIf (X:Cx) (cs:List Expr) (t:TT) : Prop :=
 ∀ (pins:List (Addr × Obj)) (s:Shared) (σ : St) (H:Hp) (Q:Bool→Hp→Prop),Inv X pins σ H s→t σ H Q →
  wpAny (model X.prog X.w) X.A (forIn cs true fun c r=>if r=true then do let ok ← isTrue c X.env (eval c X.env); pure (ForInStep.yield ok) else pure (ForInStep.yield r)) (TP X pins σ Q) X.xe s
def tTrue:TT:=fun _ H Q=>Q true H
theorem pif_nil {X:Cx} : PIf X [] tTrue:=fun _ _ _ H _ I h=>wpAny_tests_nil ⟨H,I,h⟩
theorem pif_one {X:Cx} {c:Expr} {t:TT} (h:PT X c t) : PIf X [c] t:=fun pins s σ H Q I q=>wpAny_tests_one (h pins s σ H Q I q)
abbrev WC:=Nat→Nat→List V→St→Hp→Prop
def rComp (ix:List (Option Nat)) (g:TG) (tc:TT) (te:TE) (σ : St) (Q:VK) (J:It) (H1:Hp) : Prop :=
 ∃ W:WC,(∃ m,W 0 m [] (startC ix σ) H1)∧∀ i m ys σ' H',W i m ys σ' H' →
  (J.stop i H'∧ys.length≤sizeLine∧∀ p,H' p=none→Q (.ref p) (upd H' p (.lst ys))) ∨
  (J.go i H'∧ys.length<sizeLine∧∀ x H2,J.yld i H' x H2→g x σ' H2 fun σ2 H3=>tc σ2 H3 fun b H4 =>
   if b=true then te σ2 H4 fun v H5=>∃ m',m'<m∧W (i+1) m' (ys++[v]) σ2 H5 else ∃ m',m'<m∧W (i+1) m' ys σ2 H4)
def tComp (ix:List (Option Nat)) (wi:TI) (g:TG) (tc:TT) (te:TE) : TE:=fun σ H Q=>wi σ H (rComp ix g tc te σ Q)
section
variable {X:Cx} {scope:Scope} {N:List Str} {ix:List (Option Nat)} {elt tg iter:Expr} {ifs:List Expr} {g:TG} {tc:TT} {te:TE} {pos:Pos}
theorem comp_block {pins:List (Addr × Obj)} {σ : St} {s2:Shared} {Q:VK} {itv:Value} {RR:Value→Addr→Result→Shared→Prop} {E:Value→Shared→Prop} (c:CompOk X scope N ix) (hc:X.calm=true)
  (hg : ∀ C fp s H,PG (cxC X N scope C fp s H) tg g) (ht : ∀ C fp s H,PIf (cxC X N scope C fp s H) ifs tc) (he : ∀ C fp s H,PE (cxC X N scope C fp s H) elt te)
  (h2:PIE X pins σ tg (rComp ix g tc te σ Q) itv s2)
  (hR : ∀ (D C:Addr) (s':Shared) (H':Hp) (m:Str→Option Value),Inv X pins σ H' s'→s'.heap.Ns C m→H' C=none→X.s₀.heap.objs.size≤C→(∀ p∈X.pn++pins,p.1≠C)→C≠X.env.locals→(∀ x c,X.env.cells.lookup x=some c→c≠C)→Q (.ref D) H'→RR (.ref D) C (.ok .next) s') :
  wpAny (model X.prog X.w) X.A (newList []) (fun acc s₃=>wpAny (model X.prog X.w) X.A (newFunctionEnv scope X.env.globals (closL X.env.cells scope.names []) [] X.env.qual none .none (some X.env)) (fun cenv s₄ =>
   codeAny (model X.prog X.w) X.A (.compStart (.ListComp elt [⟨tg,iter,ifs,0⟩] scope pos) 0 itv acc { cenv with scope:=relabel scope X.env }) (RR acc cenv.locals) s₄) E s₃) E s2:=by
 obtain ⟨it,fp,tn,J,H2,rfl,I2,T,st2,f2,W,⟨m0,w0⟩,turn⟩:=h2
 refine wpAny_newObj_type (wpAny_newFunctionEnv c.nocell (by intro y hy; simp at hy) (fun h₁ hns₁ hsb₁=>?_) c.kind)
 dsimp only at hns₁ hsb₁ ⊢
 generalize hH2:s2.heap.push { cls:=.type "list", dict:=none,data:=.seq ([] : List Value).toArray }=G2 at hns₁ hsb₁ ⊢
 have hCs:G2.objs.size=s2.heap.objs.size+1:=by rw [← hH2,Heap.size_push]
 generalize hCe:G2.objs.size=C at hns₁ hsb₁ hCs ⊢
 generalize hDe:s2.heap.objs.size=D at hCs ⊢
 have ltC : ∀ b,@LT.lt Nat _ b D→b≠C:=fun b hb=>Nat.ne_of_lt (by rw [hCs]; exact Nat.lt_succ_of_lt hb)
 have ltS : ∀ b o,s2.heap.get? b=some o→@LT.lt Nat _ b D:=fun b o e=>by rw [← hDe]; exact Heap.lt_size e
 have hDC:D≠C:=Nat.ne_of_lt (by rw [hCs]; exact Nat.lt_succ_self _)
 have old : ∀ b o,s2.heap.get? b=some o→h₁.get? b=some o:=fun b o e=>hsb₁.extBut b o (ltC b (ltS b o e)) (Heap.get?_push_of_some _ (hH2 ▸ Heap.get?_push_of_some _ e))
 have hoD:h₁.get? D=some { cls:=.type "list", dict:=none,data:=.seq ([] : List Value).toArray }:=by
  refine hsb₁.extBut _ _ hDC (Heap.get?_push_of_some _ ?_)
  rw [← hH2,← hDe]
  exact Heap.get?_push_size _ rfl
 have I4:Inv (cxC X N scope C fp s2 H2) (pins++[(D,{ cls:=.type "list", data:=.seq ([] : List Value).toArray })]) (startC ix σ) H2 { s2 with heap:=h₁,toks:=s2.toks+([] : List (Str × Value)).length } :=
  c.enter I2 f2 (T.obj _ _ st2) (by rw [hCs,hDe]) hDe.symm old hns₁ hoD fun v z=>by cases z
 have st4:tn 0 h₁:=T.keep _ _ _ st2 fun b _ o e=>old b o e
 have pinD : ∀ p∈X.pn++pins,p.1≠D:=fun p hp=>Nat.ne_of_lt (ltS _ _ (I2.pin p hp).1)
 have pinC : ∀ p∈X.pn++pins,p.1≠C:=fun p hp=>ltC _ (ltS _ _ (I2.pin p hp).1)
 have celD : ∀ x d,X.env.cells.lookup x=some d→@LT.lt Nat _ d D:=fun x d e=>by
  obtain ⟨v,o,ho,_⟩:=I2.cell x d e
  exact ltS d o ho
 have fpD : ∀ b∈fp,@LT.lt Nat _ b D:=fun b hb=>by
  obtain ⟨o,e,_⟩:=T.obj _ _ st2 b hb
  exact ltS b o e
 have sub : ∀ x d,(closL X.env.cells scope.names []).lookup x=some d→X.env.cells.lookup x=some d:=fun x d e=>by
  rcases closL_sub e with z | z
  ·simp at z
  ·exact z
 have stat : ∀ {H':Hp} {oD:Obj},(∀ b∈fp,H' b=none)→∀ b∈fp,FpOk (cxC X N scope C fp s2 H2) (pins++[(D,oD)]) H' b:=fun {H' oD} hn b hb=>by
  obtain ⟨f0,f1,f2,f3,f4,f5⟩:=f2 b hb
  refine ⟨hn b hb,ltC b (fpD b hb),fun z=>?_,.inl hb,fun x d e=>f4 x d (sub x d e),fun p hp=>?_⟩
  ·rcases List.mem_cons.mp (I2.stkSub b z) with e | e
   ·exact f1 e
   ·exact f2 e
  ·have hp:p∈X.pn++(pins++[(D,oD)]):=hp
   rw [← List.append_assoc] at hp
   rcases List.mem_append.mp hp with z | z
   ·exact f5 p z
   ·have e:p=(D,oD):=by simpa using z
    subst e
    exact Nat.ne_of_gt (fpD b hb)
 have loop : ∀ s3:Shared,s3={ s2 with heap:=h₁,toks:=s2.toks+([] : List (Str × Value)).length } →
   codeAny (model X.prog X.w) X.A (.compLoop (.ListComp elt [⟨tg,iter,ifs,0⟩] scope pos) 0 (.ref it) (.ref D) (cxC X N scope C fp s2 H2).env) (RR (.ref D) C) s3:=by
  rintro s3 rfl
  refine compLoop_any (fun n s'=>∃ i σ' H' ys its k,Inv (cxC X N scope C fp s2 H2) (pins++[(D,{ cls:=.type "list", data:=.seq (List.toArray its) k })]) σ' H' s'∧tn i s'.heap∧(∀ b∈fp,H' b=none)∧Vals ys its∧W i n ys σ' H') ?_ m0
   ⟨0,_,H2,[],[],_,I4,st4,fun b hb=>(f2 b hb).1,.nil,w0⟩
  rintro n s3 ⟨i,σ3,H3,ys,its,k,I3,st3,fr3,rv,w3⟩
  rcases turn i n ys σ3 H3 w3 with ⟨stop,hz,qn⟩ | ⟨go,hz,step⟩
  ·refine thn (T.done (cxC X N scope C fp s2 H2) rfl rfl rfl hc i _ s3 σ3 H3 _ I3 (stat fr3) st3 stop) fun r s4 ⟨hr,I4⟩=>?_
   subst hr
   have hDn:H3 D=none:=(I3.pin (D,_) (List.mem_append_right _ (List.mem_append_right _ List.mem_cons_self))).2.1
   obtain ⟨m4,hn4,_⟩:=id I4.loc
   refine hR D C s4 _ m4 (c.leave I2 f2 (by rw [hCs,hDe]) hDe.symm I4 rv hz) hn4 ?_ ?_ pinC ?_ (fun x d e=>ltC d (celD x d e)) (qn D hDn)
   ·rw [upd_ne hDC.symm]; exact I4.free
   ·refine Nat.le_trans I2.sz ?_
    rw [hDe,hCs]; exact Nat.le_succ _
   ·refine Nat.ne_of_gt (Nat.lt_of_lt_of_le I2.lt ?_)
    rw [hDe,hCs]; exact Nat.le_succ _
  ·refine thn (T.item (cxC X N scope C fp s2 H2) rfl rfl rfl hc i _ s3 σ3 H3 _ I3 (stat fr3) st3 go) fun r s4 ⟨u,hr,h4⟩=>?_
   subst hr
   refine thn h4 fun _ s5 ⟨x,H5,I5,r5,y5,st5,fr5⟩=>?_
   have I5':=I5.pinned (stat fr5) (T.obj _ _ st5)
   refine thn (hg C fp s2 H2 _ s5 σ3 H5 x u _ I5' r5 (step x H5 y5)) fun _ s6 ⟨σ6,H6,I6,q6⟩=>?_
   refine thn (ht C fp s2 H2 _ s6 σ6 H6 _ I6 q6) fun ok s7 ⟨H7,I7,q7⟩=>?_
   have keep : ∀ {s':Shared} {σ':St} {H':Hp},Inv (cxC X N scope C fp s2 H2) ((pins++[(D,{ cls:=.type "list", data:=.seq its.toArray k })])++pinsAt fp s5.heap) σ' H' s'→tn (i+1) s'.heap∧∀ b∈fp,H' b=none:=fun {s' σ' H'} I'=>by
    refine ⟨T.keep _ _ _ st5 fun b hb o e=>(I'.pin (b,o) (List.mem_append_right _ (List.mem_append_right _ (mem_pinsAt hb e)))).1,fun b hb=>?_⟩
    obtain ⟨o,e,d⟩:=T.obj _ _ st5 b hb
    exact (I'.pin (b,o) (List.mem_append_right _ (List.mem_append_right _ (mem_pinsAt hb e)))).2.1
   cases ok with
   | false =>
    rw [if_neg Bool.false_ne_true]
    rw [if_neg Bool.false_ne_true] at q7
    obtain ⟨m',hm,w7⟩:=q7
    obtain ⟨k1,k2⟩:=keep I7
    exact ⟨m',hm,i+1,σ6,H7,ys,its,k,I7.unpinned,k1,k2,rv,w7⟩
   | true =>
    rw [if_pos rfl]
    rw [if_pos rfl] at q7
    refine thn (he C fp s2 H2 _ s7 σ6 H7 _ I7 q7) fun y s8 ⟨v,H8,I8,r8,m',hm,w8⟩=>?_
    obtain ⟨k1,k2⟩:=keep I8
    have pD:=I8.pin (D,_) (List.mem_append_right _ (List.mem_append_left _ (List.mem_append_right _ List.mem_cons_self)))
    have I8u:=I8.unpinned
    have I8v:Inv (cxC X N scope C fp s2 H2) pins σ6 H8 s8:=I8u.unpinned
    have len:=rv.length
    refine wpAny_list_append_plain (items:=its.toArray) (hsz:=by simp; omega) ⟨k,pD.1⟩ fun h9 hl9 hs9=>?_
    obtain ⟨k9,e9⟩:=hl9
    have I9:Inv (cxC X N scope C fp s2 H2) pins σ6 H8 { s8 with heap:=h9 }:=by
     refine I8v.turned (t':=s8.toks) (it:=D) (fun b o hb e=>hs9.extBut b o hb e) pD.2.1 hDC (.inr ?_) (fun x d e=>Nat.ne_of_lt (celD x d (sub x d e))) fun p hp=>?_
     ·show s2.heap.objs.size≤D
      rw [hDe]; exact Nat.le_refl _
     ·exact pinD p hp
    have e9':h9.get? D=some { cls:=.type "list", data:=.seq (its++[y]).toArray k9 }:=by
     rw [e9]; simp
    refine ⟨m',hm,i+1,σ6,H8,ys++[v],its++[y],k9,I9.pins_of fun p hp=>?_,T.keep _ _ _ k1 fun b hb o e=>hs9.extBut b o (Nat.ne_of_lt (fpD b hb)) e,k2,rv.append (.cons r8 .nil),w8⟩
    rcases List.mem_append.mp hp with z | z
    ·exact I9.pin p (List.mem_append_right _ z)
    ·have e:p=(D,{ cls:=.type "list", data:=.seq (its++[y]).toArray k9 }):=by simpa using z
     subst e
     exact ⟨e9',pD.2.1,pD.2.2.1,pD.2.2.2.1,fun v z=>by cases z⟩
 exact codeAny_compStart_list (loop _ rfl) (T.self _ 0 _ _ _ st4 (loop _ rfl))
variable {wi:TI}
theorem pe_comp (c:CompOk X scope N ix) (hc:X.calm=true) (hi:PI X tg iter wi) (hg : ∀ C fp s H,PG (cxC X N scope C fp s H) tg g) (ht : ∀ C fp s H,PIf (cxC X N scope C fp s H) ifs tc) (he : ∀ C fp s H,PE (cxC X N scope C fp s H) elt te)
  (hs : ∀ x,foldedSetIterable iter X.env x=pure x:=by intro _; rfl) : PE X (.ListComp elt [⟨tg,iter,ifs,0⟩] scope pos) (tComp ix wi g tc te):=by
 intro pins s σ H Q I h
 rw [eval_ListComp]
 have hcl : ∀ y∈scope.names,y.2=NameKind.free→∃ d,X.env.cells.lookup y.1=some d:=fun y hy e=>I.ok.has _ (c.fr y hy e)
 refine wpAny_comprehension_free (use:=none) rfl hs (closureFor_eq hcl) c.kind c.names (thn (hi pins s σ H _ I h) fun v s1 h1=>thn h1 fun itv s2 h2=>?_)
 refine comp_block (RR:=fun acc C=>compPost (model X.prog X.w) X.A X.xe none (EP X pins σ Q) acc C) c hc hg ht he h2 ?_
 intro D C s' H' m I' hn hC hz hp hL hcells q
 exact ⟨m,hn,fun h' hs'=>⟨.ref D,H',I'.turned (t':=s'.toks) (fun b o hb e=>hs'.extBut b o hb e) hC hL (.inr hz) hcells hp,rfl,q⟩⟩
theorem ps_comp {i:Nat} {x:Str} {px spos:Pos} (hN:X.N.Nodup) (hx0:X.N[i]?=some x) (hx:X.env.scope.names.lookup x=some .local) (c:CompOk X scope N ix) (hc:X.calm=true) (hi:PI X tg iter wi) (hg : ∀ C fp s H,PG (cxC X N scope C fp s H) tg g) (ht : ∀ C fp s H,PIf (cxC X N scope C fp s H) ifs tc) (he : ∀ C fp s H,PE (cxC X N scope C fp s H) elt te)
  (hsw:swapsWith (.ListComp elt [⟨tg,iter,ifs,0⟩] scope pos) (some (.Name x px)) spos.line X.env=pure true:=by rfl)
  (hs : ∀ x,foldedSetIterable iter X.env x=pure x:=by intro _; rfl) : PS X (.Assign [.Name x px] (.ListComp elt [⟨tg,iter,ifs,0⟩] scope pos) spos) (tAsg (tComp ix wi g tc te) (gName i)):=by
 intro pins s σ H D0 I h
 rw [exec_Assign_Name_used _ _ _ _ hsw]
 refine wpAny_bind (wpAny_standAt (wpAny_bind ?_))
 show wpAny _ _ (do let _ ← comprehension (.ListComp elt [⟨tg,iter,ifs,0⟩] scope pos) scope X.env _ (newList []) false (eval iter X.env) (some (assign (.Name x px) X.env))) _ _ s
 have hcl : ∀ y∈scope.names,y.2=NameKind.free→∃ d,X.env.cells.lookup y.1=some d:=fun y hy e=>I.ok.has _ (c.fr y hy e)
 refine wpAny_bind (wpAny_mono (wpAny_comprehension_free (use:=some (assign (.Name x px) X.env)) (Q:=fun _ s'=>SP X pins D0 .next s') rfl hs (closureFor_eq hcl) c.kind c.names
  (thn (hi pins s σ H _ I h) fun v s1 h1=>thn h1 fun itv s2 h2=>?_)) (fun _ s' hq=>wpAny_pure (wpAny_pure hq)) fun _ _ e=>e)
 refine comp_block (RR:=fun acc C=>compPost (model X.prog X.w) X.A X.xe (some (assign (.Name x px) X.env)) (fun _ s'=>SP X pins D0 .next s') acc C) c hc hg ht he h2 ?_
 intro D C s' H' m I' hn hC hz hp hL hcells q
 show wpAny _ _ (assign (.Name x px) X.env (.ref D)) _ _ _
 refine wpAny_assign_Name (store_ok2 (v:=.ref D) I' hN hx0 (.inl hx) rfl (fun s'' I'' hsb=>?_) (.inr hx))
 obtain ⟨a,sb,ha⟩:=hsb
 have haC:a≠C:=by
  rcases ha with e | e
  ·rw [e]; exact hL.symm
  ·exact hcells x a e
 refine ⟨m,hn.sameBut sb haC.symm,fun h' hs'=>⟨_,H',I''.turned (t':=s''.toks) (fun b o hb e=>hs'.extBut b o hb e) hC hL (.inr hz) hcells hp,q⟩⟩
end
end L2
namespace L2
open PySem PySem.Spec PyProof.Rows
mutual
inductive Dat (K:PySem.W.Frag) (H:Hp) (P:Addr→Prop) : V→PyData→Prop
 | non:Dat K H P .non .none
 | bl (b:Bool) : Dat K H P (.bl b) (.bool b)
 | int (i:Int) : Dat K H P (.int i) (.int i)
 | str (x:Str) : Dat K H P (.str x) (.str x)
 | lst {a:Addr} {vs:List V} {ds:List PyData} : SqL K H a vs→P a→DatAll K H P vs ds→Dat K H P (.ref a) (.list ds)
 | tup {a:Addr} {vs:List V} {ds:List PyData} : SqT K H a vs→P a→DatAll K H P vs ds→Dat K H P (.ref a) (.tuple ds)
inductive DatAll (K:PySem.W.Frag) (H:Hp) (P:Addr→Prop) : List V→List PyData→Prop
 | nil:DatAll K H P [] []
 | cons {v:V} {d:PyData} {vs:List V} {ds:List PyData} : Dat K H P v d→DatAll K H P vs ds→DatAll K H P (v :: vs) (d :: ds)
end
def Keep (P:Addr→Prop) (H H':Hp) : Prop:=∀ b o,P b→H b=some o→H' b=some o
theorem Keep.sqL {P:Addr→Prop} {H H':Hp} {K:PySem.W.Frag} {a:Addr} {xs:List V} (k:Keep P H H') (p:P a) (h:SqL K H a xs) : SqL K H' a xs:=by
 rcases h with (h | ⟨o,h⟩) | h
 ·exact .inl (.inl (k _ _ p h))
 ·exact .inl (.inr ⟨o,k _ _ p h⟩)
 ·exact .inr h
theorem Keep.sqT {P:Addr→Prop} {H H':Hp} {K:PySem.W.Frag} {a:Addr} {xs:List V} (k:Keep P H H') (p:P a) (h:SqT K H a xs) : SqT K H' a xs:=by
 rcases h with (h | ⟨o,h⟩) | h
 ·exact .inl (.inl (k _ _ p h))
 ·exact .inl (.inr ⟨o,k _ _ p h⟩)
 ·exact .inr h
mutual
theorem Dat.keep {K:PySem.W.Frag} {H H':Hp} {P:Addr→Prop} (k:Keep P H H') : ∀ {v:V} {d:PyData},Dat K H P v d→Dat K H' P v d
 | _,_,.non=>.non
 | _,_,.bl b=>.bl b
 | _,_,.int i=>.int i
 | _,_,.str x=>.str x
 | _,_,.lst h p r=>.lst (k.sqL p h) p (r.keep k)
 | _,_,.tup h p r=>.tup (k.sqT p h) p (r.keep k)
theorem DatAll.keep {K:PySem.W.Frag} {H H':Hp} {P:Addr→Prop} (k:Keep P H H') : ∀ {vs:List V} {ds:List PyData},DatAll K H P vs ds→DatAll K H' P vs ds
 | _,_,.nil=>.nil
 | _,_,.cons h r=>.cons (h.keep k) (r.keep k)
end
mutual
theorem Dat.imp {K:PySem.W.Frag} {H:Hp} {P P':Addr→Prop} (k : ∀ a,P a→P' a) : ∀ {v:V} {d:PyData},Dat K H P v d→Dat K H P' v d
 | _,_,.non=>.non
 | _,_,.bl b=>.bl b
 | _,_,.int i=>.int i
 | _,_,.str x=>.str x
 | _,_,.lst h p r=>.lst h (k _ p) (r.imp k)
 | _,_,.tup h p r=>.tup h (k _ p) (r.imp k)
theorem DatAll.imp {K:PySem.W.Frag} {H:Hp} {P P':Addr→Prop} (k : ∀ a,P a→P' a) : ∀ {vs:List V} {ds:List PyData},DatAll K H P vs ds→DatAll K H P' vs ds
 | _,_,.nil=>.nil
 | _,_,.cons h r=>.cons (h.imp k) (r.imp k)
end
section
variable {X:Cx} {pins:List (Addr × Obj)} {σ : St} {H:Hp} {s:Shared}
mutual
theorem Inv.reads {P:Addr→Prop} (I:Inv X pins σ H s) : ∀ {v:V} {d:PyData} {u:Value},Dat X.K H P v d→RelV v u→∃ as,Reads s.heap u d as
 | _,_,u,.non,r=>by cases (show u=Value.none from r); exact ⟨_,.none⟩
 | _,_,u,.bl b,r=>by cases (show u=Value.bool b from r); exact ⟨_,.bool b⟩
 | _,_,u,.int i,r=>by obtain ⟨t,rfl⟩:=(show ∃ t,u=Value.int i t from r); exact ⟨_,.int i t⟩
 | _,_,u,.str x,r=>by obtain ⟨t,rfl⟩:=(show ∃ t,u=Value.str x t from r); exact ⟨_,.str x t⟩
 | .ref a,_,u,.lst h p rs,r=>by
  cases (show u=Value.ref a from r)
  obtain ⟨its,rv,⟨o,n,e,c,_,d⟩,_⟩:=I.list h
  obtain ⟨as,q⟩:=Inv.readsAll I rs rv
  exact ⟨_,.list e c d (by simpa using q)⟩
 | .ref a,_,u,.tup h p rs,r=>by
  cases (show u=Value.ref a from r)
  obtain ⟨its,rv,⟨o,e,c,n,d⟩,_⟩:=I.tuple h
  obtain ⟨as,q⟩:=Inv.readsAll I rs rv
  exact ⟨_,.tuple e c d (by simpa using q)⟩
theorem Inv.readsAll {P:Addr→Prop} (I:Inv X pins σ H s) : ∀ {vs:List V} {ds:List PyData} {us:List Value},DatAll X.K H P vs ds→Vals vs us→∃ as,ReadsAll s.heap us ds as
 | _,_,_,.nil,r=>by cases r; exact ⟨_,.nil⟩
 | _,_,_,.cons h rs,r=>by
  cases r with
  | cons r1 r2 =>
   obtain ⟨as,q⟩:=Inv.reads I h r1
   obtain ⟨bs,q'⟩:=Inv.readsAll I rs r2
   exact ⟨_,.cons q q'⟩
end
def rEqD (K:PySem.W.Frag) : R2:=fun x y H Q=>∃ P dx dy,Dat K H P x dx∧Dat K H P y dy∧dx.canLay0=true∧dy.canLay0=true∧dx.depth≤60∧Q (.bl (PyData.eqv dx dy)) H
def rNeD (K:PySem.W.Frag) : R2:=fun x y H Q=>∃ P dx dy,Dat K H P x dx∧Dat K H P y dy∧dx.canLay0=true∧dy.canLay0=true∧dx.depth≤60∧Q (.bl (!PyData.eqv dx dy)) H
theorem op_eqD (hu:X.A.units+64<cLine) : OpR X (compareOp .Eq) (rEqD X.K):=by
 intro pins s σ H x y v u Q I rx ry h
 obtain ⟨P,dx,dy,hx,hy,lx,ly,dd,q⟩:=h
 obtain ⟨as,qa⟩:=I.reads hx rx
 obtain ⟨bs,qb⟩:=I.reads hy ry
 exact SeqAt.compareEq_reads qa qb lx ly (by omega) ⟨.bl _,H,I,rfl,q⟩
theorem op_neD (hu:X.A.units+64<cLine) : OpR X (compareOp .NotEq) (rNeD X.K):=by
 intro pins s σ H x y v u Q I rx ry h
 obtain ⟨P,dx,dy,hx,hy,lx,ly,dd,q⟩:=h
 obtain ⟨as,qa⟩:=I.reads hx rx
 obtain ⟨bs,qb⟩:=I.reads hy ry
 exact SeqAt.compareNe_reads qa qb lx ly (by omega) ⟨.bl _,H,I,rfl,q⟩
def rRange:List V→Hp→VK→Prop:=fun xs H Q=>(∃ j,xs=[.int j]∧∀ p,H p=none→Q (.ref p) (upd H p (.rng 0 j)))∨∃ i j,xs=[.int i,.int j]∧∀ p,H p=none→Q (.ref p) (upd H p (.rng i j))
theorem call_range:CallR X (.type "range") rRange:=by
 intro pins s σ H xs us Q I r h
 rcases h with ⟨j,rfl,q⟩ | ⟨i,j,rfl,q⟩
 ·obtain ⟨u,rfl,t,rfl⟩:=vals1 r
  refine call_range_1 ⟨.ref s.heap.objs.size,_,I.laid (o:=.rng 0 j) (fun b o e=>Heap.get?_push_of_some _ e) (Nat.le_refl _) ⟨_,_,_,Heap.get?_push_size _ rfl⟩,rfl,q _ (I.hok.fresh (Nat.le_refl _))⟩
 ·obtain ⟨u,u',rfl,⟨t,rfl⟩,⟨t',rfl⟩⟩:=vals2 r
  refine call_range_2 ⟨.ref s.heap.objs.size,_,I.laid (o:=.rng i j) (fun b o e=>Heap.get?_push_of_some _ e) (Nat.le_refl _) ⟨_,_,_,Heap.get?_push_size _ rfl⟩,rfl,q _ (I.hok.fresh (Nat.le_refl _))⟩
def ivl (lo hi:Int) : List Int:=(List.range (hi - lo).toNat).map fun (i:Nat)=>lo+(i:Int)
theorem ivl_length (lo hi:Int) : (ivl lo hi).length=(hi - lo).toNat:=by simp [ivl]
theorem items_ints {lo:Int} {n:Nat} {acc:Array Value} (h:ItemsOf (fun i v=>∃ t,v=.int (lo+i * 1) t) acc n) : Vals (((List.range n).map fun (i:Nat)=>lo+(i:Int)).map V.int) acc.toList:=by
 obtain ⟨h1,h2⟩:=h
 have key : ∀ (l:List Value) (k:Nat),(∀ (j:Nat) (v:Value),l[j]?=some v→∃ t,v=Value.int (lo+((k+j:Nat) : Int) * 1) t)→Vals ((List.range' k l.length).map fun (i:Nat)=>V.int (lo+(i:Int))) l:=by
  intro l
  induction l with
  | nil=>intro k _; exact .nil
  | cons v r ih =>
   intro k hk
   rw [List.length_cons,List.range'_succ,List.map_cons]
   refine .cons ?_ (ih (k+1) fun j v hj=>?_)
   ·obtain ⟨t,e⟩:=hk 0 v rfl
    refine ⟨t,?_⟩
    rw [e]; simp
   ·obtain ⟨t,e⟩:=hk (j+1) v (by simpa using hj)
    refine ⟨t,?_⟩
    rw [e]
    congr 2
    simp
    omega
 have:=key acc.toList 0 fun j v hj=>by
  have:=h2 j v (by simpa using hj)
  simpa using this
 rw [List.map_map]
 rw [List.range_eq_range']
 have e:acc.toList.length=n:=by simpa using h1
 rw [e] at this
 exact this
theorem rng_size {i j:Int} : Builtin.Range.rangeSize i j 1=(((j - i).toNat:Nat) : Int):=by
 rw [rangeSize_one]; split <;> omega
def rListRng:List V→Hp→VK→Prop:=fun xs H Q=>∃ p i j,xs=[.ref p]∧H p=some (.rng i j)∧-1000000≤i∧i≤1000000∧-1000000≤j∧j≤1000000∧∀ l,H l=none→Q (.ref l) (upd H l (.lst ((ivl i j).map V.int)))
theorem size_le {i j:Int} (h1 : -1000000≤i) (h2:i≤1000000) (h3 : -1000000≤j) (h4:j≤1000000) : (j - i).toNat≤2 ^ 24:=by
 have:(j - i).toNat≤2000000:=by omega
 exact Nat.le_trans this (by decide)
theorem call_list_rng (hc:X.calm=true) : CallR X (.type "list") rListRng:=by
 intro pins s σ H xs us Q I r h
 obtain ⟨p,i,j,rfl,hp,h1,h2,h3,h4,q⟩:=h
 obtain ⟨u,rfl,rx⟩:=vals1 r
 cases rx
 obtain ⟨t,t',t'',e⟩:=(show ObjOk X.prog X.w H s.heap p (.rng i j) from I.hok p _ hp)
 refine call_list_range (I.ok.hd hc) e (small_one (by omega) (by omega) (by omega) (by omega)) rng_size (size_le h1 h2 h3 h4) fun h' tk acc' c' k e' it=>?_
 have v:=items_ints it
 refine ⟨.ref s.heap.objs.size,_,I.laid (o:=.lst ((ivl i j).map V.int)) k (Nat.le_refl _) ⟨?_,acc'.toList,c',v,by simpa using e'⟩,rfl,q _ (I.hok.fresh (Nat.le_refl _))⟩
 rw [List.length_map,ivl_length]
 exact Nat.le_trans (size_le h1 h2 h3 h4) (by decide)
end
end L2
namespace L2
open PySem PySem.Spec PyProof.Rows
section
variable {prog:Program} {w:World} {A:Around} {E:Value→Shared→Prop} {s:Shared}
theorem collect_range {Q:List Value→Shared→Prop} {r:Addr} {a b c:Int} {t u v:Tok} {n:Nat} (hh:A.handled=none) (hr:IsRange s.heap r a b c t u v) (hsmall:Builtin.Range.small a b c=true)
  (hn:Builtin.Range.rangeSize a b c=n) (hlen:n≤2 ^ 24)
  (hQ : ∀ h' tk acc,(∀ b o,s.heap.get? b=some o→h'.get? b=some o)→ItemsOf (fun i v=>∃ t,v=.int (a+i * c) t) acc n→Q acc.toList { s with heap:=h',toks:=tk }) :
  wpAny (model prog w) A (collect (.ref r)) Q E s:=by
 unfold collect
 refine wpAny_bind (wpAny_runValue (codeAny_builtin F.entry_proto_collect ?_))
 rw [Around.under_plainId F.plain_proto_collect _]
 show wpAny _ A.in1 (newList [] >>= fun l=>again (.builtin "list.__iadd__" ⟨[l,.ref r],[]⟩)) _ _ s
 refine wpAny_bind (wpAny_newObj_type ?_)
 refine wpAny_pure ⟨plainId_quiet F.plain_list_iadd _,codeAny_builtin F.entry_list_iadd ?_⟩
 rw [Around.under_plainId F.plain_list_iadd _]
 show wpAny _ A.in1 (Builtin.List.listExtendWith (.ref s.heap.objs.size) (.ref r) (.ref s.heap.objs.size)) _ _ _
 have hS:(s.heap.push { cls:=.type "list", data:=.seq ([] : List Value).toArray }).get? s.heap.objs.size=some { cls:=.type "list", data:=.seq #[] 0 }:=Heap.get?_push_size _ rfl
 have fin' : ∀ (h':Heap) (tk:Nat) (acc':Array Value) (c':Nat),(∀ b o,b≠s.heap.objs.size→(s.heap.push { cls:=.type "list", data:=.seq ([] : List Value).toArray }).get? b=some o→h'.get? b=some o) →
   h'.get? s.heap.objs.size=some { cls:=.type "list", dict:=none,data:=.seq acc' c',slots:=#[] }→ItemsOf (fun i v=>∃ t,v=.int (a+i * c) t) acc' n→wpAny (model prog w) A (match Value.ref s.heap.objs.size with
   | Value.ref a=>do
    match (← load a).data with
     | Data.seq xs _=>pure xs.toList
     | _=>unsupported "internal:collect"
   | _=>unsupported "internal:collect") Q E { s with heap:=h',toks:=tk }:=fun h' tk acc' c' hk hS' hacc=>by
  show wpAny _ A (load s.heap.objs.size >>= _) _ _ _
  refine wpAny_bind (wpAny_load hS' ?_)
  exact wpAny_pure (hQ h' tk acc' (fun b o e=>hk b o (Nat.ne_of_lt (Heap.lt_size e)) (Heap.get?_push_of_some _ e)) hacc)
 refine wpAny_mono (wpAny_extend_range (A:=A) (R:=fun r s'=>r=.ok (.ret (.ref s.heap.objs.size))∧wpAny (model prog w) A (match Value.ref s.heap.objs.size with
   | Value.ref a=>do
    match (← load a).data with
     | Data.seq xs _=>pure xs.toList
     | _=>unsupported "internal:collect"
   | _=>unsupported "internal:collect") Q E s') (s:={ s with heap:=s.heap.push { cls:=.type "list", data:=.seq ([] : List Value).toArray } }) hh (Heap.get?_push_of_some _ hr) hsmall hn hlen _ (.ref s.heap.objs.size) 0 hS fun h' tk acc' c' hk hS' hacc=>⟨rfl,fin' h' tk acc' c' hk hS' hacc⟩) (fun fin s' h=>?_) (fun e s' h=>?_)
 ·cases fin with
  | done f =>
   obtain ⟨e,q⟩:=h
   cases e
   exact q
  | again c'=>exact ⟨h.1,codeAny_mono h.2 fun r s'' hr=>by obtain ⟨rfl,q⟩:=hr; exact q⟩
 ·exact absurd h.1 (by simp)
theorem meets_tuple_new_range {r:Addr} {a b c:Int} {t u v:Tok} {n:Nat} (hsmall:Builtin.Range.small a b c=true) (hn:Builtin.Range.rangeSize a b c=n) (hlen:n≤2 ^ 24) :
  Meets (Builtin.«tuple.__new__» ⟨[.type "tuple", .ref r],[]⟩)
   (fun A R s=>A.handled=none∧IsRange s.heap r a b c t u v∧∀ (h':Heap) (tk:Nat) (acc:Array Value),(∀ b o,s.heap.get? b=some o→h'.get? b=some o)→ItemsOf (fun i v=>∃ t,v=.int (a+i * c) t) acc n →
    R (.ok (.ret (.ref h'.objs.size))) { s with heap:=h'.push { cls:=.type "tuple", data:=.seq acc },toks:=tk }) :=
 .of_wp fun prog w A R s h=>by
  obtain ⟨hp,g,d,tk,os⟩:=s
  obtain ⟨hh,hr,h⟩:=h
  have hsub:=sub_tuple_self
  have hinit:=init_tuple_lookup
  have hmh:=madeHere_tuple
  have hT:Shared.TypeIs ⟨hp,g,d,tk,os⟩ (.ref r) "range" := ⟨_,hr,rfl⟩
  have hh1:A.in1.handled=none:=hh
  wp_walk using wpAny_typeOf hT,collect_range hh1 hr hsmall hn hlen
  intro h' tk acc hk hacc
  have hsz:acc.size≤sizeLine:=by rw [hacc.1]; exact Nat.le_trans hlen (by decide)
  show wpAny _ _ (Builtin.Tuple.tupleExact acc.toList.toArray >>= fun v=>ret v) _ _ _
  unfold Builtin.Tuple.tupleExact
  refine wpAny_bind (wpAny_newObj_type ?_ (show acc.toList.toArray.size≤sizeLine by simpa using hsz))
  refine wpAny_pure ⟨_,rfl,?_⟩
  have e:acc.toList.toArray=acc:=by simp
  rw [e]
  exact h h' tk acc hk hacc
theorem call_tuple_range {Q:Value→Shared→Prop} {r:Addr} {a b c:Int} {t u v:Tok} {n:Nat} (hh:A.handled=none) (hr:IsRange s.heap r a b c t u v) (hsmall:Builtin.Range.small a b c=true)
  (hn:Builtin.Range.rangeSize a b c=n) (hlen:n≤2 ^ 24)
  (h : ∀ (h':Heap) (tk:Nat) (acc:Array Value),(∀ b o,s.heap.get? b=some o→h'.get? b=some o)→ItemsOf (fun i v=>∃ t,v=.int (a+i * c) t) acc n→Q (.ref h'.objs.size) { s with heap:=h'.push { cls:=.type "tuple", data:=.seq acc },toks:=tk }) :
  wpAny (model prog w) A (call (.type "tuple") [.ref r]) Q E s:=by
 refine callType_new F.called_tuple (by decide) (F.typeCall_tuple_1 _) (F.newCall_tuple_1 _) (fun obj=>F.args_object_init_2 obj _) F.entry_tuple_new
  (meets_tuple_new_range hsmall hn hlen) ⟨hh,hr,fun h' tk acc hk hacc=>⟨⟨_,Heap.get?_push_size _ rfl,rfl⟩,?_⟩⟩
 exact h h' tk acc hk hacc
end
section
variable {X:Cx}
def rTupRng:List V→Hp→VK→Prop:=fun xs H Q=>∃ p i j,xs=[.ref p]∧H p=some (.rng i j)∧-1000000≤i∧i≤1000000∧-1000000≤j∧j≤1000000∧∀ l,H l=none→Q (.ref l) (upd H l (.tup ((ivl i j).map V.int)))
theorem call_tuple_rng (hc:X.calm=true) : CallR X (.type "tuple") rTupRng:=by
 intro pins s σ H xs us Q I r h
 obtain ⟨p,i,j,rfl,hp,h1,h2,h3,h4,q⟩:=h
 obtain ⟨u,rfl,rx⟩:=vals1 r
 cases rx
 obtain ⟨t,t',t'',e⟩:=(show ObjOk X.prog X.w H s.heap p (.rng i j) from I.hok p _ hp)
 refine call_tuple_range (I.ok.hd hc) e (small_one (by omega) (by omega) (by omega) (by omega)) rng_size (size_le h1 h2 h3 h4) fun h' tk acc k it=>?_
 have v:=items_ints it
 have I1:Inv X pins σ H { s with heap:=h',toks:=tk }:=I.kept k
 refine ⟨.ref h'.objs.size,_,I1.laid (t':=tk) (o:=.tup ((ivl i j).map V.int)) (fun b o e=>Heap.get?_push_of_some _ e) (Nat.le_refl _) ⟨?_,acc.toList,v,by simpa using IsTup.new h' acc⟩,rfl,q _ (I1.hok.fresh (Nat.le_refl _))⟩
 rw [List.length_map,ivl_length]
 exact Nat.le_trans (size_le h1 h2 h3 h4) (by decide)
def tyOfV (K:PySem.W.Frag) (x:V) (H:Hp) (T:String) : Prop:=TyOf K H x (.type T)
def rIsi (K:PySem.W.Frag) : List V→Hp→VK→Prop:=fun xs H Q=>∃ x T C b,xs=[x,.ty C]∧tyOfV K x H T∧PySem.W.kitOne K (.type T) (.type C)=some b∧Q (.bl b) H
theorem call_isi:CallR X (.builtin "isinstance") (rIsi X.K):=by
 intro pins s σ H xs us Q I r h
 obtain ⟨x,T,C,b,rfl,ty,e,q⟩:=h
 obtain ⟨u,w',rfl,rx,ry⟩:=vals2 r
 cases (show w'=Value.type C from ry)
 exact isinst_ok I rx ty e fun tk=>⟨.bl b,H,I.tok _,rfl,q⟩
theorem kit_self (K:PySem.W.Frag) (T:String) : PySem.W.kitOne K (.type T) (.type T)=some true:=by
 unfold PySem.W.kitOne
 rw [if_pos (beq_self_eq_true _)]
def rAll (K:PySem.W.Frag) : List V→Hp→VK→Prop:=fun xs H Q=>∃ (p:Addr) (bs:List Bool),xs=[.ref p]∧SqL K H p (bs.map V.bl)∧Q (.bl (bs.all id)) H
theorem vals_bools : ∀ {bs:List Bool} {us:List Value},Vals (bs.map V.bl) us→us=bs.map Value.bool
 | [],us,r=>by cases r; rfl
 | b :: r,us,h=>by
  cases h with
  | cons h1 h2 =>
   rw [List.map_cons,← vals_bools h2]
   rw [show _=Value.bool b from h1]
theorem call_all (hc:X.calm=true) : CallR X (.builtin "all") (rAll X.K):=by
 intro pins s σ H xs us Q I r h
 obtain ⟨p,bs,rfl,hl,q⟩:=h
 obtain ⟨u,rfl,rx⟩:=vals1 r
 cases rx
 obtain ⟨its,rv,pl,hz⟩:=I.list hl
 have e:=vals_bools rv
 subst e
 refine call_all_walk (wpAny_pyIter_list pl.isList ?_)
 have lt:p<s.heap.objs.size:=by obtain ⟨o,n,e,_⟩:=pl; exact Heap.lt_size e
 refine ⟨s.heap.objs.size,_,_,_,_,_,fun i=>bs.getD i true,rfl,Walks.list (A:=X.A.in1) (show X.A.in1.handled=none from I.ok.hd hc) s.heap.objs.size p (Nat.ne_of_lt lt) (bs.map Value.bool).toArray,?_,?_,?_⟩
 ·refine ⟨⟨_,Heap.get?_push_size _ rfl,rfl,rfl⟩,pl.isList.at fun o e=>Heap.get?_push_of_some _ e⟩
 ·intro i v s' Q' E' hP hQ'
  have hP:(bs.map Value.bool).toArray[i]?=some v:=hP
  have:(bs.map Value.bool)[i]?=some v:=by simpa using hP
  rw [List.getElem?_map] at this
  cases hb:bs[i]? with
  | none=>rw [hb] at this; cases this
  | some b =>
   rw [hb] at this
   cases this
   have hg:bs.getD i true=b:=by rw [List.getD_eq_getElem?_getD,hb]; rfl
   have hQ':Q' (bs.getD i true) s':=hQ'
   rw [hg] at hQ'
   exact wpAny_truthy_bool hQ'
 ·intro h' tk hk
  have e:(List.range (bs.map Value.bool).toArray.size).all (fun i=>bs.getD i true)=bs.all id:=by
   have : ∀ (l:List Bool),(List.range l.length).all (fun i=>l.getD i true)=l.all id:=by
    intro l
    induction l with
    | nil=>rfl
    | cons b r ih =>
     rw [List.length_cons,List.range_succ_eq_map,List.all_cons,List.all_cons,List.all_map]
     rw [← ih]
     rfl
   simpa using this bs
  rw [e]
  refine ⟨.bl (bs.all id),H,?_,rfl,q⟩
  refine (I.kept (t':=s.toks) (h':=h') fun b o e=>hk b o ?_ (Heap.get?_push_of_some _ e)).tok tk
  intro z
  have z:b=s.heap.objs.size:=by simpa using z
  exact absurd (Heap.lt_size e) (by rw [z]; exact Nat.lt_irrefl _)
end
end L2
namespace L2
open PySem PySem.Spec PyProof.Rows
structure FnAt (P:Program) (w:World) (K:PySem.W.Frag) (mg:Str→Option Value) (base:Heap) (x:Str) (k:Nat) (ps:List Str) (sp:Sp) : Prop where
 ex : ∃ (f:Addr) (fd:FuncData),FnOk P w K mg base CX0 k f fd ps sp∧mg x=some (.ref f)∧PySem.W.keepIn K (.ref f)=true∧Binds K fd ps []
section
variable {X:Cx} {x:Str} {k:Nat} {ps:List Str} {sp:Sp} {e:Expr} {es:List Expr} {t:TA} {p pos:Pos}
theorem pe_callF (F:FnAt X.prog X.w X.K X.mg X.base x k ps sp) (hr:Room k X.A) (hg:Gl X x) (ha:PA X (e :: es) t) (hdb:(x == ("__debug__" : Str))=false:=by decide +kernel) (he:starEach (e :: es) X.env=(false,eval e X.env) :: starEach es X.env:=by rfl) (hpl:(backTo pos (starEach es X.env)).any (·.1)=false:=by rfl) :
  PE X (.Call (.Name x p) (e :: es) [] pos) (tCall sp [] E0 t):=by
 obtain ⟨f,fd,F,hm,hk,hb⟩:=F.ex
 exact pe_call F hr hg hm hk hb .nil pass0 ha hdb he hpl
def CDivL (i j:Int) : Prop:=0<j∧j<2 ^ 200
theorem log2_lt {j:Int} (h : 0<j) (h2:j<2 ^ 200) : j.natAbs.log2<9000:=by
 have h3:j.natAbs<2 ^ 200:=by
  have e:((j.natAbs:Nat) : Int)=j:=Int.natAbs_of_nonneg (Int.le_of_lt h)
  have:((j.natAbs:Nat) : Int)<((2 ^ 200:Nat) : Int):=by rw [e]; simpa using h2
  exact Int.ofNat_lt.mp this
 have h0:j.natAbs≠0:=by omega
 have:=(Nat.log2_lt h0).mpr h3
 omega
theorem op_fdivL:OpR X (binaryOp .FloorDiv) (rI CDivL fun i j=>.int (i / j)):=opI fun i j _ _ _ _ _ hc q=>by
 refine floordiv_int (by have:=hc.1; omega) ?_ (.inl (PyProof.noPylong_of_log2 (log2_lt hc.1 hc.2)))
 rw [Int.fdiv_eq_ediv_of_nonneg _ (Int.le_of_lt hc.1)]
 exact q
end
def capB (XN N:List Str) (ix:List (Option Nat)) (names:List (Str × NameKind)) : Bool :=
 (List.range ix.length).all fun j=>match ix[j]? with
  | some (some i)=>match N[j]? with
   | some x=>XN[i]? == some x && names.lookup x == some .free
   | none=>false
  | _=>true
theorem cap_ok {XN N:List Str} {ix:List (Option Nat)} {names:List (Str × NameKind)} (h:capB XN N ix names=true) :
  ∀ (j i:Nat),ix[j]?=some (some i)→∃ x:Str,N[j]?=some x∧XN[i]?=some x∧names.lookup x=some .free∧(x,NameKind.free)∈names:=by
 intro j i e
 have hj:j<ix.length:=(List.getElem?_eq_some_iff.mp e).1
 have q:=List.all_eq_true.mp h j (List.mem_range.mpr hj)
 rw [e] at q
 dsimp only at q
 cases hn:N[j]? with
 | none=>rw [hn] at q; cases q
 | some x =>
  rw [hn] at q
  dsimp only at q
  obtain ⟨q1,q2⟩:=Bool.and_eq_true_iff.mp q
  have q1:XN[i]?=some x:=by simpa using q1
  have q2:names.lookup x=some NameKind.free:=by
   cases hl:names.lookup x with
   | none=>rw [hl] at q2; cases q2
   | some k=>rw [hl] at q2; cases k <;> first | rfl | cases q2
  exact ⟨x,rfl,q1,q2,mem_of_lookup q2⟩
theorem Same.new {p:Addr} {H:Hp} {o:HO} (h:H p=none) : Same H (upd H p o):=fun c o e=>by rw [upd_ne (ne_of_none e h)]; exact e
end L2
namespace L2
open PySem PySem.Spec PyProof.Rows
theorem comp_gen {ix:List (Option Nat)} {g:TG} {tc:TT} {te:TE} {σ : St} {Q:VK} {J:It} {H:Hp} {n:Nat} (Pv:Nat→List V→St→Hp→Prop) (hn:n≤1000000) (h0:Pv 0 [] (startC ix σ) H)
  (hgo : ∀ i ys σ H,i<n→Pv i ys σ H→J.go i H) (hst : ∀ ys σ H,Pv n ys σ H→J.stop n H) (hlen : ∀ i ys σ H,Pv i ys σ H→ys.length≤i)
  (hs : ∀ i ys σ H x H2,i<n→Pv i ys σ H→J.yld i H x H2→g x σ H2 fun σ2 H3=>tc σ2 H3 fun b H4=>if b=true then te σ2 H4 fun v H5=>Pv (i+1) (ys++[v]) σ2 H5 else Pv (i+1) ys σ2 H4)
  (mg : ∀ x σ H R R',(∀ σ2 H2,R σ2 H2→R' σ2 H2)→g x σ H R→g x σ H R') (mc : ∀ σ H (R R':Bool→Hp→Prop),(∀ b H2,R b H2→R' b H2)→tc σ H R→tc σ H R') (me : ∀ σ H (R R':VK),(∀ v H2,R v H2→R' v H2)→te σ H R→te σ H R')
  (hd : ∀ ys σ' H' p,Pv n ys σ' H'→H' p=none→Q (.ref p) (upd H' p (.lst ys))) : rComp ix g tc te σ Q J H:=by
 have big:(1000000:Nat)<sizeLine:=by decide
 refine ⟨fun i m ys σ' H'=>m=n - i∧i≤n∧Pv i ys σ' H',⟨n,by simp,Nat.zero_le _,h0⟩,?_⟩
 rintro i m ys σ' H' ⟨rfl,hi,p⟩
 have hl:=hlen i ys σ' H' p
 by_cases hlt:i<n
 ·refine .inr ⟨hgo i ys σ' H' hlt p,by omega,fun x H2 y=>?_⟩
  refine mg _ _ _ _ _ (fun σ2 H3 q=>?_) (hs i ys σ' H' x H2 hlt p y)
  refine mc _ _ _ _ (fun b H4 q=>?_) q
  cases b with
  | true =>
   rw [if_pos rfl] at q ⊢
   exact me _ _ _ _ (fun v H5 q=>⟨n - (i+1),by omega,rfl,hlt,q⟩) q
  | false =>
   rw [if_neg Bool.false_ne_true] at q ⊢
   exact ⟨n - (i+1),by omega,rfl,hlt,q⟩
 ·have e:i=n:=by omega
  subst e
  exact .inl ⟨hst ys σ' H' p,by omega,fun q hq=>hd ys σ' H' q p hq⟩
theorem comp_list {K:PySem.W.Frag} {ix:List (Option Nat)} {te:TE} {σ : St} {Q:VK} {H:Hp} {a:Addr} {xs:List V} {k:Nat} (Pv:Nat→List V→St→Hp→Prop) (hn:xs.length≤1000000) (h0:Pv 0 [] (startC ix σ) H)
  (hl : ∀ i ys σ H,i≤xs.length→Pv i ys σ H→SqL K H a xs) (hlen : ∀ i ys σ H,Pv i ys σ H→ys.length≤i)
  (hs : ∀ i ys σ H x,xs[i]?=some x→Pv i ys σ H→te (σ.set k (some x)) H fun v H5=>Pv (i+1) (ys++[v]) (σ.set k (some x)) H5) (me : ∀ σ H (R R':VK),(∀ v H2,R v H2→R' v H2)→te σ H R→te σ H R')
  (hd : ∀ ys σ' H' p,Pv xs.length ys σ' H'→H' p=none→Q (.ref p) (upd H' p (.lst ys))) : rComp ix (gName k) tTrue te σ Q (Itl K a) H:=by
 refine comp_gen Pv hn h0 (fun i ys σ H hi p=>⟨xs,xs[i],hl i ys σ H (Nat.le_of_lt hi) p,by simp [hi]⟩) (fun ys σ H p=>⟨xs,hl _ ys σ H (Nat.le_refl _) p,Nat.le_refl _⟩) hlen (fun i ys σ H x H2 hi p y=>?_) (fun _ _ _ _ _ m q=>m _ _ q) (fun _ _ _ _ m q=>m _ _ q) me hd
 obtain ⟨rfl,y⟩:=y
 unfold gName tTrue
 simp only [if_true]
 exact hs i ys σ _ x (y xs (hl i ys σ _ (Nat.le_of_lt hi) p)) p
theorem comp_tup {K:PySem.W.Frag} {ix:List (Option Nat)} {te:TE} {σ : St} {Q:VK} {H:Hp} {a:Addr} {xs:List V} {k:Nat} (Pv:Nat→List V→St→Hp→Prop) (hn:xs.length≤1000000) (h0:Pv 0 [] (startC ix σ) H)
  (hl : ∀ i ys σ H,i≤xs.length→Pv i ys σ H→SqT K H a xs) (hlen : ∀ i ys σ H,Pv i ys σ H→ys.length≤i)
  (hs : ∀ i ys σ H x,xs[i]?=some x→Pv i ys σ H→te (σ.set k (some x)) H fun v H5=>Pv (i+1) (ys++[v]) (σ.set k (some x)) H5) (me : ∀ σ H (R R':VK),(∀ v H2,R v H2→R' v H2)→te σ H R→te σ H R')
  (hd : ∀ ys σ' H' p,Pv xs.length ys σ' H'→H' p=none→Q (.ref p) (upd H' p (.lst ys))) : rComp ix (gName k) tTrue te σ Q (Itt K a) H:=by
 refine comp_gen Pv hn h0 (fun i ys σ H hi p=>⟨xs,xs[i],hl i ys σ H (Nat.le_of_lt hi) p,by simp [hi]⟩) (fun ys σ H p=>⟨xs,hl _ ys σ H (Nat.le_refl _) p,Nat.le_refl _⟩) hlen (fun i ys σ H x H2 hi p y=>?_) (fun _ _ _ _ _ m q=>m _ _ q) (fun _ _ _ _ m q=>m _ _ q) me hd
 obtain ⟨rfl,y⟩:=y
 unfold gName tTrue
 simp only [if_true]
 exact hs i ys σ _ x (y xs (hl i ys σ _ (Nat.le_of_lt hi) p)) p
end L2
namespace L2
open PySem PySem.Spec PyProof.Rows
def compB (XS:List (Str × NameKind)) (XN:List Str) (names:List (Str × NameKind)) (N:List Str) (ix:List (Option Nat)) : Bool :=
 names.all (fun y=>match y.2 with
  | .cell=>false
  | .local=>(match names.lookup y.1 with | some .local=>true | _=>false)
  | .free=>(match XS.lookup y.1 with | some .cell=>true | some .free=>true | _=>false)
  | _=>true) && decide (ix.length=N.length) && capB XN N ix names
theorem comp_ok {X:Cx} {scope:Scope} {N:List Str} {ix:List (Option Nat)} (hk:scope.kind=.function) (h:compB X.env.scope.names X.N scope.names N ix=true) : CompOk X scope N ix:=by
 unfold compB at h
 obtain ⟨h,h3⟩:=Bool.and_eq_true_iff.mp h
 obtain ⟨h1,h2⟩:=Bool.and_eq_true_iff.mp h
 have all : ∀ y∈scope.names,_:=fun y hy=>List.all_eq_true.mp h1 y hy
 refine ⟨hk,fun y hy e=>?_,of_decide_eq_true h2,fun y hy e=>?_,fun y hy e=>?_,cap_ok h3⟩
 ·have q:=all y hy
  rw [e] at q
  cases q
 ·have q:=all y hy
  rw [e] at q
  dsimp only at q
  cases hl:scope.names.lookup y.1 with
  | none=>rw [hl] at q; cases q
  | some k=>rw [hl] at q; cases k <;> first | rfl | cases q
 ·have q:=all y hy
  rw [e] at q
  dsimp only at q
  show X.env.scope.names.lookup y.1=_∨X.env.scope.names.lookup y.1=_
  cases hl:X.env.scope.names.lookup y.1 with
  | none=>rw [hl] at q; cases q
  | some k=>rw [hl] at q; cases k <;> first | exact .inl rfl | exact .inr rfl | cases q
section
variable {X:Cx} {K:PySem.W.Frag}
theorem call_isiK (h:X.K=K) : CallR X (.builtin "isinstance") (rIsi K):=by subst h; exact call_isi
theorem ix_listK (h:X.K=K) : IxR X (rIxL K):=by subst h; exact ix_list
theorem ix_tupK (h:X.K=K) : IxR X (rIxT K):=by subst h; exact ix_tup
theorem call_lenK (h:X.K=K) : CallR X (.builtin "len") (fun xs H Q=>∃ p ys,xs=[.ref p]∧(SqL K H p ys∨SqT K H p ys)∧Q (.int ys.length) H):=by subst h; exact call_len_seq
theorem call_allK (h:X.K=K) (hc:X.calm=true) : CallR X (.builtin "all") (rAll K):=by subst h; exact call_all hc
theorem op_inK (h:X.K=K) : OpR X (compareOp .In) (rIn K false):=by subst h; exact op_in_seq
theorem op_notInK (h:X.K=K) : OpR X (compareOp .NotIn) (rIn K true):=by subst h; exact op_notIn_seq
theorem pi_listK {tg l:Expr} {tl:TE} (h:X.K=K) (hl:PE X l tl) : PI X tg l (iList K tl):=by subst h; exact pi_list hl
theorem pi_tupK {tg l:Expr} {tl:TE} (h:X.K=K) (hl:PE X l tl) : PI X tg l (iTup K tl):=by subst h; exact pi_tup hl
theorem pg_tupK {es:List Expr} {k:Nat} {t:TGs} {n:Nat} {pos:Pos} (hk:X.K=K) (hc:X.calm=true) (h:PGs X es t)
  (hn:(assignEach es X.env).length=n:=by rfl) (hst:(assignEach es X.env).findIdx? (·.1)=none:=by rfl) : PG X (.Tuple es k pos) (gTup K n t):=by subst hk; exact pg_tup hc h hn hst
end
end L2
namespace Sw
open PySem L2
inductive Exs (H:Hp) : List V→List (Int × Int)→Prop
 | nil:Exs H [] []
 | cons {t:Addr} {a b:Int} {vs:List V} {r:List (Int × Int)} : H t=some (.tup [.int a,.int b])→Exs H vs r→Exs H (.ref t :: vs) ((a,b) :: r)
theorem Exs.length {H:Hp} : ∀ {vs:List V} {r:List (Int × Int)},Exs H vs r→vs.length=r.length
 | _,_,.nil=>rfl
 | _,_,.cons _ x=>by rw [List.length_cons,List.length_cons,x.length]
theorem Exs.keep {H H':Hp} (k : ∀ b xs,H b=some (.tup xs)→H' b=some (.tup xs)) : ∀ {vs:List V} {r:List (Int × Int)},Exs H vs r→Exs H' vs r
 | _,_,.nil=>.nil
 | _,_,.cons h x=>.cons (k _ _ h) (x.keep k)
theorem Exs.append {H:Hp} : ∀ {vs ws:List V} {r q:List (Int × Int)},Exs H vs r→Exs H ws q→Exs H (vs++ws) (r++q)
 | _,_,_,_,.nil,y=>y
 | _,_,_,_,.cons h x,y=>.cons h (x.append y)
theorem Exs.snoc {H:Hp} {vs:List V} {r:List (Int × Int)} {t:Addr} {a b:Int} (x:Exs H vs r) (h:H t=some (.tup [.int a,.int b])) : Exs H (vs++[.ref t]) (r++[(a,b)]):=x.append (.cons h .nil)
theorem Exs.get {H:Hp} : ∀ {vs:List V} {r:List (Int × Int)} {i:Nat} {x:V},Exs H vs r→vs[i]?=some x→∃ t a b,x=.ref t∧H t=some (.tup [.int a,.int b])∧r[i]?=some (a,b)
 | _,_,_,_,.nil,e=>by simp at e
 | _,_,0,_,.cons h x,e=>by simp at e; subst e; exact ⟨_,_,_,rfl,h,rfl⟩
 | _,_,i+1,_,.cons h x,e=>by
  obtain ⟨t,a,b,e1,e2,e3⟩:=x.get (i:=i) (by simpa using e)
  exact ⟨t,a,b,e1,e2,by simpa using e3⟩
theorem Same.tups {H H':Hp} (s:Same H H') : ∀ b xs,H b=some (.tup xs)→H' b=some (.tup xs):=fun b xs e=>s b _ e
theorem ints_dat {K:PySem.W.Frag} {H:Hp} {P:Addr→Prop} : ∀ (ns:List Int),DatAll K H P (ns.map V.int) (ns.map PyData.int)
 | []=>.nil
 | n :: r=>.cons (.int n) (ints_dat r)
theorem tup_dat {K:PySem.W.Frag} {H:Hp} {t:Addr} {ns:List Int} (h:H t=some (.tup (ns.map V.int))) : Dat K H (fun _=>True) (.ref t) (.tuple (ns.map PyData.int)):=.tup (SqT.of h) True.intro (ints_dat ns)
theorem lay_ints : ∀ (ns:List Int),PyData.canLayAll0 (ns.map PyData.int)=true
 | []=>rfl
 | n :: r=>by rw [List.map_cons]; unfold PyData.canLayAll0; rw [lay_ints r]; rfl
theorem lay_tup (ns:List Int) : (PyData.tuple (ns.map PyData.int)).canLay0=true:=by unfold PyData.canLay0; exact lay_ints ns
theorem depth_ints : ∀ (ns:List Int),PyData.depthAll (ns.map PyData.int)=0
 | []=>by simp [PyData.depthAll]
 | n :: r=>by rw [List.map_cons]; unfold PyData.depthAll; rw [depth_ints r]; simp [PyData.depth]
theorem depth_tup (ns:List Int) : (PyData.tuple (ns.map PyData.int)).depth≤60:=by unfold PyData.depth; rw [depth_ints ns]; decide
theorem eqv_ints : ∀ (ns ms:List Int),PyData.eqvAll (ns.map PyData.int) (ms.map PyData.int)=decide (ns=ms)
 | [],[]=>by simp [PyData.eqvAll]
 | [],m :: r=>by simp [PyData.eqvAll]
 | n :: r,[]=>by simp [PyData.eqvAll]
 | n :: r,m :: q=>by
  rw [List.map_cons,List.map_cons]; unfold PyData.eqvAll; rw [eqv_ints r q]
  simp [PyData.eqv]
  by_cases h1:n=m <;> by_cases h2:r=q <;> simp [h1,h2]
theorem eqv_tup (ns ms:List Int) : PyData.eqv (.tuple (ns.map PyData.int)) (.tuple (ms.map PyData.int))=decide (ns=ms):=by unfold PyData.eqv; exact eqv_ints ns ms
theorem eqT {K:PySem.W.Frag} {H:Hp} {t u:Addr} {ns ms:List Int} {Q:VK} (h1:H t=some (.tup (ns.map V.int))) (h2:H u=some (.tup (ms.map V.int))) (q:Q (.bl (!decide (ns=ms))) H) : rNeD K (.ref t) (.ref u) H Q :=
 ⟨_,_,_,tup_dat h1,tup_dat h2,lay_tup _,lay_tup _,depth_tup _,by rw [eqv_tup]; exact q⟩
def swp (x:Int) (e:Int × Int) : Int:=if x=e.1 then e.2 else if x=e.2 then e.1 else x
def go (row:List (Int × Int)) (x:Int) : Int:=row.foldl swp x
def ledM (n:Int) (row:List (Int × Int)) : List Int:=(ivl 1 (n+1)).map (go row)
def Good (n:Int) (row:List (Int × Int)) : Prop:=∀ e∈row,1≤e.1∧e.1<e.2∧e.2≤n
theorem Good.append {n:Int} {r q:List (Int × Int)} (a:Good n r) (b:Good n q) : Good n (r++q):=fun e h=>(List.mem_append.mp h).elim (a e) (b e)
theorem swp_in {n x:Int} {e:Int × Int} (h : 1≤e.1∧e.1<e.2∧e.2≤n) (h1 : 1≤x) (h2:x≤n) : 1≤swp x e∧swp x e≤n:=by
 unfold swp; split
 ·omega
 ·split <;> omega
theorem swp_swp (x:Int) (e:Int × Int) : swp (swp x e) e=x:=by
 unfold swp
 by_cases h1:x=e.1
 ·rw [if_pos h1]
  by_cases h2:e.2=e.1
  ·rw [if_pos h2]; omega
  ·rw [if_neg h2,if_pos rfl]; exact h1.symm
 ·rw [if_neg h1]
  by_cases h2:x=e.2
  ·rw [if_pos h2,if_pos rfl]; exact h2.symm
  ·rw [if_neg h2,if_neg h1,if_neg h2]
theorem go_append (r q:List (Int × Int)) (x:Int) : go (r++q) x=go q (go r x):=by unfold go; rw [List.foldl_append]
theorem mem_ivl {lo hi x:Int} : x∈ivl lo hi↔lo≤x∧x<hi:=by
 unfold ivl
 rw [List.mem_map]
 constructor
 ·rintro ⟨i,h,rfl⟩
  have:=List.mem_range.mp h
  omega
 ·intro h
  exact ⟨(x - lo).toNat,List.mem_range.mpr (by omega),by omega⟩
theorem get_ivl {lo hi:Int} {i:Nat} (h:i<(hi - lo).toNat) : (ivl lo hi)[i]?=some (lo+i):=by
 unfold ivl
 rw [List.getElem?_map,List.getElem?_range h]
 rfl
theorem ledM_length (n:Int) (row:List (Int × Int)) : (ledM n row).length=n.toNat:=by
 unfold ledM; rw [List.length_map,ivl_length]; omega
theorem ledM_get {n:Int} {row:List (Int × Int)} {i:Nat} (h:i<n.toNat) : (ledM n row)[i]?=some (go row (1+i)):=by
 unfold ledM
 rw [List.getElem?_map,get_ivl (by omega)]
 rfl
def thenM (xs ys:List Int) : List Int:=xs.map fun x=>ys.getD (x - 1).toNat 0
theorem ledM_nil (n:Int) : ledM n []=ivl 1 (n+1):=by
 unfold ledM
 conv=>rhs; rw [← List.map_id (ivl 1 (n+1))]
 apply List.map_congr_left
 intro x _
 rfl
end Sw
namespace L2
open PySem PySem.Spec PyProof.Rows
open AutoSeq1 (wpAny_loadPart')
theorem typeCall_enum_kw (a b:Value) : checkTypeCall "enumerate" ⟨[a],[(Str.ofString "start", b)]⟩=pure ():=by kernel_rfl
theorem newCall_enum_kw (a b:Value) : checkBuiltinCall "enumerate.__new__" ⟨[.type "enumerate", a],[(Str.ofString "start", b)]⟩=pure ():=by kernel_rfl
theorem init_enum_kw (o a b:Value) : argsOk "object.__init__" ⟨[o,a],[(Str.ofString "start", b)]⟩:=by unfold argsOk; kernel_rfl
theorem meets_enum_kw (l:Addr) (items:Array Value) (n:Nat) (t:Tok) (dd:Option Addr) (sl:Array (Option Value)) :
  Meets (Builtin.«enumerate.__new__» ⟨[.type "enumerate", .ref l],[(Str.ofString "start", .int 1 t)]⟩) (fun _ R s=>s.heap.get? l=some { cls:=.type "tuple", dict:=dd,data:=.seq items n,slots:=sl } ∧
   R (.ok (.ret (.ref (s.heap.push { cls:=.type "tuple_iterator", data:=.fields #[.ref l,.int 0 0] }).objs.size)))
    { s with heap:=(s.heap.push { cls:=.type "tuple_iterator", data:=.fields #[.ref l,.int 0 0] }).push { cls:=.type "enumerate", data:=.fields #[.none,.bool false,.ref s.heap.objs.size,rawInt 1,.none,.none] } }) :=
 .of_wp fun prog w A R s h=>by
  obtain ⟨hp,g,d,tk,os⟩:=s; obtain ⟨hl,h⟩:=h
  have hsub:=sub_enumerate
  have hL:Heap.IsTuple (Shared.heap ⟨hp,g,d,tk,os⟩) l items:=⟨_,hl,rfl,n,rfl⟩
  wp_walk using wpAny_loadPart' hl
  refine wpAny_stack_any fun st=>wpAny_pure ?_
  split
  ·rename_i c _ _ _ _ _
   cases (c == Value.type "enumerate")
   ·wp_walk using wpAny_loadPart' hl,wpAny_pyIter_tuple hL
    exact ⟨_,rfl,h⟩
   ·wp_walk using wpAny_loadPart' hl,wpAny_pyIter_tuple hL
    exact ⟨_,rfl,h⟩
  ·wp_walk using wpAny_loadPart' hl,wpAny_pyIter_tuple hL
   exact ⟨_,rfl,h⟩
theorem init_meets_kw {T newId:String} {self a:Value} {kw:List (Str × Value)} (hl:typeLookup (.type T) "__init__" = pure (some (.builtin "object.__init__")))
  (hm:Bind.madeBy (.type T)=pure (some newId)) (hne:(some newId != some "object.__new__")=true) :
  Meets (Builtin.«object.__init__» ⟨[self,a],kw⟩) (fun _ R s=>s.TypeIs self T∧R (.ok (.ret .none)) s):=by
 refine Meets.of_wp fun prog w A R s hs=>?_
 obtain ⟨hT,hq⟩:=hs
 repeat (any_goals (first | assumption | wp_step))
 exact ⟨_,rfl,hq⟩
section
variable {prog:Program} {w:World} {A:Around} {E:Value→Shared→Prop} {s:Shared}
theorem call_enum_kw {l:Addr} {items:Array Value} {n:Nat} {t:Tok} {dd:Option Addr} {sl:Array (Option Value)} {Q:Value→Shared→Prop} (hl:s.heap.get? l=some { cls:=.type "tuple", dict:=dd,data:=.seq items n,slots:=sl })
  (hQ:Q (.ref (s.heap.push { cls:=.type "tuple_iterator", data:=.fields #[.ref l,.int 0 0] }).objs.size)
    { s with heap:=(s.heap.push { cls:=.type "tuple_iterator", data:=.fields #[.ref l,.int 0 0] }).push { cls:=.type "enumerate", data:=.fields #[.none,.bool false,.ref s.heap.objs.size,rawInt 1,.none,.none] } }) :
  wpAny (model prog w) A (call (.type "enumerate") [.ref l] [(Str.ofString "start", .int 1 t)]) Q E s:=by
 have ft:=F.called_enumerate
 obtain ⟨c,tl,hmro⟩:=ft.mro
 have hmade:=ft.made
 have hsub:=ft.sub
 have hct:=typeCall_enum_kw (.ref l) (.int 1 t)
 refine wpAny_call (codeAny_of_tree ?_)
 show wpAny _ _ (callAny (.type "enumerate") _) _ _ _
 refine wpAny_pure ⟨Code.quiet_builtin _ (by decide +kernel),codeAny_builtin F.entry_type_call ?_⟩
 rw [Around.under_plain (weight_type_call_type "enumerate" [.ref l] _) (units_type_call_type "enumerate" [.ref l] _)]
 have h1:=ft.notType
 have h2:=ft.canCreate
 repeat (any_goals (first | assumption | wp_step))
 refine codeAny_mono (codeAny_call_builtin (R:=wants (fun obj s₁=>s₁.TypeIs obj "enumerate" ∧ Q obj s₁) E) ft.plain F.entry_enumerate_new (wpAny_of_eq (newCall_enum_kw _ _) (meets_enum_kw l items n t dd sl prog w A.in1 _ s ⟨hl,⟨_,Heap.get?_push_size _ rfl,rfl⟩,hQ⟩))) fun r s₁ hr=>?_
 cases r with
 | error e=>exact hr
 | ok fl =>
  cases fl with
  | ret obj =>
   obtain ⟨hT,hq⟩:=hr
   have hli:=ft.init.lookup
   have hbi:=ft.init.bind obj
   repeat (any_goals (first | assumption | wp_step))
   refine codeAny_mono (codeAny_call_builtin (R:=wants (fun r s₂=>r=.none∧Q obj s₂) E) ft.init.plain F.entry_object_init (ft.init.check _ _ _ _ _ _ _ _ hT (init_enum_kw _ _ _) (init_meets_kw ft.init.lookup ft.made (by decide) prog w A.in1 _ s₁ ⟨hT,rfl,hq⟩))) fun r₂ s₂ hr₂=>?_
   cases r₂ with
   | error e=>exact hr₂
   | ok fl₂ =>
    cases fl₂ with
    | ret r =>
     obtain ⟨rfl,hq⟩:=hr₂
     repeat (any_goals (first | assumption | wp_step))
    | _=>exact hr₂.elim
  | _=>exact hr.elim
end
end L2
namespace L2
open PySem PySem.Spec PyProof.Rows
section
variable {prog:Program} {w:World} {A:Around} {E:Value→Shared→Prop} {s:Shared}
theorem nextOf_tup_item {it t:Addr} {i:Nat} {items:Array Value} {x:Value} {Q:Value→Shared→Prop} (hit:s.heap.IsTupleIter it t i) (ht:s.heap.IsTuple t items) (hx:items[i]?=some x)
  (hQ : ∀ h',h'.IsTupleIter it t (i+1)→Heap.SameBut it s.heap h'→Q x { s with heap:=h' }) : wpAny (model prog w) A (Builtin.SmallTypes.nextOf (.ref it)) Q E s:=by
 obtain ⟨o,ho,hc,hd⟩:=id hit
 obtain ⟨ol,hol,_,nl,hdl⟩:=ht
 unfold Builtin.SmallTypes.nextOf
 refine wpAny_bind (wpAny_callSpecial?_slot (name:=Str.ofString "__next__") hit.typeIs F.slot_tuple_iterator_next (wpAny_call_entry F.slot_tuple_iterator_next hit.typeIs F.entry_tuple_iterator_next ?_ (F.args_tuple_iterator_next_1 _)))
 show wpAny _ _ (field (.ref it) 0 >>= _) _ _ s
 refine wpAny_bind (wpAny_field ho hd (x:=.ref t) rfl ?_)
 show wpAny _ _ (if (Value.ref t == Value.none)=true then _ else _) _ _ s
 rw [if_neg (show ¬ ((Value.ref t == Value.none)=true) from Bool.false_ne_true)]
 show wpAny _ _ (field (.ref it) 1 >>= _) _ _ s
 refine wpAny_bind (wpAny_field ho hd (x:=.int i 0) rfl ?_)
 show wpAny _ _ (seqItems? (.ref t) >>= _) _ _ s
 refine wpAny_bind (wpAny_seqItems hol hdl ?_)
 simp only [Int.toNat_natCast,hx]
 refine wpAny_bind (wpAny_setField ho hd (by simp) (wpAny_pure ⟨x,rfl,wpAny_pure (hQ _ ?_ (Heap.SameBut.update ..))⟩))
 exact ⟨_,Heap.get?_update_self _ ho (Obj.isFreed_of_fields (Obj.data_mapFields hd _)),(Obj.cls_mapFields ..).trans hc,by
  rw [Obj.data_mapFields hd]; simp [rawInt]⟩
theorem nextOf_tup_end {it t:Addr} {i:Nat} {items:Array Value} {Q:Value→Shared→Prop} (hh:A.handled=none) (hit:s.heap.IsTupleIter it t i) (ht:s.heap.IsTuple t items) (hx:items[i]?=none)
  (hE : ∀ h' e,Heap.ExtBut it s.heap h'→(∃ o,h'.get? e=some o∧o.cls=.type "StopIteration")→E (.ref e) { s with heap:=h' }) : wpAny (model prog w) A (Builtin.SmallTypes.nextOf (.ref it)) Q E s:=by
 obtain ⟨o,ho,hc,hd⟩:=id hit
 obtain ⟨ol,hol,_,nl,hdl⟩:=ht
 unfold Builtin.SmallTypes.nextOf
 refine wpAny_bind (wpAny_callSpecial?_slot (name:=Str.ofString "__next__") hit.typeIs F.slot_tuple_iterator_next (wpAny_call_entry F.slot_tuple_iterator_next hit.typeIs F.entry_tuple_iterator_next ?_ (F.args_tuple_iterator_next_1 _)))
 show wpAny _ _ (field (.ref it) 0 >>= _) _ _ s
 refine wpAny_bind (wpAny_field ho hd (x:=.ref t) rfl ?_)
 show wpAny _ _ (if (Value.ref t == Value.none)=true then _ else _) _ _ s
 rw [if_neg (show ¬ ((Value.ref t == Value.none)=true) from Bool.false_ne_true)]
 show wpAny _ _ (field (.ref it) 1 >>= _) _ _ s
 refine wpAny_bind (wpAny_field ho hd (x:=.int i 0) rfl ?_)
 show wpAny _ _ (seqItems? (.ref t) >>= _) _ _ s
 refine wpAny_bind (wpAny_seqItems hol hdl ?_)
 simp only [Int.toNat_natCast,hx]
 refine wpAny_bind (wpAny_rule (wpAny_bind (wpAny_setField ho hd (by simp) ?_)))
 show wpAny _ _ (newExc (.type "StopIteration") [] >>= _) _ _ _
 refine wpAny_bind ?_
 simp only [newExc,newTuple]
 refine wpAny_bind (wpAny_newObj_type ?_ (by size_fits))
 refine wpAny_bind (m:=firstArgMember _ _) (wpAny_of_eq (a:=Value.none) (by first | rfl | (simp only [firstArgMember]; rfl)) ?_)
 refine wpAny_newObj_type ?_ (by size_fits)
 simp only [raiseNew]
 refine wpAny_bind (wpAny_handled ?_)
 first | rw [show A.in1.handled=none from hh] | rw [hh]
 refine wpAny_bind (wpAny_pure (wpAny_throw ?_))
 exact hE _ _ (((Heap.SameBut.update ..).extBut.push _).push _) ⟨_,Heap.get?_push_size _ rfl,rfl⟩
end
theorem draws_tup1 {prog:Program} {w:World} {A:Around} (hh:A.handled=none) (it t:Addr) (hne:t≠it) (items:Array Value) :
  Draws prog w A it [it,t] (items.size+1) (fun j v=>∃ i,j=i+1∧items[i]?=some v) (fun j h=>∃ i,j=i+1∧h.IsTupleIter it t i∧h.IsTuple t items) where
 live:=fun j h ⟨i,_,⟨o,e,_⟩,_⟩=>⟨o,e⟩
 frame:=fun j h h' ⟨i,e,a,b⟩ k=>⟨i,e,a.at fun o q=>k it (by simp) o q,by obtain ⟨o,q,r⟩:=b; exact ⟨o,k t (by simp) o q,r⟩⟩
 item:=fun j s Q E hj ⟨i,e,a,b⟩ hQ=>by
  subst e
  have hi:i<items.size:=by omega
  refine nextOf_tup_item a b (x:=items[i]) (by simp [hi]) fun h' a' sb=>?_
  exact hQ _ h' s.toks ⟨i,rfl,by simp [hi]⟩ ⟨i+1,rfl,a',b.extBut sb.extBut hne⟩ sb
 done:=fun s Q E ⟨i,e,a,b⟩ hE=>by
  have e:i=items.size:=by omega
  subst e
  exact nextOf_tup_end hh a b (by simp) hE
section
variable {X:Cx} {pins:List (Addr × Obj)} {σ : St} {H:Hp} {s:Shared} {h':Heap}
theorem Inv.turnedL {t':Nat} {fp:List Addr} (I:Inv X pins σ H s) (k : ∀ b o,b∉fp→s.heap.get? b=some o→h'.get? b=some o) (hf : ∀ b∈fp,FpOk X pins H b) : Inv X pins σ H { s with heap:=h',toks:=t' }:=by
 have nit : ∀ b u,H b=some u→b∉fp:=fun b u e z=>by rw [(hf b z).1] at e; cases e
 refine I.step (g':=s.gens) (d':=s.drawn) (ch:=fp) (fun b hb=>?_) (fun b o _ _ hc e _=>k b o hc e) (fun b o _ _ hc e _=>⟨o.slots,k b o hc e⟩) (fun _ _ _ _ n=>n)
  (fun b o hc e=>⟨o,k b o hc e⟩) (fun _ _ e=>e) (fun _ _ _ e=>e) (fun b ps e=>⟨#[],by rw [e]; simp⟩) (fun m hm=>?_) (fun b u e=>?_) I.bare
 ·obtain ⟨f0,f1,f2,f3,f4,f5⟩:=hf b hb
  exact ⟨f3,f1,f4,f5⟩
 ·obtain ⟨o,es,ep,ho,r⟩:=hm
  exact ⟨o,es,ep,k _ o (fun z=>(hf _ z).2.1 rfl) ho,r⟩
 ·refine (I.hok b u e).stay (fun c v hc q=>k c v ?_ q) (fun _ q=>q) fun _ _ q=>q
  rcases hc with z | z
  ·rw [z]; exact nit b u e
  ·exact nit c _ z
theorem Inv.track {T:Addr} {o:HO} (I:Inv X pins σ H s) (hf:FpOk X pins H T) (new:ObjOk X.prog X.w (upd H T o) s.heap T o) : Inv X pins σ (upd H T o) s:=by
 obtain ⟨f0,f1,f2,f3,f4,f5⟩:=hf
 have:=I.step (h':=s.heap) (H':=upd H T o) (g':=s.gens) (d':=s.drawn) (t':=s.toks) (ch:=[T]) (fun b hb=>by
  have e:b=T:=by simpa using hb
  subst e
  exact ⟨f3,f1,f4,f5⟩) (fun b o _ _ _ e _=>e) (fun b o _ _ _ e _=>⟨o.slots,e⟩) (fun b o hc _ n=>by rw [upd_ne (fun z=>hc (by simp [z]))]; exact n)
  (fun b o _ e=>⟨o,e⟩) (fun b xs e=>by rw [upd_ne (ne_of_none e f0)]; exact e) (fun b o u e=>by rw [upd_ne (ne_of_none e f0)]; exact e) (fun b ps e=>⟨#[],by rw [upd_ne (ne_of_none e f0),e]; simp⟩) (fun m hm=>hm) (fun b u e=>?_) I.bare
 ·exact this
 ·by_cases hb:b=T
  ·subst hb
   rw [upd_same] at e
   cases e
   exact new
  ·rw [upd_ne hb] at e
   refine (I.hok b u e).stay (fun _ _ _ q=>q) (fun c q=>?_) fun c xs q=>?_
   ·rw [upd_ne (ne_of_none q f0)]; exact q
   ·rw [upd_ne (ne_of_none q f0)]; exact q
end
def Ite1 (K:PySem.W.Frag) (a:Addr) (xs:List V) : It :=
 ⟨fun i H=>i<xs.length∧SqT K H a xs,fun i H x H'=>∃ t v,H t=none∧x=.ref t∧xs[i]?=some v∧H'=upd H t (.tup [.int ((i:Int)+1),v]),fun i H=>i=xs.length∧SqT K H a xs⟩
theorem turn_enum1 {P:Program} {w:World} {K:PySem.W.Frag} {elts:List Expr} {k:Nat} {pos:Pos} (a e it:Addr) (xs:List V) (hei:e≠it) (hae:a≠e) (hai:a≠it) :
  Turn P w K (.Tuple elts k pos) (Ite1 K a xs) [e,it] e (fun i h=>(∃ old,IsEnum h e it (((i+1:Nat) : Int)) old)∧h.IsTupleIter it a i) where
 mem:=by simp
 obj:=fun i h st b hb=>by
  obtain ⟨⟨old,he⟩,⟨o,e2,c,d⟩⟩:=st
  rcases List.mem_cons.mp hb with z | z
  ·subst z
   exact ⟨_,he,fun v z=>by cases z⟩
  ·have z:b=it:=by simpa using z
   subst z
   exact ⟨o,e2,fun v z=>by rw [d] at z; cases z⟩
 keep:=fun i h h' st kk=>⟨by obtain ⟨⟨old,he⟩,_⟩:=st; exact ⟨old,kk e (by simp) _ he⟩,st.2.at fun o q=>kk it (by simp) o q⟩
 item:=by
  intro X hP hw hK hc i pins s σ H E I hf st hg
  subst hP hw hK
  obtain ⟨hi,hq⟩:=hg
  obtain ⟨its,rv,ht,hz⟩:=I.tuple hq
  have hl:=rv.length
  obtain ⟨⟨old,he⟩,hit⟩:=st
  have W:=WalksT.enumerateD (A:=X.A) (draws_tup1 (prog:=X.prog) (w:=X.w) (A:=X.A.in1) (show X.A.in1.handled=none from I.ok.hd hc) it a hai its.toArray) e hei (by simp; exact ⟨hei,hae.symm⟩) (by simp)
  refine W.item (i+1) s _ _ (by simp; omega) ⟨⟨old,he⟩,i,rfl,hit,ht⟩ fun T vals h' tk hPt hsz hT hMid hk=>?_
  obtain ⟨t,x,⟨i',ei,hx⟩,rfl⟩:=hPt
  have ei:i'=i:=by omega
  subst ei
  obtain ⟨v,hv,rvx⟩ : ∃ v,xs[i']?=some v∧RelV v x:=by
   rw [List.getElem?_eq_getElem hi]
   obtain ⟨u,hu,ru⟩:=rv.get (List.getElem?_eq_getElem hi)
   have:its[i']?=some x:=by simpa using hx
   rw [this] at hu
   cases hu
   exact ⟨_,rfl,ru⟩
  refine ⟨.ref T,rfl,W.go elts k pos (i'+1) T _ _ _ hMid fun h'' hSt hk''=>?_⟩
  have hTe:=hMid.2.2.1
  have hTi:=hMid.2.2.2
  have I1:Inv X pins σ H { s with heap:=h'',toks:=tk }:=I.turnedL (fp:=[e,it]) (fun b o hb q=>hk'' b o hb (hk b o hb q)) hf
  have fT:FpOk X pins H T:=I.fpOk hsz (I.hok.fresh hsz)
  have hT':IsTup h'' T #[.int ((i'+1:Nat) : Int) t,x]:=by
   obtain ⟨o,e1,e2,e3⟩:=hT
   exact ⟨o,hk'' T o (by simp; exact ⟨hTe,hTi⟩) e1,e2,e3⟩
  obtain ⟨⟨old',he'⟩,i2,ei2,hit2,_⟩:=hSt
  have ei2:i2=i'+1:=by omega
  subst ei2
  refine ⟨.ref T,upd H T (.tup [.int ((i':Int)+1),v]),I1.track fT ⟨(by show 2≤sizeLine; decide),[.int ((i'+1:Nat) : Int) t,x],.cons ⟨t,by simp⟩ (.cons rvx .nil),hT'⟩,rfl,⟨T,v,fT.1,rfl,hv,rfl⟩,⟨⟨old',he'⟩,hit2⟩,fun b hb=>?_⟩
  have hbT:b≠T:=by
   rcases List.mem_cons.mp hb with z | z
   ·rw [z]; exact hTe.symm
   ·have z:b=it:=by simpa using z
    rw [z]; exact hTi.symm
  rw [upd_ne hbT]
  exact (hf b hb).1
 done:=by
  intro X hP hw hK hc i pins s σ H E I hf st hg
  subst hP hw hK
  obtain ⟨hi,hq⟩:=hg
  obtain ⟨its,rv,ht,hz⟩:=I.tuple hq
  have hl:=rv.length
  obtain ⟨⟨old,he⟩,hit⟩:=st
  have W:=WalksT.enumerateD (A:=X.A) (draws_tup1 (prog:=X.prog) (w:=X.w) (A:=X.A.in1) (show X.A.in1.handled=none from I.ok.hd hc) it a hai its.toArray) e hei (by simp; exact ⟨hei,hae.symm⟩) (by simp)
  have en:i+1=its.toArray.size+1:=by simp; omega
  refine W.done s _ _ ⟨⟨old,by rw [← en]; exact he⟩,i,by omega,hit,ht⟩ fun h' tk hk=>⟨rfl,I.turnedL (fp:=[e,it]) (fun b o hb q=>hk b o hb q) hf⟩
 self:=fun A i s Q E st hQ=>by
  obtain ⟨⟨old,he⟩,_⟩:=st
  exact wpAny_pyIter_enum he hQ
def iEnum1 (K:PySem.W.Frag) (ta:TA) : TI:=fun σ H R=>ta σ H fun vs H1=>∃ (a:Addr) (xs:List V),vs=[.ref a]∧SqT K H1 a xs∧R (Ite1 K a xs) H1
theorem callWith_type_kw {M:Model} {A:Around} {E:Value→Shared→Prop} {s:Shared} {pos:Pos} {T:String} {args:List (Bool × Sem Value)} {kws:List (Option Str × Sem Value)} {Q:Value→Shared→Prop} (hplain:args.any (·.1)=false) (hkw:kws.any (·.1.isNone)=false)
  (h:wpAny M A (evalArgs (.type T) true args kws) (fun a s₁=>wpAny M A (call (.type T) a.pos a.kw) Q E s₁) E s) : wpAny M A (callWith pos (.type T) [] args kws) Q E s:=by
 unfold callWith
 refine wpAny_bind (wpAny_holding (wpAny_mono h (fun a s₁ h₁=>wpAny_bind (wpAny_standAt ?_)) fun _ _ x=>x))
 simp only [hplain,hkw,Bool.or_false]
 refine wpAny_bind (wpAny_pure ?_)
 exact wpAny_bind (wpAny_mono h₁ (fun r s₂ hr=>wpAny_bind (wpAny_holding (wpAny_point (wpAny_pure hr)))) fun _ _ x=>x)
theorem pi_enum1 {X:Cx} {e:Expr} {ta:TA} {p pos kpos cp:Pos} {j kk:Nat} {elts:List Expr} {tp:Pos} (hg:Gl X "enumerate") (hm:X.mg "enumerate" = none) (ha:PA X [e] ta)
  (hs:starEach [e] X.env=[(false,eval e X.env)]:=by rfl) :
  PI X (.Tuple elts kk tp) (.Call (.Name "enumerate" p) [e] [⟨some "start", .Constant (.int 1) j cp,kpos⟩] pos) (iEnum1 X.K ta):=by
 intro pins s σ H R I h
 refine wpAny_Call_Name_kw (ld_blt I hg hm (by decide +kernel:bootBuiltins "enumerate" = some (.type "enumerate")) ?_ (by decide +kernel) (by decide +kernel))
 refine callWith_type_kw (by rw [hs]; rfl) (by rfl) ?_
 have hb:backTo pos (starEach [e] X.env)=(false,eval e X.env) :: []:=by rw [hs]; rfl
 have run:=ha pos pins s σ H _ I h
 rw [hb] at run ⊢
 refine evalArgs_kwB (by rfl) (thn run fun us s1 ⟨vs,H1,I1,r1,a,xs,e1,hq,hR⟩=>?_)
 subst e1
 obtain ⟨u,rfl,ru⟩:=vals1 r1
 cases ru
 have kw:PK X [⟨some "start", .Constant (.int 1) j cp,kpos⟩] (tCons (tC (.int 1)) tNil):=pk_cons pe_int pk_nil
 refine thn (kw pos pins s1 σ H1 (fun vs H2=>vs=[.int 1]∧H2=H1) I1 ⟨rfl,rfl⟩) fun ws s2 ⟨zs,H2,I2,r2,e2,e3⟩=>?_
 subst e2 e3
 obtain ⟨u,rfl,t,rfl⟩:=vals1 r2
 obtain ⟨its,rv,⟨o,ho,hc,n,hd⟩,hz⟩:=I2.tuple hq
 obtain ⟨cls,dd,data,sl⟩:=o
 simp only at hc hd
 subst hc hd
 refine call_enum_kw (items:=its.toArray) (n:=n) (dd:=dd) (sl:=sl) ho ?_
 generalize hh1:s2.heap.push { cls:=.type "tuple_iterator", data:=.fields #[.ref a,.int 0 0] }=g1
 have z1:g1.objs.size=s2.heap.objs.size+1:=by rw [← hh1,Heap.size_push]
 have e0:IsEnum (g1.push { cls:=.type "enumerate", data:=.fields #[.none,.bool false,.ref s2.heap.objs.size,rawInt 1,.none,.none] }) g1.objs.size s2.heap.objs.size 1 .none:=Heap.get?_push_size _ rfl
 have it0:g1.get? s2.heap.objs.size=some { cls:=.type "tuple_iterator", data:=.fields #[.ref a,.int 0 0] }:=by rw [← hh1]; exact Heap.get?_push_size _ rfl
 have k0 : ∀ b o,s2.heap.get? b=some o→(g1.push { cls:=.type "enumerate", data:=.fields #[.none,.bool false,.ref s2.heap.objs.size,rawInt 1,.none,.none] }).get? b=some o:=fun b o q=>Heap.get?_push_of_some _ (by rw [← hh1]; exact Heap.get?_push_of_some _ q)
 have lta : @LT.lt Nat _ a s2.heap.objs.size:=Heap.lt_size ho
 have n1:g1.objs.size≠s2.heap.objs.size:=by rw [z1]; exact Nat.succ_ne_self _
 refine wpAny_pyIter_enum e0 ?_
 refine ⟨g1.objs.size,[g1.objs.size,s2.heap.objs.size],_,_,H2,rfl,I2.kept (t':=s2.toks) k0,turn_enum1 a g1.objs.size s2.heap.objs.size xs n1 (Nat.ne_of_lt (by rw [z1]; exact Nat.lt_succ_of_lt lta)) (Nat.ne_of_lt lta),⟨⟨.none,e0⟩,⟨_,Heap.get?_push_of_some _ it0,rfl,rfl⟩⟩,fun b hb=>?_,hR⟩
 rcases List.mem_cons.mp hb with z | z
 ·rw [z]; exact I2.fpOk (by rw [z1]; exact Nat.le_succ _) (I2.hok.fresh (by rw [z1]; exact Nat.le_succ _))
 ·have z:b=s2.heap.objs.size:=by simpa using z
  rw [z]; exact I2.fpOk (Nat.le_refl _) (I2.hok.fresh (Nat.le_refl _))
end L2
namespace Sw
open PySem L2
def homes (xs:List Int) (hs:List Int) : Nat→List Int
 | 0=>hs
 | i+1=>match xs[i]? with
  | some x=>(homes xs hs i).set (x - 1).toNat ((i:Int)+1)
  | none=>homes xs hs i
def backM (xs:List Int) : List Int:=homes xs (List.replicate xs.length 0) xs.length
theorem homes_length (xs hs:List Int) : ∀ i,(homes xs hs i).length=hs.length
 | 0=>rfl
 | i+1=>by
  unfold homes
  split
  ·rw [List.length_set,homes_length xs hs i]
  ·exact homes_length xs hs i
end Sw
namespace L2
open PySem PySem.Spec PyProof.Rows
theorem comp_by {ix:List (Option Nat)} {g:TG} {tc:TT} {te:TE} {σ : St} {Q:VK} {J:It} {H:Hp} {n:Nat} (Pv:Nat→List V→St→Hp→Prop) (hn:n≤1000000) (h0:Pv 0 [] (startC ix σ) H)
  (hgo : ∀ i ys σ H,i<n→Pv i ys σ H→J.go i H) (hst : ∀ ys σ H,Pv n ys σ H→J.stop n H) (hlen : ∀ i ys σ H,Pv i ys σ H→ys.length≤i)
  (hs : ∀ i ys σ H x H2 (R:St→List V→Hp→Prop),i<n→Pv i ys σ H→J.yld i H x H2→(∀ σ2 ys2 H5,Pv (i+1) ys2 σ2 H5→R σ2 ys2 H5) →
   g x σ H2 fun σ2 H3=>tc σ2 H3 fun b H4=>if b=true then te σ2 H4 fun v H5=>R σ2 (ys++[v]) H5 else R σ2 ys H4)
  (hd : ∀ ys σ' H' p,Pv n ys σ' H'→H' p=none→Q (.ref p) (upd H' p (.lst ys))) : rComp ix g tc te σ Q J H:=by
 have big:(1000000:Nat)<sizeLine:=by decide
 refine ⟨fun i m ys σ' H'=>m=n - i∧i≤n∧Pv i ys σ' H',⟨n,by simp,Nat.zero_le _,h0⟩,?_⟩
 rintro i m ys σ' H' ⟨rfl,hi,p⟩
 have hl:=hlen i ys σ' H' p
 by_cases hlt:i<n
 ·refine .inr ⟨hgo i ys σ' H' hlt p,by omega,fun x H2 y=>?_⟩
  exact hs i ys σ' H' x H2 (fun σ2 ys2 H5=>∃ m',m'<n - i∧(m'=n - (i+1)∧i+1≤n∧Pv (i+1) ys2 σ2 H5)) hlt p y fun σ2 ys2 H5 q=>⟨n - (i+1),by omega,rfl,hlt,q⟩
 ·have e:i=n:=by omega
  subst e
  exact .inl ⟨hst ys σ' H' p,by omega,fun q hq=>hd ys σ' H' q p hq⟩
theorem compL {K:PySem.W.Frag} {ix:List (Option Nat)} {te:TE} {σ : St} {Q:VK} {H:Hp} {a:Addr} {xs:List V} {k:Nat} (Pv:Nat→List V→St→Hp→Prop) (hn:xs.length≤1000000) (h0:Pv 0 [] (startC ix σ) H)
  (hl : ∀ i ys σ H,i≤xs.length→Pv i ys σ H→SqL K H a xs) (hlen : ∀ i ys σ H,Pv i ys σ H→ys.length≤i)
  (hs : ∀ i ys σ H x (R:St→List V→Hp→Prop),xs[i]?=some x→Pv i ys σ H→(∀ σ2 ys2 H5,Pv (i+1) ys2 σ2 H5→R σ2 ys2 H5)→te (σ.set k (some x)) H fun v H5=>R (σ.set k (some x)) (ys++[v]) H5)
  (hd : ∀ ys σ' H' p,Pv xs.length ys σ' H'→H' p=none→Q (.ref p) (upd H' p (.lst ys))) : rComp ix (gName k) tTrue te σ Q (Itl K a) H:=by
 refine comp_by Pv hn h0 (fun i ys σ H hi p=>⟨xs,xs[i],hl i ys σ H (Nat.le_of_lt hi) p,by simp [hi]⟩) (fun ys σ H p=>⟨xs,hl _ ys σ H (Nat.le_refl _) p,Nat.le_refl _⟩) hlen (fun i ys σ H x H2 R hi p y r=>?_) hd
 obtain ⟨rfl,y⟩:=y
 unfold gName tTrue
 simp only [if_true]
 exact hs i ys σ _ x R (y xs (hl i ys σ _ (Nat.le_of_lt hi) p)) p r
theorem compR {ix:List (Option Nat)} {te:TE} {σ : St} {Q:VK} {H:Hp} {lo:Int} {n:Nat} {k:Nat} (Pv:Nat→List V→St→Hp→Prop) (hn:n≤1000000) (h0:Pv 0 [] (startC ix σ) H) (hlen : ∀ i ys σ H,Pv i ys σ H→ys.length≤i)
  (hs : ∀ i ys σ H (R:St→List V→Hp→Prop),i<n→Pv i ys σ H→(∀ σ2 ys2 H5,Pv (i+1) ys2 σ2 H5→R σ2 ys2 H5)→te (σ.set k (some (.int (lo+i)))) H fun v H5=>R (σ.set k (some (.int (lo+i)))) (ys++[v]) H5)
  (hd : ∀ ys σ' H' p,Pv n ys σ' H'→H' p=none→Q (.ref p) (upd H' p (.lst ys))) : rComp ix (gName k) tTrue te σ Q (Itr lo n) H:=by
 refine comp_by Pv hn h0 (fun i ys σ H hi p=>hi) (fun ys σ H p=>Nat.le_refl _) hlen (fun i ys σ H x H2 R hi p y r=>?_) hd
 obtain ⟨rfl,rfl⟩:=y
 unfold gName tTrue
 simp only [if_true]
 exact hs i ys σ _ R hi p r
theorem compLif {K:PySem.W.Frag} {ix:List (Option Nat)} {tc:TT} {te:TE} {σ : St} {Q:VK} {H:Hp} {a:Addr} {xs:List V} {k:Nat} (Pv:Nat→List V→St→Hp→Prop) (hn:xs.length≤1000000) (h0:Pv 0 [] (startC ix σ) H)
  (hl : ∀ i ys σ H,i≤xs.length→Pv i ys σ H→SqL K H a xs) (hlen : ∀ i ys σ H,Pv i ys σ H→ys.length≤i)
  (hs : ∀ i ys σ H x (R:St→List V→Hp→Prop),xs[i]?=some x→Pv i ys σ H→(∀ σ2 ys2 H5,Pv (i+1) ys2 σ2 H5→R σ2 ys2 H5) →
   tc (σ.set k (some x)) H fun b H4=>if b=true then te (σ.set k (some x)) H4 fun v H5=>R (σ.set k (some x)) (ys++[v]) H5 else R (σ.set k (some x)) ys H4)
  (hd : ∀ ys σ' H' p,Pv xs.length ys σ' H'→H' p=none→Q (.ref p) (upd H' p (.lst ys))) : rComp ix (gName k) tc te σ Q (Itl K a) H:=by
 refine comp_by Pv hn h0 (fun i ys σ H hi p=>⟨xs,xs[i],hl i ys σ H (Nat.le_of_lt hi) p,by simp [hi]⟩) (fun ys σ H p=>⟨xs,hl _ ys σ H (Nat.le_refl _) p,Nat.le_refl _⟩) hlen (fun i ys σ H x H2 R hi p y r=>?_) hd
 obtain ⟨rfl,y⟩:=y
 unfold gName
 exact hs i ys σ _ x R (y xs (hl i ys σ _ (Nat.le_of_lt hi) p)) p r
section
variable {X:Cx} {K:PySem.W.Frag} {o e:Expr} {es:List Expr} {to:TE} {t:TA} {name:Str} {apos cpos:Pos} {T id:String} {r:V→List V→Hp→VK→Prop}
theorem pe_bm0K (h:X.K=K) (pa:PlainAttrs T) (slot:Slot T name id) (hty:typeOf (.builtin id)=pure (.type "method_descriptor")) (hm:MtR X id r) (ho:PE X o to)
  (hbase:attributeBase o name X.env (eval o X.env)=eval o X.env:=by rfl) (hline:(apos.endLine == cpos.line)=true:=by rfl) : PE X (.Call (.Attribute o name apos) [] [] cpos) (tBM0 K T r to):=by
 subst h; exact pe_bm0 pa slot hty hm ho hbase hline
theorem pe_bmK (h:X.K=K) (pa:PlainAttrs T) (slot:Slot T name id) (hty:typeOf (.builtin id)=pure (.type "method_descriptor")) (hm:MtR X id r) (ho:PE X o to) (ha:PA X (e :: es) t)
  (hbase:attributeBase o name X.env (eval o X.env)=eval o X.env:=by rfl)
  (hfew:((backTo cpos (starEach (e :: es) X.env)).all (fun x=>!x.1) && (backToKw cpos (keywordEach [] X.env)).all (fun x=>x.1.isSome)
   && decide ((e :: es).length+([] : List Keyword).length+(if ([] : List Keyword).isEmpty then 0 else 1)<30))=true:=by rfl)
  (hline:(apos.endLine == cpos.line)=true:=by rfl) (hs:starEach (e :: es) X.env=(false,eval e X.env) :: starEach es X.env:=by rfl) (hplain:(backTo cpos (starEach es X.env)).any (·.1)=false:=by rfl) :
  PE X (.Call (.Attribute o name apos) (e :: es) [] cpos) (tBM K T r to t):=by
 subst h; exact pe_bm pa slot hty hm ho ha hbase hfew hline hs hplain
theorem sl_listK (h:X.K=K) : SlR X (rSlL K):=by subst h; exact sl_list
end
end L2
namespace Sw
open PySem L2
theorem ivl_nodup (a b:Int) : (ivl a b).Nodup:=by
 unfold ivl
 refine List.Pairwise.map _ ?_ (List.nodup_range (n:=(b - a).toNat))
 intro x y h z
 apply h
 omega
def Ord (n:Int) (xs:List Int) : Prop:=xs.Perm (ivl 1 (n+1))
theorem Ord.length {n:Int} {xs:List Int} (o:Ord n xs) : xs.length=n.toNat:=by
 rw [List.Perm.length_eq o,ivl_length]; congr 1; omega
theorem Ord.mem {n:Int} {xs:List Int} (o:Ord n xs) {x:Int} : x∈xs↔1≤x∧x≤n:=by
 rw [List.Perm.mem_iff o,mem_ivl]; omega
theorem Ord.nodup {n:Int} {xs:List Int} (o:Ord n xs) : xs.Nodup:=(List.Perm.nodup_iff o).mpr (ivl_nodup _ _)
theorem erase_perm {α : Type} : ∀ {l:List α} {k:Nat} {y : α},l[k]?=some y→(y :: l.eraseIdx k).Perm l
 | [],_,_,h=>by simp at h
 | a :: l,0,y,h=>by simp at h; subst h; exact List.Perm.refl _
 | a :: l,k+1,y,h=>by
  have q:=erase_perm (l:=l) (k:=k) (y:=y) (by simpa using h)
  rw [List.eraseIdx_cons_succ]
  exact (List.Perm.swap a y _).trans (q.cons a)
theorem pop_perm {n:Int} {fs ls:List Int} {k:Nat} {y:Int} (o:Ord n (fs++ls)) (h:ls[k]?=some y) : Ord n ((fs++[y])++ls.eraseIdx k):=by
 unfold Ord at *
 rw [List.append_assoc,List.singleton_append]
 exact ((erase_perm h).append_left fs).trans o
def nxt (xs:List Int) (x:Int) : Int:=xs.getD ((xs.idxOf x+1) % xs.length) 0
theorem nxt_at {xs:List Int} (nd:xs.Nodup) {j:Nat} {x:Int} (h:xs[j]?=some x) : nxt xs x=xs.getD ((j+1) % xs.length) 0:=by
 obtain ⟨h1,rfl⟩:=List.getElem?_eq_some_iff.mp h
 unfold nxt
 rw [List.Nodup.idxOf_getElem nd]
theorem ord_plain (n:Int) : Ord n (ivl 1 (n+1)):=List.Perm.refl _
end Sw
namespace L2
open PySem PySem.Spec PyProof.Rows
section
variable {X:Cx} {K:PySem.W.Frag}
theorem vals_toks : ∀ {ns:List Int} {us:List Value},Vals (ns.map V.int) us→∃ xs:List (Int × Tok),us=xs.map (fun p=>Value.int p.1 p.2)∧xs.map (·.1)=ns
 | [],us,r=>by cases r; exact ⟨[],rfl,rfl⟩
 | n :: ns,us,r=>by
  cases r with
  | cons r1 r2 =>
   obtain ⟨t,rfl⟩:=r1
   obtain ⟨xs,rfl,e⟩:=vals_toks r2
   exact ⟨(n,t) :: xs,rfl,by rw [List.map_cons,e]⟩
def rMinL (K:PySem.W.Frag) : List V→Hp→VK→Prop:=fun xs H Q=>∃ (p:Addr) (ns:List Int) (M:Int),xs=[.ref p]∧SqL K H p (ns.map V.int)∧M∈ns∧(∀ a∈ns,M≤a)∧Q (.int M) H
theorem call_minL (hc:X.calm=true) (hK:X.K=K) : CallR X (.builtin "min") (rMinL K):=by
 subst hK
 intro pins s σ H xs us Q I r h
 obtain ⟨p,ns,M,rfl,hl,hM,hm,q⟩:=h
 obtain ⟨u,rfl,rx⟩:=vals1 r
 cases rx
 obtain ⟨its,rv,pl,hz⟩:=I.list hl
 obtain ⟨xs,rfl,e⟩:=vals_toks rv
 have hpos : 0<xs.length:=by
  rw [← List.length_map (f:=(·.1)),e]
  exact List.length_pos_of_mem hM
 refine min_intList (l:=p) (xs:=xs.toArray) (I.ok.hd hc) ?_ (by simpa using hpos) fun v h' tk hv hk=>?_
 ·have:=pl.isList
  unfold intItems
  simpa using this
 ·have num : ∀ i,numAt xs.toArray i=ns.getD i 0:=by
   intro i
   unfold numAt
   rw [List.getElem?_toArray,← e,List.getD_eq_getElem?_getD,List.getElem?_map]
  obtain ⟨b1,b2⟩:=argBest_lt (numAt xs.toArray) (xs.toArray.size - 1)
  generalize argBest (fun i j=>decide (numAt xs.toArray i<numAt xs.toArray j)) (xs.toArray.size - 1)=k at b1 b2 hv
  have lk:k<xs.length:=by simp at b1; omega
  have hv':v=Value.int xs[k].1 xs[k].2:=by
   unfold intItems at hv
   simp at hv
   rw [List.getElem?_eq_getElem lk] at hv
   obtain ⟨a,b,h1,h2⟩:=hv
   have h1:=Option.some.inj h1
   rw [h1]
   exact h2.symm
  subst hv'
  have lx:xs.length=ns.length:=by rw [← e,List.length_map]
  have ek:xs[k].1=ns[k]:=by
   have:(xs.map (·.1))[k]'(by rw [List.length_map]; exact lk)=ns[k]:=by simp only [e]
   simpa using this
  have eM:xs[k].1=M:=by
   rw [ek]
   refine Int.le_antisymm ?_ (hm _ (List.getElem_mem _))
   obtain ⟨j,hj,ej⟩:=List.mem_iff_getElem.mp hM
   have:=b2 j (by simp; omega)
   rw [num,num] at this
   rw [← ej]
   rw [List.getD_eq_getElem?_getD,List.getElem?_eq_getElem (by omega),List.getD_eq_getElem?_getD,List.getElem?_eq_getElem hj] at this
   exact this
  rw [eM]
  refine ⟨.int M,H,?_,⟨_,rfl⟩,q⟩
  exact (I.kept (t':=s.toks) (h':=h') fun b o e=>hk b o e).tok tk
end
end L2
namespace L2
open PySem PySem.Spec PyProof.Rows
section
variable {X:Cx} {K:PySem.W.Frag}
theorem ints_are : ∀ {ns:List Int} {us:List Value},Vals (ns.map V.int) us→IntsAre us ns
 | [],us,r=>by cases r; exact .nil
 | n :: ns,us,r=>by
  cases r with
  | cons r1 r2 =>
   obtain ⟨t,rfl⟩:=r1
   exact .cons n t (ints_are r2)
theorem vals_are : ∀ {us:List Value} {ns:List Int},IntsAre us ns→Vals (ns.map V.int) us
 | _,_,.nil=>.nil
 | _,_,.cons n t r=>.cons ⟨t,rfl⟩ (vals_are r)
def rSort (K:PySem.W.Frag) : List V→Hp→VK→Prop:=fun xs H Q=>∃ (p:Addr) (ns:List Int),xs=[.ref p]∧SqL K H p (ns.map V.int)∧ns.length<64∧∀ (l:Addr) (ns':List Int),H l=none→ns'.Perm ns→ns'.Pairwise (·≤·)→Q (.ref l) (upd H l (.lst (ns'.map V.int)))
theorem call_sorted (hK:X.K=K) : CallR X (.builtin "sorted") (rSort K):=by
 subst hK
 intro pins s σ H xs us Q I r h
 obtain ⟨p,ns,rfl,hl,hz,q⟩:=h
 obtain ⟨u,rfl,rx⟩:=vals1 r
 cases rx
 obtain ⟨its,rv,pl,_⟩:=I.list hl
 have len:=rv.length
 rw [List.length_map] at len
 refine sorted_ints pl.isList (ints_are rv) (by omega) fun out ns' ia pm pw=>?_
 obtain ⟨e,he⟩:=sortedAll_at s.heap its out
 have lp:=pm.length_eq
 have big:(64:Nat)≤sizeLine:=by decide
 refine ⟨.ref (s.heap.objs.size+1),_,I.laid (o:=.lst (ns'.map V.int)) (fun b u e=>sortedAll_old e) (Nat.le_succ _) ⟨by rw [List.length_map]; omega,out.toList,e,vals_are ia,by simpa using he⟩,rfl,q _ ns' (I.hok.fresh (Nat.le_succ _)) pm pw⟩
end
def Ite0 (K:PySem.W.Frag) (a:Addr) (xs:List V) : It :=
 ⟨fun i H=>i<xs.length∧SqL K H a xs,fun i H x H'=>∃ t v,H t=none∧x=.ref t∧xs[i]?=some v∧H'=upd H t (.tup [.int (i:Int),v]),fun i H=>i=xs.length∧SqL K H a xs⟩
theorem turn_enum0 {P:Program} {w:World} {K:PySem.W.Frag} {elts:List Expr} {k:Nat} {pos:Pos} (a e it:Addr) (xs:List V) (hei:e≠it) (hae:a≠e) (hai:a≠it) :
  Turn P w K (.Tuple elts k pos) (Ite0 K a xs) [e,it] e (fun i h=>(∃ old,IsEnum h e it (i:Int) old)∧h.IsListIter it a i) where
 mem:=by simp
 obj:=fun i h st b hb=>by
  obtain ⟨⟨old,he⟩,⟨o,e2,c,d⟩⟩:=st
  rcases List.mem_cons.mp hb with z | z
  ·subst z
   exact ⟨_,he,fun v z=>by cases z⟩
  ·have z:b=it:=by simpa using z
   subst z
   exact ⟨o,e2,fun v z=>by rw [d] at z; cases z⟩
 keep:=fun i h h' st kk=>⟨by obtain ⟨⟨old,he⟩,_⟩:=st; exact ⟨old,kk e (by simp) _ he⟩,st.2.at fun o q=>kk it (by simp) o q⟩
 item:=by
  intro X hP hw hK hc i pins s σ H E I hf st hg
  subst hP hw hK
  obtain ⟨hi,hq⟩:=hg
  obtain ⟨its,rv,ht,hz⟩:=I.list hq
  have hl:=rv.length
  obtain ⟨⟨old,he⟩,hit⟩:=st
  have W:=WalksT.enumerate (prog:=X.prog) (w:=X.w) (A:=X.A) (I.ok.hd hc) e it a hei hae hai its.toArray
  refine W.item i s _ _ (by simp; omega) ⟨⟨old,he⟩,hit,ht.isList⟩ fun T vals h' tk hPt hsz hT hMid hk=>?_
  obtain ⟨t,x,hx,rfl⟩:=hPt
  obtain ⟨v,hv,rvx⟩ : ∃ v,xs[i]?=some v∧RelV v x:=by
   rw [List.getElem?_eq_getElem hi]
   obtain ⟨u,hu,ru⟩:=rv.get (List.getElem?_eq_getElem hi)
   have:its[i]?=some x:=by simpa using hx
   rw [this] at hu
   cases hu
   exact ⟨_,rfl,ru⟩
  refine ⟨.ref T,rfl,W.go elts k pos i T _ _ _ hMid fun h'' hSt hk''=>?_⟩
  have hTe:=hMid.2.2.2.1
  have hTi:=hMid.2.2.2.2
  have I1:Inv X pins σ H { s with heap:=h'',toks:=tk }:=I.turnedL (fp:=[e,it]) (fun b o hb q=>hk'' b o hb (hk b o hb q)) hf
  have fT:FpOk X pins H T:=I.fpOk hsz (I.hok.fresh hsz)
  have hT':IsTup h'' T #[.int (i:Int) t,x]:=by
   obtain ⟨o,e1,e2,e3⟩:=hT
   exact ⟨o,hk'' T o (by simp; exact ⟨hTe,hTi⟩) e1,e2,e3⟩
  obtain ⟨⟨old',he'⟩,hit2,_⟩:=hSt
  refine ⟨.ref T,upd H T (.tup [.int (i:Int),v]),I1.track fT ⟨(by show 2≤sizeLine; decide),[.int (i:Int) t,x],.cons ⟨t,rfl⟩ (.cons rvx .nil),hT'⟩,rfl,⟨T,v,fT.1,rfl,hv,rfl⟩,⟨⟨old',he'⟩,hit2⟩,fun b hb=>?_⟩
  have hbT:b≠T:=by
   rcases List.mem_cons.mp hb with z | z
   ·rw [z]; exact hTe.symm
   ·have z:b=it:=by simpa using z
    rw [z]; exact hTi.symm
  rw [upd_ne hbT]
  exact (hf b hb).1
 done:=by
  intro X hP hw hK hc i pins s σ H E I hf st hg
  subst hP hw hK
  obtain ⟨hi,hq⟩:=hg
  obtain ⟨its,rv,ht,hz⟩:=I.list hq
  have hl:=rv.length
  obtain ⟨⟨old,he⟩,hit⟩:=st
  have W:=WalksT.enumerate (prog:=X.prog) (w:=X.w) (A:=X.A) (I.ok.hd hc) e it a hei hae hai its.toArray
  have en:i=its.toArray.size:=by simp; omega
  refine W.done s _ _ (by rw [← en]; exact ⟨⟨old,he⟩,hit,ht.isList⟩) fun h' tk hk=>⟨rfl,I.turnedL (fp:=[e,it]) (fun b o hb q=>hk b o hb q) hf⟩
 self:=fun A i s Q E st hQ=>by
  obtain ⟨⟨old,he⟩,_⟩:=st
  exact wpAny_pyIter_enum he hQ
def iEnum0 (K:PySem.W.Frag) (ta:TA) : TI:=fun σ H R=>ta σ H fun vs H1=>∃ (a:Addr) (xs:List V),vs=[.ref a]∧SqL K H1 a xs∧R (Ite0 K a xs) H1
theorem pi_enum0 {X:Cx} {K:PySem.W.Frag} {e:Expr} {ta:TA} {p pos:Pos} {kk:Nat} {elts:List Expr} {tp:Pos} (hK:X.K=K) (hg:Gl X "enumerate") (hm:X.mg "enumerate" = none) (ha:PA X [e] ta)
  (hs:starEach [e] X.env=[(false,eval e X.env)]:=by rfl) :
  PI X (.Tuple elts kk tp) (.Call (.Name "enumerate" p) [e] [] pos) (iEnum0 K ta):=by
 subst hK
 intro pins s σ H R I h
 refine Call_ (ld_blt I hg hm (by decide +kernel:bootBuiltins "enumerate" = some (.type "enumerate")) (PyProof.Rows.callWith_type1 (thn (ha pos pins s σ H _ I h) fun us s2 ⟨vs,H2,I2,r1,a,xs,e1,hq,hR⟩=>?_) hs rfl) (by decide +kernel) (by decide +kernel))
 subst e1
 obtain ⟨u,rfl,ru⟩:=vals1 r1
 cases ru
 obtain ⟨its,rv,pl,hz⟩:=I2.list hq
 refine call_enumerate_list pl.isList fun h' e0 it0 sz k0=>?_
 have lta : @LT.lt Nat _ a s2.heap.objs.size:=by obtain ⟨o,n,e,_⟩:=pl; exact Heap.lt_size e
 refine wpAny_pyIter_enum e0 ?_
 refine ⟨s2.heap.objs.size+1,[s2.heap.objs.size+1,s2.heap.objs.size],_,_,H2,rfl,I2.kept (t':=s2.toks) k0,turn_enum0 a (s2.heap.objs.size+1) s2.heap.objs.size xs (Nat.succ_ne_self _) (Nat.ne_of_lt (Nat.lt_succ_of_lt lta)) (Nat.ne_of_lt lta),⟨⟨.none,e0⟩,it0⟩,fun b hb=>?_,hR⟩
 rcases List.mem_cons.mp hb with z | z
 ·rw [z]; exact I2.fpOk (Nat.le_succ _) (I2.hok.fresh (Nat.le_succ _))
 ·have z:b=s2.heap.objs.size:=by simpa using z
  rw [z]; exact I2.fpOk (Nat.le_refl _) (I2.hok.fresh (Nat.le_refl _))
end L2
namespace L2
open PySem PySem.Spec PyProof.Rows
def kitB (T C:String) : Option Bool:=if (Value.type T == Value.type C)=true then some true else if PySem.W.kitMeta C=true then (fastBuiltinMro T).map (·.contains (Value.type C)) else none
theorem kit_type (K:PySem.W.Frag) {T C:String} {b:Bool} (h:kitB T C=some b) : PySem.W.kitOne K (.type T) (.type C)=some b:=h
theorem kit_int_bool (K:PySem.W.Frag) : PySem.W.kitOne K (.type "int") (.type "bool")=some false:=kit_type K (by decide +kernel)
end L2
namespace Sw
open PySem L2
def ld (xs:List Int) (x:Int) : Int:=xs.getD (x - 1).toNat 0
def itn (f:Int→Int) : Nat→Int→Int
 | 0,x=>x
 | k+1,x=>f (itn f k x)
theorem itn_add (f:Int→Int) (j:Nat) (x:Int) : ∀ k,itn f (k+j) x=itn f k (itn f j x)
 | 0=>by rw [Nat.zero_add]; rfl
 | k+1=>by rw [Nat.succ_add]; show f _=f _; rw [itn_add f j x k]
theorem ld_get {n:Int} {xs:List Int} (o:Ord n xs) {x:Int} (h1 : 1≤x) (h2:x≤n) : xs[(x - 1).toNat]?=some (ld xs x):=by
 have:=o.length
 unfold ld
 rw [List.getD_eq_getElem?_getD,List.getElem?_eq_getElem (by omega)]
 rfl
theorem ld_in {n:Int} {xs:List Int} (o:Ord n xs) {x:Int} (h1 : 1≤x) (h2:x≤n) : 1≤ld xs x∧ld xs x≤n:=o.mem.mp (List.mem_of_getElem? (ld_get o h1 h2))
theorem ld_inj {n:Int} {xs:List Int} (o:Ord n xs) {x y:Int} (h1 : 1≤x) (h2:x≤n) (h3 : 1≤y) (h4:y≤n) (e:ld xs x=ld xs y) : x=y:=by
 have a:=ld_get o h1 h2
 have b:=ld_get o h3 h4
 rw [e] at a
 obtain ⟨p,pa⟩:=List.getElem?_eq_some_iff.mp a
 obtain ⟨q,qa⟩:=List.getElem?_eq_some_iff.mp b
 have:=(List.getElem_inj (i:=(x - 1).toNat) (j:=(y - 1).toNat) (h₀:=p) (h₁:=q) o.nodup).mp (pa.trans qa.symm)
 omega
theorem itn_in {n:Int} {xs:List Int} (o:Ord n xs) {x:Int} (h1 : 1≤x) (h2:x≤n) : ∀ k,1≤itn (ld xs) k x∧itn (ld xs) k x≤n
 | 0=>⟨h1,h2⟩
 | k+1=>ld_in o (itn_in o h1 h2 k).1 (itn_in o h1 h2 k).2
theorem itn_inj {n:Int} {xs:List Int} (o:Ord n xs) {x y:Int} (h1 : 1≤x) (h2:x≤n) (h3 : 1≤y) (h4:y≤n) : ∀ k,itn (ld xs) k x=itn (ld xs) k y→x=y
 | 0,e=>e
 | k+1,e=>itn_inj o h1 h2 h3 h4 k (ld_inj o (itn_in o h1 h2 k).1 (itn_in o h1 h2 k).2 (itn_in o h3 h4 k).1 (itn_in o h3 h4 k).2 e)
theorem ex_per {n:Int} {xs:List Int} (o:Ord n xs) {x:Int} (h1 : 1≤x) (h2:x≤n) : ∃ k,k<n.toNat∧itn (ld xs) (k+1) x=x:=by
 apply Classical.byContradiction
 intro no
 have hne : ∀ i j,i<j→j≤n.toNat→itn (ld xs) i x≠itn (ld xs) j x:=by
  intro i j hij hj e
  apply no
  refine ⟨j - i - 1,by omega,?_⟩
  have e2:itn (ld xs) (i+(j - i)) x=itn (ld xs) i (itn (ld xs) (j - i) x):=itn_add _ _ _ _
  rw [show i+(j - i)=j by omega,← e] at e2
  have q:=itn_in o h1 h2 (j - i)
  have:=itn_inj o h1 h2 q.1 q.2 i e2
  rw [show j - i - 1+1=j - i by omega]
  exact this.symm
 have nd:((List.range (n.toNat+1)).map (fun k=>itn (ld xs) k x)).Nodup:=by
  rw [List.Nodup,List.pairwise_iff_getElem]
  intro i j hi hj hij
  simp only [List.getElem_map,List.getElem_range]
  simp at hj
  exact hne i j hij (by omega)
 have le:=List.Nodup.length_le_of_subset nd (l₂:=ivl 1 (n+1)) (by
  intro y hy
  obtain ⟨k,_,rfl⟩:=List.mem_map.mp hy
  have:=itn_in o h1 h2 k
  exact mem_ivl.mpr (by omega))
 rw [List.length_map,List.length_range,ivl_length] at le
 omega
def per (xs:List Int) (x:Int) : Nat:=(List.range xs.length).findIdx (fun k=>itn (ld xs) (k+1) x == x)+1
def orb (xs:List Int) (x:Int) : List Int:=(List.range (per xs x)).map fun k=>itn (ld xs) k x
theorem per_le {n:Int} {xs:List Int} (o:Ord n xs) {x:Int} (h1 : 1≤x) (h2:x≤n) : per xs x≤n.toNat:=by
 obtain ⟨k,hk,e⟩:=ex_per o h1 h2
 have:=List.findIdx_lt_length_of_exists (xs:=List.range xs.length) (p:=fun k=>itn (ld xs) (k+1) x == x) ⟨k,List.mem_range.mpr (by rw [o.length]; exact hk),by simpa using e⟩
 rw [List.length_range,o.length] at this
 unfold per
 rw [o.length]
 omega
theorem per_eq {n:Int} {xs:List Int} (o:Ord n xs) {x:Int} (h1 : 1≤x) (h2:x≤n) : itn (ld xs) (per xs x) x=x:=by
 obtain ⟨k,hk,e⟩:=ex_per o h1 h2
 have lt:=List.findIdx_lt_length_of_exists (xs:=List.range xs.length) (p:=fun k=>itn (ld xs) (k+1) x == x) ⟨k,List.mem_range.mpr (by rw [o.length]; exact hk),by simpa using e⟩
 have:=List.findIdx_getElem (xs:=List.range xs.length) (p:=fun k=>itn (ld xs) (k+1) x == x) (w:=lt)
 rw [List.getElem_range] at this
 unfold per
 simpa using this
theorem per_ne {xs:List Int} {x:Int} {j:Nat} (h0 : 0<j) (h:j<per xs x) : itn (ld xs) j x≠x:=by
 unfold per at h
 have lt:j - 1<(List.range xs.length).findIdx (fun k=>itn (ld xs) (k+1) x == x):=by omega
 have:=List.not_of_lt_findIdx lt
 rw [List.getElem_range] at this
 rw [show j - 1+1=j by omega] at this
 simpa using this
theorem itn_mod {n:Int} {xs:List Int} (o:Ord n xs) {x:Int} (h1 : 1≤x) (h2:x≤n) (k:Nat) : ∃ j,j<per xs x∧itn (ld xs) k x=itn (ld xs) j x:=by
 induction k with
 | zero=>exact ⟨0,by unfold per; omega,rfl⟩
 | succ k ih =>
  obtain ⟨j,hj,e⟩:=ih
  by_cases h:j+1<per xs x
  ·exact ⟨j+1,h,by show ld xs _=ld xs _; rw [e]⟩
  ·refine ⟨0,by unfold per; omega,?_⟩
   show ld xs _=x
   rw [e]
   have:j+1=per xs x:=by omega
   have q:=per_eq o h1 h2
   rw [← this] at q
   exact q
theorem orb_mem {n:Int} {xs:List Int} (o:Ord n xs) {x:Int} (h1 : 1≤x) (h2:x≤n) {y:Int} : y∈orb xs x↔∃ k,itn (ld xs) k x=y:=by
 unfold orb
 rw [List.mem_map]
 constructor
 ·rintro ⟨k,_,e⟩
  exact ⟨k,e⟩
 ·rintro ⟨k,e⟩
  obtain ⟨j,hj,e2⟩:=itn_mod o h1 h2 k
  exact ⟨j,List.mem_range.mpr hj,e2.symm.trans e⟩
def least (xs:List Int) (x:Int) : Bool:=(orb xs x).all fun y=>decide (x≤y)
theorem least_iff {n:Int} {xs:List Int} (o:Ord n xs) {x:Int} (h1 : 1≤x) (h2:x≤n) : least xs x=true↔∀ k,x≤itn (ld xs) k x:=by
 unfold least
 rw [List.all_eq_true]
 constructor
 ·intro h k
  exact of_decide_eq_true (h _ ((orb_mem o h1 h2).mpr ⟨k,rfl⟩))
 ·intro h y hy
  obtain ⟨k,rfl⟩:=(orb_mem o h1 h2).mp hy
  exact decide_eq_true (h k)
def rndM (n:Int) (xs:List Int) : List (List Int):=((ivl 1 (n+1)).filter (least xs)).map (orb xs)
theorem map_ord {n:Int} {xs:List Int} (o:Ord n xs) {e:Int × Int} (h : 1≤e.1∧e.1<e.2∧e.2≤n) : Ord n (xs.map (swp · e)):=by
 have nd:(xs.map (swp · e)).Nodup:=by
  refine List.Pairwise.map _ ?_ o.nodup
  intro a b ne z
  apply ne
  have:=congrArg (swp · e) z
  simpa [swp_swp] using this
 refine (List.perm_ext_iff_of_nodup nd (ivl_nodup _ _)).mpr fun y=>?_
 rw [mem_ivl,List.mem_map]
 constructor
 ·rintro ⟨x,hx,rfl⟩
  have hx:=o.mem.mp hx
  have:=swp_in h hx.1 hx.2
  omega
 ·rintro ⟨a,b⟩
  have:=swp_in h a (by omega)
  exact ⟨swp y e,o.mem.mpr this,swp_swp _ _⟩
theorem ld_map {n:Int} {xs:List Int} (o:Ord n xs) (f:Int→Int) {x:Int} (h1 : 1≤x) (h2:x≤n) : ld (xs.map f) x=f (ld xs x):=by
 have g:=ld_get o h1 h2
 show (xs.map f).getD _ 0=_
 rw [List.getD_eq_getElem?_getD,List.getElem?_map,g]
 rfl
theorem ld_led {n:Int} {row:List (Int × Int)} {x:Int} (h1 : 1≤x) (h2:x≤n) : ld (ledM n row) x=go row x:=by
 unfold ld
 rw [List.getD_eq_getElem?_getD,ledM_get (by omega)]
 rw [show 1+(((x - 1).toNat:Nat) : Int)=x by omega]
 rfl
theorem ord_ext {n:Int} {xs ys:List Int} (a:xs.length=n.toNat) (b:ys.length=n.toNat) (h : ∀ x,1≤x→x≤n→ld xs x=ld ys x) : xs=ys:=by
 apply List.ext_getElem
 ·rw [a,b]
 intro i h1 h2
 have:=h (1+i) (by omega) (by omega)
 unfold ld at this
 rw [show (1+(i:Int) - 1).toNat=i by omega,List.getD_eq_getElem?_getD,List.getD_eq_getElem?_getD,List.getElem?_eq_getElem h1,List.getElem?_eq_getElem h2] at this
 exact this
end Sw
namespace Sw
open PySem L2
def homeS:Nat→List Int→List (Int × Int)
 | 0,_=>[]
 | m+1,xs=>if ld xs ((m:Int)+1)=(m:Int)+1 then homeS m xs else homeS m (xs.map (swp · (ld xs ((m:Int)+1),(m:Int)+1)))++[(ld xs ((m:Int)+1),(m:Int)+1)]
def Fix (n:Int) (m:Nat) (xs:List Int) : Prop:=∀ x,(m:Int)<x→x≤n→ld xs x=x
theorem step_lt {n:Int} {xs:List Int} {m:Nat} (o:Ord n xs) (f:Fix n (m+1) xs) (hm:(m:Int)+1≤n) (ne:ld xs ((m:Int)+1)≠(m:Int)+1) : 1≤ld xs ((m:Int)+1)∧ld xs ((m:Int)+1)<(m:Int)+1:=by
 have r:=ld_in o (x:=(m:Int)+1) (by omega) hm
 refine ⟨r.1,?_⟩
 apply Classical.byContradiction
 intro h
 have e:=f (ld xs ((m:Int)+1)) (by omega) r.2
 have:=ld_inj o (x:=ld xs ((m:Int)+1)) (y:=(m:Int)+1) r.1 r.2 (by omega) hm e
 omega
theorem swp_ne {x:Int} {e:Int × Int} (h1:x≠e.1) (h2:x≠e.2) : swp x e=x:=by
 unfold swp; rw [if_neg h1,if_neg h2]
theorem step_fix {n:Int} {xs:List Int} {m:Nat} (o:Ord n xs) (f:Fix n (m+1) xs) (hm:(m:Int)+1≤n) (ne:ld xs ((m:Int)+1)≠(m:Int)+1) : Fix n m (xs.map (swp · (ld xs ((m:Int)+1),(m:Int)+1))):=by
 intro x h1 h2
 rw [ld_map o _ (by omega) h2]
 have lt:=step_lt o f hm ne
 by_cases h:x=(m:Int)+1
 ·rw [h]; unfold swp; rw [if_pos rfl]
 ·have e:=f x (by omega) h2
  rw [e]
  exact swp_ne (by dsimp only; omega) (by dsimp only; exact h)
theorem fix_down {n:Int} {xs:List Int} {m:Nat} (f:Fix n (m+1) xs) (e:ld xs ((m:Int)+1)=(m:Int)+1) : Fix n m xs:=by
 intro x h1 h2
 by_cases h:x=(m:Int)+1
 ·rw [h]; exact e
 ·exact f x (by omega) h2
inductive Rise:Int→List (Int × Int)→Prop
 | nil {m:Int} : Rise m []
 | snoc {m a b:Int} {r:List (Int × Int)} : Rise (b - 1) r→1≤a→a<b→b≤m→Rise m (r++[(a,b)])
theorem Rise.mono {m m':Int} {r:List (Int × Int)} (h:Rise m r) (l:m≤m') : Rise m' r:=by
 cases h with
 | nil=>exact .nil
 | snoc a b c d=>exact .snoc a b c (by omega)
theorem homeS_rise {n:Int} : ∀ (m:Nat) (xs:List Int),(m:Int)≤n→Ord n xs→Fix n m xs→Rise m (homeS m xs)
 | 0,xs,_,o,f=>.nil
 | m+1,xs,hm,o,f=>by
  unfold homeS
  have hm':(m:Int)+1≤n:=by omega
  split
  ·rename_i e
   exact (homeS_rise m xs (by omega) o (fix_down f e)).mono (by omega)
  ·rename_i ne
   have lt:=step_lt o f hm' ne
   have gd : 1≤(ld xs ((m:Int)+1),(m:Int)+1).1∧(ld xs ((m:Int)+1),(m:Int)+1).1<(ld xs ((m:Int)+1),(m:Int)+1).2∧(ld xs ((m:Int)+1),(m:Int)+1).2≤n:=⟨lt.1,lt.2,hm'⟩
   exact .snoc ((homeS_rise m _ (by omega) (map_ord o gd) (step_fix o f hm' ne)).mono (by omega)) lt.1 lt.2 (by omega)
theorem Rise.go_fix {m:Int} {r:List (Int × Int)} (h:Rise m r) : ∀ {x:Int},m<x→go r x=x:=by
 induction h with
 | nil=>intro x hx; rfl
 | snoc a b c d ih =>
  intro x hx
  rw [go_append,ih (by omega)]
  exact swp_ne (by dsimp only; omega) (by dsimp only; omega)
theorem homeS_of {n:Int} : ∀ (m:Nat) (r:List (Int × Int)),(m:Int)≤n→Rise m r→homeS m (ledM n r)=r
 | 0,r,_,h=>by
  cases h with
  | nil=>rfl
  | snoc a b c d=>omega
 | m+1,r,hm,h=>by
  unfold homeS
  rw [ld_led (by omega) (by omega)]
  cases h with
  | nil=>rw [if_pos (show go [] ((m:Int)+1)=(m:Int)+1 from rfl)]; exact homeS_of m [] (by omega) .nil
  | @snoc _ a b r' h' ha hb hc =>
   by_cases e:b=(m:Int)+1
   ·subst e
    have g1:go (r'++[(a,(m:Int)+1)]) ((m:Int)+1)=a:=by
     rw [go_append,h'.go_fix (by omega)]
     show swp _ _=a
     unfold swp
     rw [if_neg (by dsimp only; omega),if_pos rfl]
    rw [g1,if_neg (by omega)]
    have e2:(ledM n (r'++[(a,(m:Int)+1)])).map (swp · (a,(m:Int)+1))=ledM n r':=by
     unfold ledM
     rw [List.map_map]
     apply List.map_congr_left
     intro x _
     show swp (go (r'++[(a,(m:Int)+1)]) x) _=_
     rw [go_append]
     exact swp_swp _ _
    rw [e2,homeS_of m r' (by omega) (h'.mono (by omega))]
   ·have hr:Rise (m:Int) (r'++[(a,b)]):=.snoc h' ha hb (by omega)
    rw [if_pos (hr.go_fix (by omega))]
    exact homeS_of m _ (by omega) hr
def cnt (n:Int) (xs:List Int) : Nat:=((ivl 1 (n+1)).filter (least xs)).length
theorem filter_one {α : Type} [DecidableEq α] {p q : α→Bool} {g : α} (hp:p g=false) (hq:q g=true) : ∀ (l:List α),l.Nodup→g∈l→(∀ x∈l,x≠g→p x=q x)→(l.filter q).length=(l.filter p).length+1
 | [],_,h,_=>by cases h
 | a :: l,nd,h,k=>by
  rw [List.nodup_cons] at nd
  by_cases e:a=g
  ·subst e
   rw [List.filter_cons_of_pos hq,List.filter_cons_of_neg (by rw [hp]; decide),List.length_cons]
   congr 1
   congr 1
   apply List.filter_congr
   intro x hx
   exact (k x (List.mem_cons_of_mem _ hx) (by intro z; subst z; exact nd.1 hx)).symm
  ·have ih:=filter_one hp hq l nd.2 (by cases h with | head=>exact absurd rfl e | tail _ h=>exact h) fun x hx=>k x (List.mem_cons_of_mem _ hx)
   have ea:=k a List.mem_cons_self e
   rw [List.filter_cons,List.filter_cons,ea]
   split
   ·rw [List.length_cons,List.length_cons,ih]
   ·exact ih
section
variable {n:Int} {xs:List Int} {m:Nat}
theorem cut_ld (o:Ord n xs) (hm:(m:Int)+1≤n) {x:Int} (h1 : 1≤x) (h2:x≤n) (hx:x≠(m:Int)+1) :
  ld (xs.map (swp · (ld xs ((m:Int)+1),(m:Int)+1))) x=if ld xs x=(m:Int)+1 then ld xs ((m:Int)+1) else ld xs x:=by
 rw [ld_map o _ h1 h2]
 have ne:ld xs x≠ld xs ((m:Int)+1):=fun e=>hx (ld_inj o h1 h2 (by omega) hm e)
 unfold swp
 rw [if_neg ne]
theorem cut_itn (o:Ord n xs) (f:Fix n (m+1) xs) (hm:(m:Int)+1≤n) (ne:ld xs ((m:Int)+1)≠(m:Int)+1) {x:Int} (h1 : 1≤x) (h2:x≤n) (hx:x≠(m:Int)+1) :
  ∀ k,itn (ld (xs.map (swp · (ld xs ((m:Int)+1),(m:Int)+1)))) k x≠(m:Int)+1∧∃ j,itn (ld (xs.map (swp · (ld xs ((m:Int)+1),(m:Int)+1)))) k x=itn (ld xs) j x
 | 0=>⟨hx,0,rfl⟩
 | k+1=>by
  obtain ⟨a,j,e⟩:=cut_itn o f hm ne h1 h2 hx k
  have r:=itn_in o h1 h2 j
  show ld _ (itn _ k x)≠_∧∃ j,ld _ (itn _ k x)=_
  rw [e] at a ⊢
  rw [cut_ld o hm r.1 r.2 a]
  by_cases h:ld xs (itn (ld xs) j x)=(m:Int)+1
  ·rw [if_pos h]
   refine ⟨ne,j+2,?_⟩
   show _=ld xs (ld xs (itn (ld xs) j x))
   rw [h]
  ·rw [if_neg h]
   exact ⟨h,j+1,rfl⟩
theorem itn_cut (o:Ord n xs) (f:Fix n (m+1) xs) (hm:(m:Int)+1≤n) (ne:ld xs ((m:Int)+1)≠(m:Int)+1) {x:Int} (h1 : 1≤x) (h2:x≤n) (hx:x≠(m:Int)+1) :
  ∀ j,(∃ k,itn (ld xs) j x=itn (ld (xs.map (swp · (ld xs ((m:Int)+1),(m:Int)+1)))) k x)∨(itn (ld xs) j x=(m:Int)+1∧∃ k,itn (ld (xs.map (swp · (ld xs ((m:Int)+1),(m:Int)+1)))) k x=ld xs ((m:Int)+1))
 | 0=>.inl ⟨0,rfl⟩
 | j+1=>by
  have r:=itn_in o h1 h2 j
  rcases itn_cut o f hm ne h1 h2 hx j with ⟨k,e⟩ | ⟨e,k,e2⟩
  ·have a:=(cut_itn o f hm ne h1 h2 hx k).1
   have e3:itn (ld (xs.map (swp · (ld xs ((m:Int)+1),(m:Int)+1)))) (k+1) x=if ld xs (itn (ld xs) j x)=(m:Int)+1 then ld xs ((m:Int)+1) else ld xs (itn (ld xs) j x):=by
    show ld _ (itn _ k x)=_
    rw [← e] at a ⊢
    exact cut_ld o hm r.1 r.2 a
   by_cases h:ld xs (itn (ld xs) j x)=(m:Int)+1
   ·rw [if_pos h] at e3
    exact .inr ⟨h,k+1,e3⟩
   ·rw [if_neg h] at e3
    exact .inl ⟨k+1,e3.symm⟩
  ·refine .inl ⟨k,?_⟩
   show ld xs (itn (ld xs) j x)=_
   rw [e,e2]
theorem cut_cnt (o:Ord n xs) (f:Fix n (m+1) xs) (hm:(m:Int)+1≤n) (ne:ld xs ((m:Int)+1)≠(m:Int)+1) : cnt n (xs.map (swp · (ld xs ((m:Int)+1),(m:Int)+1)))=cnt n xs+1:=by
 have lt:=step_lt o f hm ne
 have gd : 1≤(ld xs ((m:Int)+1),(m:Int)+1).1∧(ld xs ((m:Int)+1),(m:Int)+1).1<(ld xs ((m:Int)+1),(m:Int)+1).2∧(ld xs ((m:Int)+1),(m:Int)+1).2≤n:=⟨lt.1,lt.2,hm⟩
 have o':=map_ord o gd
 have f':=step_fix o f hm ne
 unfold cnt
 refine filter_one (g:=(m:Int)+1) ?_ ?_ _ (ivl_nodup _ _) (mem_ivl.mpr (by omega)) ?_
 ·cases h:least xs ((m:Int)+1) with
  | false=>rfl
  | true =>
   have:=(least_iff o (by omega) hm).mp h 1
   exact absurd this (by show ¬ _≤ld xs ((m:Int)+1); omega)
 ·refine (least_iff o' (by omega) hm).mpr fun k=>?_
  have : ∀ k,itn (ld (xs.map (swp · (ld xs ((m:Int)+1),(m:Int)+1)))) k ((m:Int)+1)=(m:Int)+1:=by
   intro k
   induction k with
   | zero=>rfl
   | succ k ih=>show ld _ (itn _ k _)=_; rw [ih]; exact f' _ (by omega) hm
  rw [this k]
  exact Int.le_refl _
 ·intro x hx hne
  have hx:=mem_ivl.mp hx
  have h1 : 1≤x:=hx.1
  have h2:x≤n:=by omega
  rw [Bool.eq_iff_iff,least_iff o h1 h2,least_iff o' h1 h2]
  constructor
  ·intro h k
   obtain ⟨_,j,e⟩:=cut_itn o f hm ne h1 h2 hne k
   rw [e]
   exact h j
  ·intro h j
   rcases itn_cut o f hm ne h1 h2 hne j with ⟨k,e⟩ | ⟨e,k,e2⟩
   ·rw [e]; exact h k
   ·have:=h k
    rw [e2] at this
    rw [e]
    omega
end
theorem homeS_cnt {n:Int} : ∀ (m:Nat) (xs:List Int),(m:Int)≤n→Ord n xs→Fix n m xs→(homeS m xs).length+cnt n xs=n.toNat
 | 0,xs,_,o,f=>by
  have:(ivl 1 (n+1)).filter (least xs)=ivl 1 (n+1):=by
   rw [List.filter_eq_self]
   intro x hx
   have hx:=mem_ivl.mp hx
   refine (least_iff o hx.1 (by omega)).mpr fun k=>?_
   have : ∀ k,itn (ld xs) k x=x:=by
    intro k
    induction k with
    | zero=>rfl
    | succ k ih=>show ld _ (itn _ k _)=_; rw [ih]; exact f _ (by omega) (by omega)
   rw [this k]
   exact Int.le_refl _
  unfold cnt
  rw [this,ivl_length]
  show 0+_=_
  omega
 | m+1,xs,hm,o,f=>by
  unfold homeS
  have hm':(m:Int)+1≤n:=by omega
  split
  ·rename_i e
   exact homeS_cnt m xs (by omega) o (fix_down f e)
  ·rename_i ne
   have lt:=step_lt o f hm' ne
   have gd : 1≤(ld xs ((m:Int)+1),(m:Int)+1).1∧(ld xs ((m:Int)+1),(m:Int)+1).1<(ld xs ((m:Int)+1),(m:Int)+1).2∧(ld xs ((m:Int)+1),(m:Int)+1).2≤n:=⟨lt.1,lt.2,hm'⟩
   have ih:=homeS_cnt m _ (by omega) (map_ord o gd) (step_fix o f hm' ne)
   rw [cut_cnt o f hm' ne] at ih
   rw [List.length_append,List.length_singleton]
   omega
def homeM (xs:List Int) : List (Int × Int):=homeS xs.length xs
section
variable {n:Int} {xs:List Int}
theorem fix_top (o:Ord n xs) : Fix n xs.length xs:=fun x h1 h2=>by have:=o.length; omega
theorem homeM_rise (hn : 0≤n) (o:Ord n xs) : Rise n (homeM xs):=(homeS_rise _ xs (by have:=o.length; omega) o (fix_top o)).mono (by have:=o.length; omega)
theorem homeM_cnt (hn : 0≤n) (o:Ord n xs) : (homeM xs).length+cnt n xs=n.toNat:=homeS_cnt _ xs (by have:=o.length; omega) o (fix_top o)
theorem homeM_of (hn : 0≤n) {r:List (Int × Int)} (h:Rise n r) : homeM (ledM n r)=r:=by
 unfold homeM
 rw [ledM_length]
 exact homeS_of _ r (by omega) (h.mono (by omega))
end
theorem least_ex : ∀ {l:List Int},l≠[]→∃ M,M∈l∧∀ b∈l,M≤b
 | [],h=>absurd rfl h
 | [a],_=>⟨a,List.mem_singleton.mpr rfl,fun b hb=>by rw [List.mem_singleton.mp hb]; exact Int.le_refl _⟩
 | a :: b :: r,_=>by
  obtain ⟨M,h1,h2⟩:=least_ex (l:=b :: r) (by simp)
  by_cases h:a≤M
  ·refine ⟨a,List.mem_cons_self,fun c hc=>?_⟩
   rcases List.mem_cons.mp hc with rfl | hc
   ·exact Int.le_refl _
   ·exact Int.le_trans h (h2 c hc)
  ·refine ⟨M,List.mem_cons_of_mem _ h1,fun c hc=>?_⟩
   rcases List.mem_cons.mp hc with rfl | hc
   ·omega
   ·exact h2 c hc
end Sw
namespace L2
open PySem
theorem for_enum0 {K:PySem.W.Frag} {a:Addr} {xs:List V} {g:TG} {tb:TS} {D:Ends} {σ : St} {H:Hp} (Pv:Nat→St→Hp→Prop) (h0:Pv 0 σ H) (hl : ∀ i σ H,i≤xs.length→Pv i σ H→SqL K H a xs)
  (hs : ∀ i σ H t v,xs[i]?=some v→Pv i σ H→H t=none→g (.ref t) σ (upd H t (.tup [.int (i:Int),v])) fun σ2 H2=>tb { D with nx:=Pv (i+1),ct:=Pv (i+1),bk:=D.nx } σ2 H2) (hd : ∀ σ H,Pv xs.length σ H→D.nx σ H) :
  ∃ W:Nat→Nat→St→Hp→Prop,(∃ m,W 0 m σ H)∧∀ i m σ H,W i m σ H →
   ((Ite0 K a xs).stop i H∧D.nx σ H)∨((Ite0 K a xs).go i H∧∃ N:St→Hp→Prop,(∀ σ' H',N σ' H'→∃ m',m'<m∧W (i+1) m' σ' H')∧∀ x H',(Ite0 K a xs).yld i H x H'→g x σ H' fun σ2 H2=>tb { D with nx:=N,ct:=N,bk:=D.nx } σ2 H2):=by
 refine ⟨fun i m σ H=>m=xs.length - i∧i≤xs.length∧Pv i σ H,⟨xs.length,by simp,Nat.zero_le _,h0⟩,?_⟩
 rintro i m σ H ⟨rfl,hi,p⟩
 by_cases hlt:i<xs.length
 ·refine .inr ⟨⟨hlt,hl i σ H hi p⟩,Pv (i+1),fun σ' H' p'=>⟨xs.length - (i+1),by omega,rfl,hlt,p'⟩,fun x H' y=>?_⟩
  obtain ⟨t,v,ht,rfl,hv,rfl⟩:=y
  exact hs i σ H t v hv p ht
 ·have e:i=xs.length:=by omega
  subst e
  exact .inl ⟨⟨rfl,hl _ σ H (Nat.le_refl _) p⟩,hd σ H p⟩
end L2
namespace Sw
open PySem L2
theorem orb_sym {n:Int} {xs:List Int} (o:Ord n xs) {x y:Int} (h1 : 1≤x) (h2:x≤n) (h:y∈orb xs x) : x∈orb xs y:=by
 obtain ⟨k,rfl⟩:=(orb_mem o h1 h2).mp h
 obtain ⟨j,hj,e⟩:=itn_mod o h1 h2 k
 have r:=itn_in o h1 h2 k
 refine (orb_mem o r.1 r.2).mpr ⟨per xs x - j,?_⟩
 rw [e,← itn_add,show per xs x - j+j=per xs x by omega]
 exact per_eq o h1 h2
theorem orb_trans {n:Int} {xs:List Int} (o:Ord n xs) {x y z:Int} (h1 : 1≤x) (h2:x≤n) (h:y∈orb xs x) (h':z∈orb xs y) : z∈orb xs x:=by
 obtain ⟨k,rfl⟩:=(orb_mem o h1 h2).mp h
 have r:=itn_in o h1 h2 k
 obtain ⟨j,rfl⟩:=(orb_mem o r.1 r.2).mp h'
 exact (orb_mem o h1 h2).mpr ⟨j+k,itn_add _ _ _ _⟩
theorem orb_in {n:Int} {xs:List Int} (o:Ord n xs) {x y:Int} (h1 : 1≤x) (h2:x≤n) (h:y∈orb xs x) : 1≤y∧y≤n:=by
 obtain ⟨k,rfl⟩:=(orb_mem o h1 h2).mp h
 exact itn_in o h1 h2 k
theorem orb_self {xs:List Int} (x:Int) : x∈orb xs x:=by
 unfold orb
 exact List.mem_map.mpr ⟨0,List.mem_range.mpr (by unfold per; omega),rfl⟩
theorem orb_length (xs:List Int) (x:Int) : (orb xs x).length=per xs x:=by unfold orb; rw [List.length_map,List.length_range]
theorem low_ex {n:Int} {xs:List Int} (o:Ord n xs) {x:Int} (h1 : 1≤x) (h2:x≤n) : ∃ m,m∈orb xs x∧least xs m=true∧m≤x:=by
 obtain ⟨M,m1,m2⟩:=least_ex (l:=orb xs x) (List.ne_nil_of_mem (orb_self x))
 refine ⟨M,m1,?_,m2 x (orb_self x)⟩
 unfold least
 rw [List.all_eq_true]
 intro y hy
 exact decide_eq_true (m2 y (orb_trans o h1 h2 m1 hy))
theorem met_least {n:Int} {xs:List Int} (o:Ord n xs) {i:Nat} (hi:(i:Int)<n) : least xs (1+i)=true↔¬ ∃ m∈((ivl 1 (n+1)).take i).filter (least xs),(1+(i:Int))∈orb xs m:=by
 have b1:(1:Int)≤1+i:=by omega
 have b2:(1:Int)+i≤n:=by omega
 have tk : ∀ m,m∈(ivl 1 (n+1)).take i↔1≤m∧m≤i:=by
  intro m
  constructor
  ·intro h
   obtain ⟨j,hj,e⟩:=List.mem_iff_getElem.mp h
   rw [List.length_take] at hj
   rw [List.getElem_take] at e
   have g:=get_ivl (lo:=1) (hi:=n+1) (i:=j) (by rw [ivl_length] at hj; omega)
   rw [List.getElem?_eq_getElem (by omega)] at g
   have g:=Option.some.inj g
   rw [e] at g
   omega
  ·rintro ⟨h3,h4⟩
   refine List.mem_iff_getElem.mpr ⟨(m - 1).toNat,by rw [List.length_take,ivl_length]; omega,?_⟩
   rw [List.getElem_take]
   have g:=get_ivl (lo:=1) (hi:=n+1) (i:=(m - 1).toNat) (by omega)
   rw [List.getElem?_eq_getElem (by rw [ivl_length]; omega)] at g
   have g:=Option.some.inj g
   rw [g]
   omega
 constructor
 ·rintro h ⟨m,hm,hmo⟩
  rw [List.mem_filter,tk] at hm
  have s:=orb_sym o hm.1.1 (by omega) hmo
  unfold least at h
  have:=of_decide_eq_true (List.all_eq_true.mp h m s)
  omega
 ·intro h
  obtain ⟨m,m1,m2,m3⟩:=low_ex o b1 b2
  by_cases e:m=1+(i:Int)
  ·rw [← e]; exact m2
  ·exfalso
   apply h
   have mi:=orb_in o b1 b2 m1
   exact ⟨m,List.mem_filter.mpr ⟨(tk m).mpr (by omega),m2⟩,orb_sym o b1 b2 m1⟩
theorem inV_int (x:Int) (ms:List Int) : inV (.int x) (ms.map V.int)=decide (x∈ms):=by
 unfold inV
 rw [List.any_map,Bool.eq_iff_iff,List.any_eq_true]
 simp only [decide_eq_true_eq]
 constructor
 ·rintro ⟨y,hy,e⟩
  have e:eqV (.int y) (.int x)=true:=e
  unfold eqV at e
  have:y=x:=by simpa using e
  rw [← this]; exact hy
 ·intro h
  refine ⟨x,h,?_⟩
  show eqV (.int x) (.int x)=true
  unfold eqV
  simp
theorem flat_ints (ms:List Int) : (ms.map V.int).all flatV=true:=by
 rw [List.all_map,List.all_eq_true]
 intro x _
 rfl
def bump:Nat→List (List Int)→List (List Int)
 | _,[]=>[]
 | k,r :: t=>(r++[100+(k:Int)]) :: bump (k+1) t
def half (l:List (List Int)) (i:Nat) : List (List Int):=bump 0 (l.take i)++l.drop i
theorem lay_ll : ∀ (r:List (List Int)),PyData.canLayAll0 (r.map fun p=>PyData.list (p.map PyData.int))=true
 | []=>rfl
 | p :: r=>by
  rw [List.map_cons]; unfold PyData.canLayAll0; rw [lay_ll r]
  unfold PyData.canLay0; rw [lay_ints p]; rfl
theorem depth_ll : ∀ (r:List (List Int)),PyData.depthAll (r.map fun p=>PyData.list (p.map PyData.int))≤1
 | []=>by simp [PyData.depthAll]
 | p :: r=>by
  have:=depth_ll r
  rw [List.map_cons]; unfold PyData.depthAll; unfold PyData.depth; rw [depth_ints p]
  omega
theorem eqv_ll : ∀ (r q:List (List Int)),PyData.eqvAll (r.map fun p=>PyData.list (p.map PyData.int)) (q.map fun p=>PyData.list (p.map PyData.int))=decide (r=q)
 | [],[]=>by simp [PyData.eqvAll]
 | [],m :: r=>by simp [PyData.eqvAll]
 | n :: r,[]=>by simp [PyData.eqvAll]
 | n :: r,m :: q=>by
  rw [List.map_cons,List.map_cons]; unfold PyData.eqvAll; rw [eqv_ll r q]
  unfold PyData.eqv
  rw [eqv_ints n m]
  by_cases h1:n=m <;> by_cases h2:r=q <;> simp [h1,h2]
end Sw
namespace Sw
open PySem L2
def Cyc (n:Int) (xs r:List Int) : Prop:=r≠[]∧∀ (i:Nat) (x:Int),r[i]?=some x→1≤x∧x≤n∧r[(i+1) % r.length]?=some (ld xs x)
structure Rnds (n:Int) (xs:List Int) (rs:List (List Int)) : Prop where
 cyc : ∀ r∈rs,Cyc n xs r
 nd:rs.flatten.Nodup
 rest : ∀ x,1≤x→x≤n→x∉rs.flatten→ld xs x=x
theorem itn_per {n:Int} {xs:List Int} (o:Ord n xs) {x:Int} (h1 : 1≤x) (h2:x≤n) {k:Nat} (h:k<per xs x) : itn (ld xs) ((k+1) % per xs x) x=ld xs (itn (ld xs) k x):=by
 by_cases e:k+1<per xs x
 ·rw [Nat.mod_eq_of_lt e]; rfl
 ·have e:k+1=per xs x:=by omega
  rw [e,Nat.mod_self]
  have:=per_eq o h1 h2
  rw [← e] at this
  exact this.symm
theorem orb_cyc {n:Int} {xs:List Int} (o:Ord n xs) {x:Int} (h1 : 1≤x) (h2:x≤n) : Cyc n xs (orb xs x):=by
 refine ⟨List.ne_nil_of_mem (orb_self x),fun i y hy=>?_⟩
 have hi:i<per xs x:=by rw [← orb_length xs x]; exact (List.getElem?_eq_some_iff.mp hy).1
 rw [orb_length]
 unfold orb at hy ⊢
 rw [List.getElem?_map,List.getElem?_range hi] at hy
 have hy:itn (ld xs) i x=y:=by simpa using hy
 have r:=itn_in o h1 h2 i
 rw [List.getElem?_map,List.getElem?_range (Nat.mod_lt _ (by omega))]
 refine ⟨by omega,by omega,?_⟩
 show some (itn (ld xs) ((i+1) % per xs x) x)=_
 rw [itn_per o h1 h2 hi,hy]
structure Part (n:Int) (xs:List Int) (rf rl:List (List Int)) : Prop where
 cf : ∀ r∈rf,Cyc n xs r
 cl : ∀ r∈rl,Cyc n xs r
 nd:(rf.flatten++rl.flatten).Nodup
 rest : ∀ x,1≤x→x≤n→x∉rf.flatten→x∉rl.flatten→ld xs x=x
theorem orb_nodup {n:Int} {xs:List Int} (o:Ord n xs) {x:Int} (h1 : 1≤x) (h2:x≤n) : (orb xs x).Nodup:=by
 unfold orb
 rw [List.Nodup,List.pairwise_map]
 refine (List.Pairwise.and_mem.mp (List.pairwise_lt_range (n:=per xs x))).imp ?_
 rintro i j ⟨hi,hj,hij⟩ e
 have hi:=List.mem_range.mp hi
 have hj:=List.mem_range.mp hj
 have e2:itn (ld xs) (i+(j - i)) x=itn (ld xs) i (itn (ld xs) (j - i) x):=itn_add _ _ _ _
 rw [show i+(j - i)=j by omega,← e] at e2
 have q:=itn_in o h1 h2 (j - i)
 have:=itn_inj o h1 h2 q.1 q.2 i e2
 exact per_ne (by omega) (by omega) this.symm
theorem rnd_nodup {n:Int} {xs:List Int} (o:Ord n xs) : (rndM n xs).flatten.Nodup:=by
 unfold rndM
 rw [List.Nodup,List.pairwise_flatten]
 constructor
 ·intro r hr
  obtain ⟨x,hx,rfl⟩:=List.mem_map.mp hr
  have hx:=mem_ivl.mp (List.mem_filter.mp hx).1
  exact orb_nodup o hx.1 (by omega)
 ·rw [List.pairwise_map]
  have nd:((ivl 1 (n+1)).filter (least xs)).Nodup:=(ivl_nodup 1 (n+1)).filter _
  refine (List.Pairwise.and_mem.mp nd).imp ?_
  rintro a b ⟨ha,hb,ne⟩ y hya z hzb e
  subst e
  have ha':=List.mem_filter.mp ha
  have hb':=List.mem_filter.mp hb
  have ia:=mem_ivl.mp ha'.1
  have ib:=mem_ivl.mp hb'.1
  have yb:=orb_sym o ib.1 (by omega) hzb
  have ab:b∈orb xs a:=orb_trans o ia.1 (by omega) hya yb
  have ba:a∈orb xs b:=orb_sym o ia.1 (by omega) ab
  have l1:=ha'.2
  have l2:=hb'.2
  unfold least at l1 l2
  have e1:=of_decide_eq_true (List.all_eq_true.mp l1 b ab)
  have e2:=of_decide_eq_true (List.all_eq_true.mp l2 a ba)
  exact ne (by omega)
theorem rnd_all {n:Int} {xs:List Int} (o:Ord n xs) {x:Int} (h1 : 1≤x) (h2:x≤n) : x∈(rndM n xs).flatten:=by
 obtain ⟨m,m1,m2,m3⟩:=low_ex o h1 h2
 have mi:=orb_in o h1 h2 m1
 refine List.mem_flatten.mpr ⟨orb xs m,?_,orb_sym o h1 h2 m1⟩
 unfold rndM
 exact List.mem_map.mpr ⟨m,List.mem_filter.mpr ⟨mem_ivl.mpr (by omega),m2⟩,rfl⟩
theorem rnd_cyc {n:Int} {xs:List Int} (o:Ord n xs) {r:List Int} (h:r∈rndM n xs) : Cyc n xs r:=by
 unfold rndM at h
 obtain ⟨x,hx,rfl⟩:=List.mem_map.mp h
 have hx:=mem_ivl.mp (List.mem_filter.mp hx).1
 exact orb_cyc o hx.1 (by omega)
theorem nil_rnds (n:Int) : Rnds n (ivl 1 (n+1)) []:=by
 refine ⟨fun r h=>(by cases h),by simp,fun x h1 h2 _=>?_⟩
 unfold ld
 rw [List.getD_eq_getElem?_getD,get_ivl (by omega)]
 show 1+(((x - 1).toNat:Nat) : Int)=x
 omega
end Sw
namespace L2
open PySem PySem.Spec PyProof.Rows
mutual
inductive DT (H:Hp) (P:Addr→Prop) : V→PyData→Prop
 | non:DT H P .non .none
 | bl (b:Bool) : DT H P (.bl b) (.bool b)
 | int (i:Int) : DT H P (.int i) (.int i)
 | str (x:Str) : DT H P (.str x) (.str x)
 | lst {a:Addr} {vs:List V} {ds:List PyData} : H a=some (.lst vs)→P a→DTs H P vs ds→DT H P (.ref a) (.list ds)
 | tup {a:Addr} {vs:List V} {ds:List PyData} : H a=some (.tup vs)→P a→DTs H P vs ds→DT H P (.ref a) (.tuple ds)
inductive DTs (H:Hp) (P:Addr→Prop) : List V→List PyData→Prop
 | nil:DTs H P [] []
 | cons {v:V} {d:PyData} {vs:List V} {ds:List PyData} : DT H P v d→DTs H P vs ds→DTs H P (v :: vs) (d :: ds)
end
mutual
theorem DT.keep {H H':Hp} {P:Addr→Prop} (k:Keep P H H') : ∀ {v:V} {d:PyData},DT H P v d→DT H' P v d
 | _,_,.non=>.non
 | _,_,.bl b=>.bl b
 | _,_,.int i=>.int i
 | _,_,.str x=>.str x
 | _,_,.lst h p r=>.lst (k _ _ p h) p (r.keep k)
 | _,_,.tup h p r=>.tup (k _ _ p h) p (r.keep k)
theorem DTs.keep {H H':Hp} {P:Addr→Prop} (k:Keep P H H') : ∀ {vs:List V} {ds:List PyData},DTs H P vs ds→DTs H' P vs ds
 | _,_,.nil=>.nil
 | _,_,.cons h r=>.cons (h.keep k) (r.keep k)
end
mutual
theorem DT.dat {K:PySem.W.Frag} {H:Hp} {P:Addr→Prop} : ∀ {v:V} {d:PyData},DT H P v d→Dat K H P v d
 | _,_,.non=>.non
 | _,_,.bl b=>.bl b
 | _,_,.int i=>.int i
 | _,_,.str x=>.str x
 | _,_,.lst h p r=>.lst (SqL.of h) p r.dat
 | _,_,.tup h p r=>.tup (SqT.of h) p r.dat
theorem DTs.dat {K:PySem.W.Frag} {H:Hp} {P:Addr→Prop} : ∀ {vs:List V} {ds:List PyData},DTs H P vs ds→DatAll K H P vs ds
 | _,_,.nil=>.nil
 | _,_,.cons h r=>.cons h.dat r.dat
end
theorem DTs.length {H:Hp} {P:Addr→Prop} : ∀ {vs:List V} {ds:List PyData},DTs H P vs ds→vs.length=ds.length
 | _,_,.nil=>rfl
 | _,_,.cons h r=>by rw [List.length_cons,List.length_cons,r.length]
theorem DTs.append {H:Hp} {P:Addr→Prop} : ∀ {vs ws:List V} {ds es:List PyData},DTs H P vs ds→DTs H P ws es→DTs H P (vs++ws) (ds++es)
 | _,_,_,_,.nil,y=>y
 | _,_,_,_,.cons h x,y=>.cons h (x.append y)
theorem DTs.snoc {H:Hp} {P:Addr→Prop} {vs:List V} {ds:List PyData} {v:V} {d:PyData} (x:DTs H P vs ds) (h:DT H P v d) : DTs H P (vs++[v]) (ds++[d]):=x.append (.cons h .nil)
theorem DTs.take {H:Hp} {P:Addr→Prop} : ∀ {vs:List V} {ds:List PyData} (k:Nat),DTs H P vs ds→DTs H P (vs.take k) (ds.take k)
 | _,_,0,_=>.nil
 | _,_,k+1,.nil=>.nil
 | _,_,k+1,.cons h x=>.cons h (x.take k)
theorem DTs.drop {H:Hp} {P:Addr→Prop} : ∀ {vs:List V} {ds:List PyData} (k:Nat),DTs H P vs ds→DTs H P (vs.drop k) (ds.drop k)
 | _,_,0,x=>x
 | _,_,k+1,.nil=>.nil
 | _,_,k+1,.cons h x=>x.drop k
theorem DTs.get {H:Hp} {P:Addr→Prop} : ∀ {vs:List V} {ds:List PyData} {i:Nat} {x:V},DTs H P vs ds→vs[i]?=some x→∃ d,ds[i]?=some d∧DT H P x d
 | _,_,_,_,.nil,e=>by simp at e
 | _,_,0,_,.cons h x,e=>by simp at e; subst e; exact ⟨_,rfl,h⟩
 | _,_,i+1,_,.cons h x,e=>by
  obtain ⟨d,e1,e2⟩:=x.get (i:=i) (by simpa using e)
  exact ⟨d,by simpa using e1,e2⟩
theorem DTs.ints {H:Hp} {P:Addr→Prop} : ∀ (ns:List Int),DTs H P (ns.map V.int) (ns.map PyData.int)
 | []=>.nil
 | n :: r=>.cons (.int n) (DTs.ints r)
structure Fit (B:Nat) (d:PyData) : Prop where
 sh:d.showable=true
 nd:d.hasDict=false
 dp:d.depth≤20
 ls:PyData.leavesShort 40 d=true
 wt:d.weight≤B
structure Fits (B k:Nat) (ds:List PyData) : Prop where
 sh:PyData.showableAll ds=true
 nd:PyData.hasDictAll ds=false
 dp:PyData.depthAll ds≤k
 ls:PyData.leavesShortAll 40 ds=true
 wt:PyData.weightAll ds≤B * ds.length
end L2
namespace L2
open PySem PySem.Spec PyProof.Rows
def Lone (h:Heap) (e:Addr) : Prop:=∃ o vs,h.get? e=some o∧o.data=.fields vs∧vs[2]?=some .none
section
variable {M:Model} {A:Around} {E:Value→Shared→Prop} {s:Shared} {B:Heap} {env:Env} {outer:List Env} {L e:Addr} {cls a0:Value}
abbrev tbObj (head:Value) (L:Addr) (pl:List Value) : Obj:={ cls:=.type "traceback", dict:=none,data:=.fields ([head,.ref L,.none,rawInt L,.none]++(if pl.isEmpty then List.replicate 6 Value.none else pl)).toArray }
theorem entry_lone {o:Obj} {vs:Array Value} {head:Value} {hadNext:Bool} {Q:Unit→Shared→Prop}
  (fr:A.frames=some (env :: outer)) (ff:s.heap.FunFrames B (env :: outer)) (ef:env.frame=some L) (eo:s.heap.get? e=some o) (kb:B.StaysIn s.heap) (en:B.get? e=none) (ed:o.data=.fields vs) (z0:vs[0]?=some a0) (z2:vs[2]?=some .none)
  (k : ∀ h',Heap.NotedW B (env :: outer) e o.cls a0 (rawInt L) s.heap h'→Lone h' e→Q () { s with heap:=h' }) :
  wpAny M A (do let a ← frameOf env; let pl ← entryPlaceOf L hadNext; let b ← EntryCells.newEntry head a .none (rawInt L) .none pl; setField (.ref e) 1 b) Q E s:=by
 have n2 : 2<vs.size:=(Array.getElem?_eq_some_iff.mp z2).1
 have n1 : 1<vs.size:=by omega
 have eno:e∉(env :: outer).filterMap (·.frame):=fun hm=>by
  obtain ⟨_,o',ho,hnf⟩:=ff.mem hm
  rw [eo] at ho
  cases ho
  exact hnf vs ed
 refine wpAny_bind (wpAny_frameOf_fun fr ff ef fun g hs=>wpAny_bind (wpAny_entryPlaceOf fun pl hpl=>?_))
 unfold EntryCells.newEntry newFields
 refine wpAny_bind (wpAny_newObj_type ?_ (hpl.sizeOk5 _ _ _ _ _))
 have eo1:g.get? e=some o:=(hs.2.1 e eno).trans eo
 have kb1:B.StaysIn g:=fun b u hb=>(hs.2.1 b fun hm=>by rw [(ff.mem hm).1] at hb; cases hb).trans (kb b u hb)
 have eo2:=Heap.get?_push_of_some (h:=g) (tbObj head L pl) eo1
 have nT:g.objs.size≠e:=Nat.ne_of_gt (Heap.lt_size eo1)
 have d3:=Obj.data_mapFields ed (·.setIfInBounds 1 (Value.ref g.objs.size))
 have eo3:=Heap.get?_update_self (Obj.mapFields (·.setIfInBounds 1 (Value.ref g.objs.size))) eo2 (Obj.isFreed_of_fields d3)
 have tb3:=(Heap.get?_update_other (g.push (tbObj head L pl)) (Obj.mapFields (·.setIfInBounds 1 (Value.ref g.objs.size))) (Ne.symm nT)).trans (Heap.get?_push_size g rfl)
 have stay : ∀ b u,b≠e→g.get? b=some u→((g.push (tbObj head L pl)).update e (Obj.mapFields (·.setIfInBounds 1 (Value.ref g.objs.size)))).get? b=some u:=fun b u hbe hb =>
  (Heap.get?_update_other _ _ (Ne.symm hbe)).trans (Heap.get?_push_of_some _ hb)
 have noE : ∀ b u,s.heap.get? b=some u→(∀ ws,u.data≠.fields ws)→b≠e:=fun b u hb hnf q=>by
  rw [q,eo] at hb
  cases hb
  exact hnf vs ed
 refine wpAny_setField eo2 ed n1 (k _ ⟨fun b u hb=>stay b u (fun q=>by rw [q,en] at hb; cases hb) (kb1 b u hb),ff.of_keeps fun b u hb hnf=>?_,?_,fun b u hb hnf=>?_⟩ ⟨_,_,eo3,d3,?_⟩)
 ·obtain ⟨sl,hq⟩:=hs.2.2 b u hb
  exact ⟨_,stay b _ (noE b u hb hnf) hq,rfl⟩
 ·refine ⟨_,_,g.objs.size,_,_,eo3,⟨Obj.cls_mapFields _ _,?_⟩,d3,by simp [n1],kb1.fresh,nT,tb3,rfl,?_⟩
  ·rw [Array.getElem?_setIfInBounds_ne (by decide)]; exact z0
  ·rcases hpl with rfl | ⟨_,_,_,_,_,_,_,rfl⟩ <;> simp
 ·obtain ⟨sl,hq⟩:=hs.2.2 b u hb
  exact ⟨sl,stay b _ (noE b u hb hnf) hq⟩
 ·rw [Array.getElem?_setIfInBounds_ne (by decide)]; exact z2
theorem Lone.sees {h:Heap} (l:Lone h e) (t:h.TracedW B e cls a0) : ∃ oe vs T oT ts,h.get? e=some oe∧oe.cls=cls∧vs[0]?=some a0∧vs[2]?=some .none∧oe.data=.fields vs∧vs[1]?=some (.ref T)∧B.get? T=none∧T≠e∧h.get? T=some oT∧oT.data=.fields ts∧ts[3]?=some .none:=by
 obtain ⟨o,vs,h1,h2,h3⟩:=l
 obtain ⟨oe,ws,T,oT,ts,g1,⟨g2,g3⟩,g4,g5,g6,g7,g8,g9,g10⟩:=t
 rw [h1] at g1
 cases g1
 rw [h2] at g4
 cases g4
 exact ⟨o,vs,T,oT,ts,h1,g2,g3,h3,h2,g5,g6,g7,g8,g9,g10⟩
theorem note_lone {Q:Unit→Shared→Prop} (fr:A.frames=some (env :: outer)) (ef:env.frame=some L) (fl:Heap.FlyingW B (env :: outer) e cls a0 s.heap) (l:Lone s.heap e)
  (k : ∀ h',Heap.HeldW B (env :: outer) e cls a0 L h'→s.heap.UpToSlots h'→Lone h' e→Q () { s with heap:=h' }) : wpAny M A (noteFrame (.ref e) env) Q E s:=by
 obtain ⟨kb,en,ff,t⟩:=fl
 obtain ⟨oe,vs,T,oT,ts,eo,rfl,z0,z2,ed,z1,tn,nT,et,dT,z3⟩:=l.sees t
 unfold noteFrame
 simp only [ef]
 refine wpAny_bind (wpAny_field eo ed z1 ?_)
 rw [if_pos (by simp)]
 refine wpAny_bind (wpAny_field et dT z3 ?_)
 rw [if_neg (by simp [rawInt])]
 refine wpAny_bind (wpAny_setField et dT (Array.getElem?_eq_some_iff.mp z3).1 ?_)
 have oth : ∀ b,b≠T→(s.heap.update T (Obj.mapFields (·.setIfInBounds 3 Value.none))).get? b=s.heap.get? b:=fun b hb=>Heap.get?_update_other _ _ (Ne.symm hb)
 have noT : ∀ b u,s.heap.get? b=some u→(∀ ws,u.data≠.fields ws)→b≠T:=fun b u hb hnf q=>by
  rw [q,et] at hb
  cases hb
  exact hnf ts dT
 refine entry_lone fr (ff.of_keeps fun b u hb hnf=>⟨u,(oth b (noT b u hb hnf)).trans hb,rfl⟩) ef ((oth e (Ne.symm nT)).trans eo) (fun b u hb=>(oth b fun q=>by rw [q,tn] at hb; cases hb).trans (kb b u hb)) en ed z0 z2 fun h' ⟨x1,x2,x3,x4⟩ l'=>?_
 exact k h' ⟨x1,en,x2,x3⟩ (fun b u hb hnf=>x4 b u ((oth b (noT b u hb hnf)).trans hb) hnf) l'
theorem land_lone {fl:Value} {l:List Env} {Q:Unit→Shared→Prop} (kb:B.StaysIn s.heap) (en:B.get? e=none) (ff:s.heap.FunFrames B l) (t:s.heap.TracedAtW B e cls a0 fl) (lo:Lone s.heap e)
  (k : ∀ h',Heap.FlyingW B l e cls a0 h'→s.heap.UpToSlots h'→Lone h' e→Q () { s with heap:=h' }) : wpAny M A (setFlight (.ref e) none) Q E s:=by
 obtain ⟨o,vs,h1,h2,h3⟩:=lo
 obtain ⟨oe,ws,T,oT,ts,g1,g2,g4,g5,g6,g7,g8,g9,g10⟩:=t
 rw [h1] at g1
 cases g1
 rw [h2] at g4
 cases g4
 have sz : 3<ts.size:=(Array.getElem?_eq_some_iff.mp g10).1
 have oth : ∀ b,b≠T→(s.heap.update T (Obj.mapFields (·.setIfInBounds 3 ((none:Option Addr).elim Value.none fun f=>rawInt f)))).get? b=s.heap.get? b:=fun b hb=>Heap.get?_update_other _ _ (Ne.symm hb)
 have noT : ∀ b u,s.heap.get? b=some u→(∀ ws,u.data≠.fields ws)→b≠T:=fun b u hb hnf q=>by
  rw [q,g8] at hb
  cases hb
  exact hnf ts g9
 have e':=(oth e (Ne.symm g7)).trans h1
 unfold setFlight
 refine wpAny_bind (wpAny_field h1 h2 g5 ?_)
 rw [if_pos (by simp)]
 refine wpAny_setField g8 g9 sz (k _ ⟨fun b u hb=>(oth b fun q=>by rw [q,g6] at hb; cases hb).trans (kb b u hb),en,ff.of_keeps fun b u hb hnf=>⟨u,(oth b (noT b u hb hnf)).trans hb,rfl⟩,?_⟩ (fun b u hb hnf=>⟨u.slots,(oth b (noT b u hb hnf)).trans hb⟩) ⟨o,vs,e',h2,h3⟩)
 exact ⟨o,vs,T,_,_,e',g2,h2,g5,g6,g7,Heap.get?_update_self _ g8 (Obj.isFreed_of_fields (Obj.data_mapFields g9 _)),Obj.data_mapFields g9 _,by simp [sz]⟩
theorem leave_lone {Q:Unit→Shared→Prop} (fr:A.frames=some (env :: outer)) (ef:env.frame=some L) (fl:Heap.FlyingW B (env :: outer) e cls a0 s.heap) (l:Lone s.heap e)
  (k : ∀ h',Heap.FlyingW B (env :: outer) e cls a0 h'→s.heap.UpToSlots h'→Lone h' e→Q () { s with heap:=h' }) : wpAny M A (leaving env (.ref e)) Q E s:=by
 unfold leaving
 refine wpAny_bind (note_lone fr ef fl l fun g hh sm l'=>?_)
 obtain ⟨f1,f2,f3,f4⟩:=hh
 exact land_lone (s:={ s with heap:=g }) f1 f2 f3 f4 l' fun h' a1 a2 a3=>k h' a1 (sm.trans a2) a3
theorem leave_made {o:Obj} {vs:Array Value} {Q:Unit→Shared→Prop} (fr:A.frames=some (env :: outer)) (ff:s.heap.FunFrames B (env :: outer)) (ef:env.frame=some L) (eo:s.heap.get? e=some o) (kb:B.StaysIn s.heap) (en:B.get? e=none) (ed:o.data=.fields vs) (z0:vs[0]?=some a0) (z1:vs[1]?=some .none) (z2:vs[2]?=some .none)
  (k : ∀ h',Heap.FlyingW B (env :: outer) e o.cls a0 h'→s.heap.UpToSlots h'→Lone h' e→Q () { s with heap:=h' }) : wpAny M A (leaving env (.ref e)) Q E s:=by
 unfold leaving noteFrame
 simp only [ef]
 refine wpAny_bind (wpAny_bind (wpAny_field eo ed z1 ?_))
 rw [if_neg (by decide)]
 refine entry_lone fr ff ef eo kb en ed z0 z2 fun g hn l'=>?_
 obtain ⟨f1,f3,f4,sm⟩:=hn
 exact land_lone (s:={ s with heap:=g }) f1 en f3 f4 l' fun h' a1 a2 a3=>k h' a1 (Heap.UpToSlots.trans sm a2) a3
end
end L2
namespace L2
open PySem PySem.Spec PyProof.Rows
theorem ObjOk.here {P:Program} {w:World} {H:Hp} {h:Heap} {a:Addr} {o:HO} (x:ObjOk P w H h a o) : ∃ ob,h.get? a=some ob:=by
 cases o with
 | lst xs=>obtain ⟨_,_,_,_,e⟩:=x; exact ⟨_,e⟩
 | tup xs=>obtain ⟨_,_,_,ob,e,_⟩:=x; exact ⟨_,e⟩
 | dK kvs=>obtain ⟨_,_,_,_,o,_,_,e,_⟩:=x; exact ⟨_,e⟩
 | dT kvs=>obtain ⟨_,_,_,_,o,_,_,e,_⟩:=x; exact ⟨_,e⟩
 | set S n=>obtain ⟨o,_,_,_,e,_⟩:=x; exact ⟨_,e⟩
 | ins C dx fs=>obtain ⟨_,_,_,e,_⟩:=x; exact ⟨_,e⟩
 | own y=>obtain ⟨_,e⟩:=x; exact ⟨_,e⟩
 | xd fs=>obtain ⟨_,⟨_,_,_,e,_⟩,_⟩:=x; exact ⟨_,e⟩
 | rng lo hi=>obtain ⟨_,_,_,e⟩:=x; exact ⟨_,e⟩
 | frz ob u=>obtain ⟨e,_⟩:=x; exact ⟨_,e⟩
 | tbl ps=>exact ⟨_,(show h.get? a=some _ from x)⟩
 | met f y=>exact ⟨_,(show h.get? a=some _ from x)⟩
 | ext φ=>obtain ⟨_,⟨_,e⟩,_⟩:=x; exact ⟨_,e⟩
structure Fly (P:Program) (w:World) (fr:List Env) (H:Hp) (h:Heap) (e:Addr) (cls a0:Value) (B:Heap) (H':Hp) (h':Heap) : Prop where
 un:Un (frs fr) [] H H' h h'
 hok:HOk P w H' h'
 fl:Heap.FlyingW B fr e cls a0 h'
 old : ∀ b o o',h.get? b=some o→b∉frs fr→h'.get? b=some o'→B.get? b=some o'
 trk : ∀ b u o',H' b=some u→h'.get? b=some o'→B.get? b=some o'
 frf : ∀ b∈frs fr,H' b=none
 lo:Lone h' e
section
variable {P:Program} {w:World} {fr:List Env} {H H':Hp} {h h' h'':Heap} {e:Addr} {cls a0:Value} {B:Heap}
theorem Fly.move0 (fun_:Un (frs fr) [] H H' h h') (fhok:HOk P w H' h') (ff:h'.FunFrames B fr) (fold : ∀ b o o',h.get? b=some o→b∉frs fr→h'.get? b=some o'→B.get? b=some o')
  (ftrk : ∀ b u o',H' b=some u→h'.get? b=some o'→B.get? b=some o') (ffrf : ∀ b∈frs fr,H' b=none) (fl:Heap.FlyingW B fr e cls a0 h'') (sm:h'.UpToSlots h'') (lo:Lone h'' e) : Fly P w fr H h e cls a0 B H' h'' where
 un:=by
  refine ⟨fun b o q n hb hx=>?_,fun b o q n hb hx=>?_,fun_.free,fun b o q hx=>?_,fun_.tups,fun_.frzs,fun_.tbls⟩
  ·have e1:=fun_.keep b o q n hb hx
   exact fl.1 b o (fold b o o q hb e1)
  ·obtain ⟨sl,e1⟩:=fun_.slot b o q n hb hx
   obtain ⟨_,o1,e2,nf⟩:=ff.mem hb
   rw [e1] at e2; cases e2
   obtain ⟨sl',e3⟩:=sm b _ e1 nf
   exact ⟨sl',e3⟩
  ·obtain ⟨o1,e1⟩:=fun_.there b o q hx
   by_cases hb:b∈frs fr
   ·obtain ⟨_,o2,e2,nf⟩:=ff.mem hb
    rw [e1] at e2; cases e2
    obtain ⟨sl',e3⟩:=sm b _ e1 nf
    exact ⟨_,e3⟩
   ·exact ⟨o1,fl.1 b o1 (fold b o o1 q hb e1)⟩
 hok:=fun a o q=>(fhok a o q).stay (fun b u hb z=>by
   rcases hb with rfl | hb
   ·exact fl.1 b u (ftrk b _ u q z)
   ·exact fl.1 b u (ftrk b _ u hb z)) (fun _ z=>z) fun _ _ z=>z
 fl:=fl
 old:=fun b o o' q hb z=>by
  obtain ⟨o1,e1⟩:=fun_.there b o q (by simp)
  have e2:=fold b o o1 q hb e1
  have e3:=fl.1 b o1 e2
  rw [z] at e3; cases e3
  exact e2
 trk:=fun b u o' q z=>by
  obtain ⟨o1,e1⟩:=(fhok b u q).here
  have e2:=ftrk b u o1 q e1
  have e3:=fl.1 b o1 e2
  rw [z] at e3; cases e3
  exact e2
 frf:=ffrf
 lo:=lo
theorem Fly.move (F:Fly P w fr H h e cls a0 B H' h') (fl:Heap.FlyingW B fr e cls a0 h'') (sm:h'.UpToSlots h'') (lo:Lone h'' e) : Fly P w fr H h e cls a0 B H' h'':=Fly.move0 F.un F.hok F.fl.2.2.1 F.old F.trk F.frf fl sm lo
theorem Fly.out {X:Cx} {pins:List (Addr × Obj)} {σ : St} {s:Shared} (I:Inv X pins σ H s) (hst:X.stack=X.env :: X.outer) (hex:X.ex=[]) (F:Fly P w X.stack H s.heap e cls a0 B H' h') : Fly P w X.outer X.H₀ X.s₀.heap e cls a0 B H' h':=by
 have nx : ∀ b:Addr,b∉X.ex:=fun b z=>by rw [hex] at z; cases z
 have ns : ∀ b o,X.s₀.heap.get? b=some o→b∉frs X.outer→b∉frs X.stack:=fun b o q hb z=>by
  rcases List.mem_cons.mp (I.stkSub b z) with r | r
  ·subst r
   exact absurd (Nat.lt_of_lt_of_le (Heap.lt_size q) I.ok.above) (Nat.lt_irrefl _)
  ·exact hb r
 have so : ∀ b∈frs X.outer,b∈frs X.stack:=fun b z=>by
  rw [hst]
  unfold frs at z ⊢
  rw [List.filterMap_cons]
  split
  ·exact z
  ·exact List.mem_cons_of_mem _ z
 refine ⟨⟨fun b o q n hb hx=>?_,fun b o q n hb hx=>?_,fun b o q n hx=>?_,fun b o q hx=>?_,fun b xs q=>F.un.tups b xs (I.base.tups b xs q),fun b o u q=>F.un.frzs b o u (I.base.frzs b o u q),fun b ps q=>?_⟩,F.hok,?_,fun b o o' q hb z=>?_,F.trk,fun b hb=>F.frf b (so b hb),F.lo⟩
 ·exact F.un.keep b o (I.base.keep b o q n hb (nx b)) (I.base.free b o q n (nx b)) (ns b o q hb) (by simp)
 ·obtain ⟨sl,e1⟩:=I.base.slot b o q n hb (nx b)
  obtain ⟨sl',e2⟩:=F.un.any e1 (I.base.free b o q n (nx b)) (by simp)
  exact ⟨sl',e2⟩
 ·obtain ⟨o1,e1⟩:=I.base.there b o q (nx b)
  exact F.un.free b o1 e1 (I.base.free b o q n (nx b)) (by simp)
 ·obtain ⟨o1,e1⟩:=I.base.there b o q (nx b)
  exact F.un.there b o1 e1 (by simp)
 ·obtain ⟨m1,e1⟩:=I.base.tbls b ps q
  obtain ⟨m2,e2⟩:=F.un.tbls b _ e1
  exact ⟨m1++m2,by rw [e2,Array.append_assoc]⟩
 ·have f:=F.fl
  rw [hst] at f
  exact ⟨f.1,f.2.1,f.2.2.1.2.2,f.2.2.2⟩
 ·obtain ⟨o1,e1⟩:=I.base.there b o q (nx b)
  exact F.old b o1 o' e1 (ns b o q hb) z
end
def CX1 (P:Program) (w:World) : CXT:=fun fr H s E ev s'=>∃ (e:Addr) (cls a0:Value) (B:Heap) (H':Hp),ev=.ref e∧s'.os=s.os∧AllBare s'.gens∧Fly P w fr H s.heap e cls a0 B H' s'.heap∧E cls none H'
section
variable {P:Program} {w:World} {K:PySem.W.Frag} {mg:Str→Option Value} {base:Heap} {N:List Str} {qual:Str} {scope:Scope} {f:Addr} {cdv:Value} {A:Around} {outer:List Env} {s:Shared} {H:Hp} {E:XK}
abbrev cx1 (P:Program) (w:World) (K:PySem.W.Frag) (mg:Str→Option Value) (base:Heap) (N:List Str) (qual:Str) (scope:Scope) (f:Addr) (cdv:Value) (A:Around) (outer:List Env) (s:Shared) (H:Hp) (E:XK) : Cx:=cxOf (CX1 P w) P w K mg base N qual scope f cdv A outer s H E
theorem pass1:Passes (CX1 P w) (cx1 P w K mg base N qual scope f cdv A outer s H E) E:=by
 intro pins σ H₁ s₁ ev s' I h
 obtain ⟨e,cls,a0,B,H',rfl,os,bare,F,q⟩:=h
 show wpAny _ _ (leaving _ (.ref e)) _ _ s'
 refine leave_lone (B:=B) I.ok.frames rfl F.fl F.lo fun h'' fl sm lo=>?_
 exact ⟨e,cls,a0,B,H',rfl,os.trans I.os,bare,Fly.out I rfl rfl (F.move fl sm lo),q⟩
theorem leaves1 {pins:List (Addr × Obj)} {σ : St} {H₁ : Hp} {s₁ : Shared} {h':Heap} {e:Addr} {cls:Value} {args:List Value} (I:Inv (cx1 P w K mg base N qual scope f cdv A outer s H E) pins σ H₁ s₁)
  (M:Heap.MadeExcOf s₁.heap h' e cls args) (q:E cls none H₁) : (cx1 P w K mg base N qual scope f cdv A outer s H E).xe (.ref e) { s₁ with heap:=h' }:=by
 obtain ⟨t,he,htn,ht⟩:=M.there
 show wpAny _ _ (leaving _ (.ref e)) _ _ _
 have st:=I.stack
 have ff:=PySem.W.funFrames_hide (as:=frs (cx1 P w K mg base N qual scope f cdv A outer s H E).stack) st fun env hm a ha=>List.mem_filterMap.mpr ⟨env,hm,ha⟩
 have hen:(PySem.W.hideAll s₁.heap (frs (cx1 P w K mg base N qual scope f cdv A outer s H E).stack)).get? e=none:=by
  cases z:(PySem.W.hideAll s₁.heap (frs (cx1 P w K mg base N qual scope f cdv A outer s H E).stack)).get? e with
  | none=>rfl
  | some o=>have:=PySem.W.of_hideAll _ z; rw [M.new] at this; cases this
 refine leave_made (B:=PySem.W.hideAll s₁.heap (frs (cx1 P w K mg base N qual scope f cdv A outer s H E).stack)) (a0:=.ref t) I.ok.frames (ff.of_keeps fun b o hb _=>⟨o,M.keeps b o hb,rfl⟩) rfl he (fun b o z=>M.keeps b o (PySem.W.of_hideAll _ z)) hen rfl rfl rfl rfl fun h'' fl k4 lo=>?_
 refine ⟨e,cls,.ref t,PySem.W.hideAll s₁.heap (frs (cx1 P w K mg base N qual scope f cdv A outer s H E).stack),H₁,rfl,I.os,I.bare,Fly.out I rfl rfl (Fly.move0 (h':=h') (Un.kept M.keeps) (I.hok.kept M.keeps) (ff.of_keeps fun b o hb _=>⟨o,M.keeps b o hb,rfl⟩) (fun b o o' z hb zz=>?_) (fun b u o' z zz=>?_) I.stkFree fl k4 lo),q⟩
 ·have:=M.keeps b o z
  rw [zz] at this; cases this
  exact PySem.W.hideAll_get _ z hb
 ·obtain ⟨o1,e1⟩:=(I.hok b u z).here
  have:=M.keeps b o1 e1
  rw [zz] at this; cases this
  exact PySem.W.hideAll_get _ e1 fun hb=>by rw [I.stkFree b hb] at z; cases z
end
end L2
namespace L2
open PySem PySem.Spec PyProof.Rows
abbrev bmV:List Value:=[.type "ValueError", .type "Exception", .type "BaseException", .type "object"]
abbrev ExcC (K:PySem.W.Frag) (C:Addr) : Prop:=PySem.W.excIn K C bmV "ValueError.__new__" = true
theorem own_in {K:PySem.W.Frag} {h:Heap} {mg:Str→Option Value} {x:Str} {C:Addr} {bmB:List Value} {newId:String} (X:K.In h) (hm:mg x=some (.ref C)) (q:PySem.W.excIn K C bmB newId=true) : OwnCls x C bmB newId mg h:=by
 refine ⟨hm,?_⟩
 unfold PySem.W.excIn at q
 split at q
 ·rename_i dd cd sl ho
  split at q
  ·rename_i C' bm k0 k1 k2 k3 n k5 hm hs
   simp only [Bool.and_eq_true,beq_iff_eq,Bool.not_eq_true'] at q
   obtain ⟨⟨⟨⟨⟨rfl,rfl⟩,hdel⟩,ht⟩,hok⟩,hni⟩:=q
   obtain ⟨nm,bs,mro,ns,qn,hd,sn,sub,ab,col,del⟩:=cd
   dsimp only at hm hdel hok hni
   subst hm hdel
   have hsl:sl=#[k0,k1,k2,k3,some (.builtin n),k5]:=by
    obtain ⟨l⟩:=sl
    simp only at hs
    rw [hs]
   subst hsl
   exact ⟨bm,ns,nm,qn,bs,hd,sn,sub,ab,col,dd,k0,k1,k2,k3,k5,_,X _ _ ho,.of_isNs (PySem.W.isNs_of_in X hok),PySem.W.nsMap_none_of_in X hok hni,PySem.W.tail_of_in X ht⟩
  ·cases q
 ·cases q
def tRaise (E:XK) (cls:Value) (ta:TA) : TS:=fun _ σ H=>ta σ H fun vs H1=>vs.length≤sizeLine∧E cls none H1
section
variable {X:Cx} {E:XK} {C:Addr} {x:Str} {np cpos pos:Pos} {e₀ : Expr} {rest:List Expr} {ta:TA}
def Lvs (X:Cx) (E:XK) : Prop:=∀ (pins:List (Addr × Obj)) (σ : St) (H:Hp) (s:Shared) (h':Heap) (e:Addr) (cls:Value) (args:List Value),Inv X pins σ H s→Heap.MadeExcOf s.heap h' e cls args→E cls none H→X.xe (.ref e) { s with heap:=h' }
theorem ps_raise (L:Lvs X E) (O:ExcC X.K C) (hc:X.calm=true) (hg:Gl X x) (hm:X.mg x=some (.ref C)) (ha:PA X (e₀ :: rest) ta) (hdb:(x == ("__debug__" : Str))=false:=by decide)
  (he:starEach (e₀ :: rest) X.env=(false,eval e₀ X.env) :: starEach rest X.env:=by rfl) (hpl:(backTo cpos (starEach rest X.env)).any (·.1)=false:=by rfl) :
  PS X (.Raise (some (.Call (.Name x np) (e₀ :: rest) [] cpos)) none pos) (tRaise E (.ref C) ta):=by
 intro pins s σ H D I h
 obtain ⟨tl,N,nm,q,bs,hdct,sn,sub,ab,col,dd,k0,k1,k2,k3,k5,mN,hC,hN,hni,T⟩:=(own_in I.mod.kin hm O).obj
 refine wpAny_Raise_call_subT (C:=C) (nm:=nm) (q:=q) (N:=N) (bs:=bs) (bm:=tl) (hdct:=hdct) (sn:=sn) (sub:=sub) (ab:=ab) (col:=col) (dd:=dd) (k0:=k0) (k1:=k1) (k2:=k2) (k3:=k3) (k5:=k5)
  PySem.F.excBase_ValueError (mN:=mN) (T.hasType (by decide)) (I.ok.hd hc) (by rw [he]; show (false || (backTo cpos (starEach rest X.env)).any (·.1))=false; rw [hpl]; rfl) hni (ld_glob I hg hm ⟨rfl,?_⟩ hdb)
 have hq:=ha cpos pins s σ H _ I h
 rw [he] at hq ⊢
 refine Calls.evalArgs_plain (wpAny_mono hq (fun us s₂ h₂=>?_) fun _ _ y=>y)
 obtain ⟨vs,H2,I2,r,z,ez⟩:=h₂
 refine ⟨rfl,by rw [← r.length]; exact z,I2.bk _ _ hC,hN.keeps I2.bk,T.keeps I2.bk,fun h' e M=>L pins σ H2 s₂ h' e _ _ I2 M ez⟩
end
section
variable {P:Program} {w:World} {K:PySem.W.Frag} {mg:Str→Option Value} {base:Heap} {N:List Str} {qual:Str} {scope:Scope} {f:Addr} {cdv:Value} {A:Around} {outer:List Env} {s:Shared} {H:Hp} {E:XK}
theorem lvs1:Lvs (cx1 P w K mg base N qual scope f cdv A outer s H E) E:=fun _ _ _ _ _ _ _ _ I M q=>leaves1 I M q
theorem Fun.okX {x qual:Str} {st:Stmt} {f:Addr} {fd:FuncData} {N ps:List Str} {k:Nat} {sp:Sp} (F:Fun K x qual st f fd) (S:FnScope N ps (defScope st)) (len : ∀ vs H Q E,sp vs H Q E→vs.length=ps.length)
  (hbody : ∀ (cdv:Value) (A:Around) (outer:List Env) (s:Shared) (H:Hp) (vs:List V) (Q:VK) (E:XK),Room k (A.deeper (envOfC qual (defScope st) s.heap.objs.size f cdv))→sp vs H Q E →
   ∃ t,PSs (cx1 P w K mg base N qual (defScope st) f cdv A outer s H E) (defBody st) t∧t { nx:=fun _ H'=>Q .non H',rt:=Q } (start N vs) H) : FnOk P w K mg base (CX1 P w) (k+1) f fd ps sp:=by
 obtain ⟨oc,od,kV,doc,pm,an,cdv,ct,osl,rfl,lk,hcd⟩:=F.ex
 exact fn_of lk hcd S len fun A outer s H vs Q E hr hsp=>hbody cdv A outer s H vs Q E hr hsp
end
end L2
namespace L2
open PySem PySem.Spec PyProof.Rows PySem.W PySem.Builtin PySem.Builtin.ObjectAttr PySem.Builtin.Getset_descriptor
structure ExcI (K:Frag) (C:Addr) : Prop where
 ga:findIn K (.ref C) "__getattribute__" = some (some (.builtin "BaseException.__getattribute__"))
 gt:findIn K (.ref C) "__getattr__" = some none
 fd:findIn K (.ref C) "__class__" = some (some (.builtin "object.__class__"))
 sp:specialIn K (.builtin "object.__class__") "__get__" = some (some (.builtin "getset_descriptor.__get__"))
 tk:takesIn K (.builtin "object.__class__")=some true
 mo:mroIn K C (.type "object")=some true
 mb:mroIn K C (.type "BaseException")=some true
 cl:(clsIn K C).isSome=true
def EAt (h:Heap) (x C:Addr) : Prop:=∃ ox,h.get? x=some ox∧ox.cls=.ref C∧∃ vs,ox.data=.fields vs∧vs[2]?=some .none
theorem EAt.type {M:Model} {h:Heap} {x C:Addr} (I:EAt h x C) : Looks M h (typeOf (.ref x)) (.ref C):=by
 obtain ⟨ox,h1,h2,_⟩:=I
 exact h2 ▸ (Looks.ld h1).andThen .now
section
variable {prog:Program} {w:World} {A:Around} {E:Value→Shared→Prop} {s:Shared} {K:Frag} {x C:Addr}
theorem exc_find {M:Model} {h:Heap} (X:K.In h) (c:ExcI K C) : Looks M h (Builtin.ObjectAttr.find (.ref x) (.ref C) "__class__") (.bind (.builtin "getset_descriptor.__get__") (.builtin "object.__class__")):=by
 refine (looks_findIn X c.fd).andThen ((looks_specialIn X c.sp).andThen ?_)
 exact (show Looks M h (Builtin.ObjectAttr.dataDescriptor? (some (.builtin "object.__class__")) (some (.builtin "getset_descriptor.__get__"))) (some (.builtin "getset_descriptor.__get__", .builtin "object.__class__")) from (looks_takesIn X c.tk).andThen .now).andThen (Looks.tag .now)
theorem exc_class_get {R:Result→Shared→Prop} {tp:Value} (X:K.In s.heap) (I:EAt s.heap x C) (hm:mroIn K C (.type "object")=some true)
  (h:R (.ok (.ret (.ref C))) s) : codeAny (model prog w) A (.call (.builtin "getset_descriptor.__get__") ⟨[.builtin "object.__class__", .ref x,tp],[]⟩) R s:=by
 obtain ⟨hh,g,dr,t,os⟩:=s
 have L0:=I.type (M:=model prog w)
 have L1:=looks_mroIn (M:=model prog w) X hm
 refine codeAny_call_builtin KF.slot_gs.plain KF.entry_gs (KF.slot_gs.check _ _ _ _ _ _ _ _ KF.type_class (KF.args_gs _ _ _) ?_)
 unfold Builtin.«getset_descriptor.__get__» descrGet
 rw [dga_obj]
 refine wpAny_bind (wpAny_pure ?_)
 unfold descrGetter descrCheckInstance descrNameAndClass isInstance
 simp only [KF.owner_class]
 repeat lk
 refine ⟨Code.quiet_builtin _ (by decide +kernel),codeAny_builtin KF.entry_class ?_⟩
 unfold Builtin.«object.__class__» shownTypeOf
 repeat lk
 exact h
theorem exc_ga_check {M:Model} {nameV:Value} {Q:Unit→Shared→Prop} (c:ExcI K C) (X:K.In s.heap) (I:EAt s.heap x C) (hq:Q () s) : wpAny M A (checkBuiltinCall "BaseException.__getattribute__" ⟨[.ref x,nameV],[]⟩) Q E s:=by
 obtain ⟨h,g,d,t,os⟩:=s
 have hk:builtinKind "BaseException.__getattribute__" = some .slot:=by decide +kernel
 have hsplit:splitId "BaseException.__getattribute__" = some ("BaseException", "__getattribute__"):=by decide +kernel
 have L0:Looks M h (isInstance (.ref x) (.type "BaseException")) true:=I.type.andThen (looks_mroIn X c.mb)
 have ha:=F.args_bexc_ga (.ref x) nameV
 simp only [checkBuiltinCall,hk,hsplit]
 refine wpAny_bind (L0.at ?_)
 repeat (any_goals (first | assumption | wp_step))
theorem exc_class_call {tk:Tok} {R:Result→Shared→Prop} (c:ExcI K C) (X:K.In s.heap) (I:EAt s.heap x C) (h:R (.ok (.ret (.ref C))) s) :
  codeAny (model prog w) A (.call (.builtin "BaseException.__getattribute__") ⟨[.ref x,.str "__class__" tk],[]⟩) R s:=by
 refine codeAny_call_builtin F.attrBase_ValueError.ga.plain F.entry_bexc_ga (exc_ga_check c X I ?_)
 have L0:=I.type (M:=model prog w)
 have L1:=exc_find (x:=x) (M:=model prog w) X c
 obtain ⟨hh,gg,d,t,os⟩:=s
 unfold Builtin.«object.__getattribute__»
 repeat (any_goals (first | assumption | with_reducible refine wpAny_bind (L0.at ?_) | with_reducible refine wpAny_bind (L1.at ?_) | wp_step))
 exact exc_class_get X I c.mo (wpAny_pure h)
theorem exc_class {Q:Option Value→Shared→Prop} (c:ExcI K C) (X:K.In s.heap) (I:EAt s.heap x C) (h:Q (some (.ref C)) { s with toks:=s.toks+1 }) : wpAny (model prog w) A (getAttr? (.ref x) "__class__") Q E s:=by
 obtain ⟨hh,g,d,t,os⟩:=s
 have L0:=I.type (M:=model prog w)
 have L1:=looks_findIn (M:=model prog w) X c.ga
 have L2:=looks_findIn (M:=model prog w) X c.gt
 have f3:=F.attrBase_ValueError.ga.bind (.ref x)
 have hx2:(Value.builtin "BaseException.__getattribute__" == Value.builtin "object.__getattribute__")=false:=by decide +kernel
 have hx1:(onTheHeap (Value.ref C) && Value.builtin "BaseException.__getattribute__" == Value.builtin "object.__getattribute__")=false:=by rw [hx2]; rfl
 unfold getAttr? getAttrBy? getAttrBy
 refine wpAny_bind (wpAny_mkText (wpAny_bind (wpAny_attempt (wpAny_holding (wpAny_bind (L0.at (wpAny_bind (L1.at ?_))))))))
 dsimp only
 rw [hx1,if_neg Bool.false_ne_true]
 unfold getAttrByItsOwn hookBefore
 rw [if_pos (show onTheHeap (Value.ref C)=true from rfl)]
 refine wpAny_bind (L2.at ?_)
 refine wpAny_bind (wpAny_attempt (wpAny_holding ?_))
 unfold callGetattribute boundAndCalled
 rw [Bool.false_and,if_neg Bool.false_ne_true]
 refine wpAny_bind (wpAny_of_eq f3 ?_)
 refine wpAny_call (exc_class_call (s:=⟨hh,g,d,t+1,os⟩) c X I ?_)
 exact handed_on rfl (wpAny_pure h)
theorem kitx_exc (c:ExcI K C) : KitX K (.ref x) (.ref C) (fun h=>EAt h x C) where
 ty:=fun _ _ _ I=>I.type
 it:=fun _ _ X _=>by
  obtain ⟨cdD,hcD⟩:=Option.isSome_iff_exists.mp c.cl
  unfold clsIn at hcD
  split at hcD
  ·rename_i c' d' cd' sl' ho
   intro A' Q' E' s' k q
   unfold isType loadHead
   exact wpAny_bind (wpAny_loadPart (k _ _ (X _ _ ho)) (wpAny_pure q))
  ·cases hcD
 ne:=fun h tp dd its n sl X htp=>by
  obtain ⟨cdD,hcD⟩:=Option.isSome_iff_exists.mp c.cl
  refine Bool.eq_false_iff.mpr fun q=>?_
  have e:C=tp:=Value.ref.inj (beq_iff_eq.mp q)
  subst e
  unfold clsIn at hcD
  split at hcD
  ·rename_i c' d' cd' sl' ho
   have z:=(X _ _ ho).symm.trans htp
   cases z
  ·cases hcD
 ca:=fun X I k=>exc_class c X I k
end
abbrev HO.exc (e C:Addr) : HO:=.ext fun h=>EAt h e C
theorem EAt.ok {P:Program} {w:World} {H:Hp} {e C:Addr} {h:Heap} (x:EAt h e C) : ObjOk P w H h e (.exc e C):=by
 obtain ⟨ox,h1,h2,_⟩:=id x
 refine ⟨x,⟨ox,h1⟩,fun g1 g2 p k=>?_⟩
 obtain ⟨oy,a1,a2⟩:=p
 exact ⟨oy,k _ a1,a2⟩
def rIsiX (K:Frag) : List V→Hp→VK→Prop:=fun xs H Q=>∃ (e C:Addr) (c:V) (cv:Value) (b:Bool),xs=[.ref e,c]∧H e=some (.exc e C)∧ExcI K C∧(∀ u,RelV c u→u=cv)∧kitOne K (.ref C) cv=some b∧Q (.bl b) H
theorem call_isiX {X:Cx} {K:Frag} (hK:X.K=K) : CallR X (.builtin "isinstance") (rIsiX K):=by
 subst hK
 intro pins s σ H xs us Q I r h
 obtain ⟨e,C,c,cv,b,rfl,he,ci,hc,hb,q⟩:=h
 match us,r with
 | [u1,u2],.cons r1 (.cons r2 .nil) =>
  obtain rfl:u1=.ref e:=r1
  obtain rfl:=hc _ r2
  obtain ⟨x,_,_⟩:=I.hok e _ he
  exact kia_one (kitx_exc ci) I.kIn x hb (fun z=>nomatch z) fun tk=>⟨.bl b,H,I.tok tk,rfl,q⟩
end L2
namespace L2
open PySem PySem.Spec PyProof.Rows PySem.W
structure ExcM (K:Frag) (C D:Addr) (b:Bool) : Prop where
 ty:typeIn K (.ref D)=some (.type "type")
 cd:(clsIn K D).isSome=true
 mb:mroIn K D (.type "BaseException")=some true
 mc:mroIn K C (.ref D)=some b
section
variable {M:Model} {A:Around} {E:Value→Shared→Prop} {s:Shared} {K:Frag} {e C D:Addr} {b:Bool}
theorem isType_in {h:Heap} (X:K.In h) (c:(clsIn K D).isSome=true) : Looks M h (isType (.ref D)) true:=by
 obtain ⟨cdD,hcD⟩:=Option.isSome_iff_exists.mp c
 unfold clsIn at hcD
 split at hcD
 ·rename_i c' d' cd' sl' ho
  intro A' Q' E' s' k q
  unfold isType loadHead
  exact wpAny_bind (wpAny_loadPart (k _ _ (X _ _ ho)) (wpAny_pure q))
 ·cases hcD
theorem exc_matches {Q:Bool→Shared→Prop} (m:ExcM K C D b) (X:K.In s.heap) (I:EAt s.heap e C) (hq:Q b s) : wpAny M A (excMatches (.ref e) (.ref D)) Q E s:=by
 obtain ⟨h,g,d,t,os⟩:=s
 have L1:Looks M h (isInstance (.ref D) (.type "tuple")) false:=(looks_typeIn X m.ty).andThen (Looks.of_pure tc_notTuple)
 have L2:=isType_in (M:=M) X m.cd
 have L3:=looks_mroIn (M:=M) X m.mb
 have L4:=I.type (M:=M)
 have L5:=looks_mroIn (M:=M) X m.mc
 have L6:Looks M h (isExcClass (.ref D)) true:=L2.andThen L3
 unfold excMatches
 refine wpAny_bind (L1.at ?_)
 rw [if_neg Bool.false_ne_true]
 refine wpAny_bind (wpAny_pure ?_)
 simp only [List.forIn_cons,List.forIn_nil]
 refine wpAny_bind (wpAny_bind (wpAny_bind (L6.at ?_)))
 simp only [Bool.not_true,Bool.false_eq_true,if_false]
 refine wpAny_pure (wpAny_pure (wpAny_bind (L4.at ?_)))
 refine wpAny_bind (wpAny_bind (wpAny_bind (L5.at ?_)))
 cases b
 ·exact wpAny_pure (wpAny_pure (wpAny_pure hq))
 ·exact wpAny_pure (wpAny_pure (wpAny_pure hq))
end
def Held (X:Cx) (pins:List (Addr × Obj)) (σ : St) (H:Hp) (s:Shared) (e:Addr) (cls:Value) : Prop :=
 ∃ (H₁ : Hp) (s₁ : Shared) (B:Heap) (a0:Value),Inv X pins σ H₁ s₁∧s.os=s₁.os∧AllBare s.gens∧Fly X.prog X.w X.stack H₁ s₁.heap e cls a0 B H s.heap
section
variable {X:Cx} {pins:List (Addr × Obj)} {σ : St} {H:Hp} {s:Shared} {e:Addr} {cls:Value}
theorem Held.inv (h:Held X pins σ H s e cls) : Inv X pins σ H s:=by
 obtain ⟨H₁,s₁,B,a0,I,os,bare,F⟩:=h
 exact I.call' (ch:=[]) os F.un F.hok bare fun b z=>absurd z (by simp)
theorem Held.eat {C:Addr} (h:Held X pins σ H s e (.ref C)) : EAt s.heap e C:=by
 obtain ⟨H₁,s₁,B,a0,I,os,bare,F⟩:=h
 obtain ⟨o,h1,h2⟩:=F.fl.there
 obtain ⟨o',vs,g1,g2,g3⟩:=F.lo
 rw [h1] at g1
 cases g1
 exact ⟨o,h1,h2,vs,g2,g3⟩
theorem Held.free (h:Held X pins σ H s e cls) : H e=none:=by
 obtain ⟨H₁,s₁,B,a0,I,os,bare,F⟩:=h
 cases q:H e with
 | none=>rfl
 | some u =>
  obtain ⟨o,ho⟩:=(F.hok e u q).here
  have:=F.trk e u o q ho
  rw [F.fl.2.1] at this; cases this
theorem Held.lands {M:Model} {A:Around} {E:Value→Shared→Prop} {Q:Unit→Shared→Prop} (h:Held X pins σ H s e cls) (k : ∀ h',Held X pins σ H { s with heap:=h' } e cls→Q () { s with heap:=h' }) : wpAny M A (setFlight (.ref e) none) Q E s:=by
 obtain ⟨H₁,s₁,B,a0,I,os,bare,F⟩:=h
 exact land_lone F.fl.1 F.fl.2.1 F.fl.2.2.1 F.fl.2.2.2.at F.lo fun h' fl sm lo=>k h' ⟨H₁,s₁,B,a0,I,os,bare,F.move fl sm lo⟩
theorem Held.track {C:Addr} (h:Held X pins σ H s e (.ref C)) : Inv X pins σ (upd H e (.exc e C)) s:=by
 have hf:=h.free
 have hx:=h.eat
 obtain ⟨H₁,s₁,B,a0,I,os,bare,F⟩:=h
 have new:s₁.heap.get? e=none:=by
  cases q:s₁.heap.get? e with
  | none=>rfl
  | some o =>
   obtain ⟨o',ho'⟩:=F.un.there e o q (by simp)
   by_cases hb:e∈frs X.stack
   ·obtain ⟨_,o2,e2,nf⟩:=F.fl.2.2.1.mem hb
    obtain ⟨oe,vs,T,oT,ts,he,_,hd,_⟩:=F.fl.2.2.2
    rw [he] at e2; cases e2
    exact absurd hd (nf vs)
   ·have:=F.old e o o' q hb ho'
    rw [F.fl.2.1] at this; cases this
 have ne : ∀ b o,s₁.heap.get? b=some o→b≠e:=fun b o q z=>by rw [z,new] at q; cases q
 have nt : ∀ b u,H b=some u→b≠e:=fun b u q z=>by rw [z,hf] at q; cases q
 refine I.call' (ch:=[]) os ⟨F.un.keep,F.un.slot,fun b o q n hx=>?_,F.un.there,fun b xs q=>?_,fun b o u q=>?_,fun b ps q=>?_⟩ (fun b u q=>?_) bare fun b z=>absurd z (by simp)
 ·rw [upd_ne (ne b o q)]; exact F.un.free b o q n hx
 ·have:=F.un.tups b xs q
  rw [upd_ne (nt b _ this)]; exact this
 ·have:=F.un.frzs b o u q
  rw [upd_ne (nt b _ this)]; exact this
 ·obtain ⟨m,e1⟩:=F.un.tbls b ps q
  exact ⟨m,by rw [upd_ne (nt b _ e1)]; exact e1⟩
 ·by_cases hb:b=e
  ·subst hb
   rw [upd_same] at q; cases q
   exact hx.ok
  ·rw [upd_ne hb] at q
   exact (F.hok b u q).stay (fun _ _ _ z=>z) (fun c z=>by rw [upd_ne (nt c _ z)]; exact z) fun c xs z=>by rw [upd_ne (nt c _ z)]; exact z
end
abbrev Xh (X:Cx) (e:Addr) : Cx:={ X with A:=X.A.mark (some (.ref e)),calm:=false,xe:=fun _ _=>False }
section
variable {X:Cx} {pins:List (Addr × Obj)} {σ : St} {H:Hp} {s:Shared} {e:Addr} {D:Ends}
theorem Inv.toH (I:Inv X pins σ H s) (e:Addr) : Inv (Xh X e) pins σ H s :=
 ⟨⟨I.ok.mod,I.ok.kind,I.ok.glob,I.ok.blt,I.ok.above,I.ok.inj,I.ok.has,I.ok.cab,(fun h=>Bool.noConfusion h),I.ok.frames,I.ok.stk,I.ok.exf,I.ok.bs,I.ok.bsz,I.ok.noex,I.ok.exfs,I.ok.funs,I.ok.frf⟩,I.os,I.bare,I.base,I.loc,I.cell,I.free,I.freeC,I.pin,I.hok,I.len⟩
theorem Inv.ofH (I:Inv (Xh X e) pins σ H s) (ok:X.Ok) : Inv X pins σ H s:=⟨ok,I.os,I.bare,I.base,I.loc,I.cell,I.free,I.freeC,I.pin,I.hok,I.len⟩
theorem SP.ofH {f:Flow} {s':Shared} (h:SP (Xh X e) pins D f s') (ok:X.Ok) : SP X pins D f s':=by
 cases f with
 | next=>obtain ⟨σ',H',I,q⟩:=h; exact ⟨σ',H',I.ofH ok,q⟩
 | brk=>obtain ⟨σ',H',I,q⟩:=h; exact ⟨σ',H',I.ofH ok,q⟩
 | cont=>obtain ⟨σ',H',I,q⟩:=h; exact ⟨σ',H',I.ofH ok,q⟩
 | ret u=>obtain ⟨v,σ',H',I,r,q⟩:=h; exact ⟨v,σ',H',I.ofH ok,r,q⟩
theorem gone_ok {M:Model} {A:Around} {E:Value→Shared→Prop} {i:Nat} {x:Str} {pos:Pos} {Q:Unit→Shared→Prop} (I:Inv X pins σ H s) (hN:X.N.Nodup) (hi:X.N[i]?=some x) (hk:X.env.scope.names.lookup x=some .local)
  (h : ∀ s',Inv X pins (σ.set i none) H s'→Q () s') : wpAny M A (do bindName X.env x .none; unbindBehindTheSuite X.env x pos) Q E s:=by
 obtain ⟨m,hn,hl⟩:=id I.loc
 have hcls:(X.env.scope.kind == .class || (X.env.scope.kind == .module && X.env.locals != X.env.globals))=false:=by rw [I.ok.kind]; rfl
 have hiσ : i<σ.length:=by rw [I.len]; exact (List.getElem?_eq_some_iff.mp hi).1
 have cne:=I.cne
 obtain ⟨oL,_,_,hoL,_⟩:=id hn
 refine wpAny_nameGoes_keeps hk hn hcls fun h' v hn' hs=>?_
 refine h _ ⟨I.ok,I.os,I.bare,⟨fun b o e n hb hx=>?_,fun b o e n hb hx=>?_,I.base.free,fun b o e hx=>?_,I.base.tups,I.base.frzs,I.base.tbls⟩,⟨_,hn',fun j y v' e1 e2 e3=>?_⟩,fun y c e=>?_,I.free,I.freeC,fun p hp=>?_,fun b ob e=>?_,by simpa using I.len⟩
 ·exact (hs.2 b (Nat.ne_of_lt (Nat.lt_of_lt_of_le (Heap.lt_size e) I.ok.above))).trans (I.base.keep b o e n hb hx)
 ·obtain ⟨sl,e1⟩:=I.base.slot b o e n hb hx
  exact ⟨sl,(hs.2 b (Nat.ne_of_lt (Nat.lt_of_lt_of_le (Heap.lt_size e) I.ok.above))).trans e1⟩
 ·obtain ⟨o',e1⟩:=I.base.there b o e hx
  exact ⟨o',(hs.2 b (Nat.ne_of_lt (Nat.lt_of_lt_of_le (Heap.lt_size e) I.ok.above))).trans e1⟩
 ·by_cases hj:j=i
  ·subst hj
   rw [List.getElem?_set_self hiσ] at e2
   cases e2
  ·rw [List.getElem?_set_ne (Ne.symm hj)] at e2
   obtain ⟨u',r',q⟩:=hl j y v' e1 e2 e3
   refine ⟨u',r',?_⟩
   rcases q with ⟨k,e⟩ | ⟨k,c,e,z⟩
   ·refine .inl ⟨k,?_⟩
    have:y≠x:=fun e=>hj (nodup_ix hN e1 (e ▸ hi))
    simp [this,e]
   ·exact .inr ⟨k,c,e,z.sameBut hs (cne y c e)⟩
 ·obtain ⟨w',z⟩:=I.cell y c e
  exact ⟨w',z.sameBut hs (cne y c e)⟩
 ·obtain ⟨e,n,ne,nf,d⟩:=I.pin p hp
  exact ⟨(hs.2 p.1 ne).trans e,n,ne,nf,d⟩
 ·refine (I.hok b ob e).stay (fun c w' hc q=>(hs.2 c ?_).trans q) (fun _ q=>q) fun _ _ q=>q
  rintro rfl
  rcases hc with rfl | hc
  ·rw [I.free] at e; cases e
  ·rw [I.free] at hc; cases hc
end
abbrev TH:=Ends→St→Value→Addr→Hp→Prop
def PH (X:Cx) (hs:List ExceptHandler) (th:TH) : Prop :=
 ∀ (pins:List (Addr × Obj)) (s:Shared) (σ : St) (H:Hp) (D:Ends) (e:Addr) (cls:Value),Held X pins σ H s e cls→th D σ cls e H→wpAny (model X.prog X.w) X.A (handleBy (.ref e) X.env hs) (SP X pins D) X.xe s
def thNil:TH:=fun _ _ _ _ _=>False
section
variable {X:Cx} {hs:List ExceptHandler} {th:TH} {ts:TS} {D:Addr} {x n:Str} {np pos:Pos} {b₀ : Stmt} {suite:List Stmt} {i:Nat}
theorem ph_nil:PH X [] thNil:=fun _ _ _ _ _ _ _ _ h=>h.elim
end
def xeT (X:Cx) (pins:List (Addr × Obj)) (Es:St→XK) : Value→Shared→Prop:=fun ev s'=>∃ (σ : St) (H₁ : Hp) (s₁ : Shared),Inv X pins σ H₁ s₁∧CX1 X.prog X.w X.stack H₁ s₁ (Es σ) ev s'
abbrev Xt (X:Cx) (pins:List (Addr × Obj)) (Es:St→XK) : Cx:={ X with pn:=X.pn++pins,xe:=xeT X pins Es }
def tTry (tb:(St→XK)→TS) (th:TH) : TS:=fun D σ H=>tb (fun σ' cls _ H'=>∀ e,H' e=none→th D σ' cls e H') D σ H
def tCallT (sp:Sp) (Es:St→XK) (t:TA) : TE:=fun σ H Q=>t σ H fun vs H1=>sp vs H1 Q (Es σ)
section
variable {X:Cx} {pins:List (Addr × Obj)} {Es:St→XK} {σ : St} {H:Hp} {s:Shared}
theorem Inv.toT (I:Inv X pins σ H s) : Inv (Xt X pins Es) [] σ H s :=
 ⟨⟨I.ok.mod,I.ok.kind,I.ok.glob,I.ok.blt,I.ok.above,I.ok.inj,I.ok.has,I.ok.cab,I.ok.hd,I.ok.frames,I.ok.stk,I.ok.exf,I.ok.bs,I.ok.bsz,I.ok.noex,I.ok.exfs,I.ok.funs,I.ok.frf⟩,I.os,I.bare,I.base,I.loc,I.cell,I.free,I.freeC,fun p hp=>I.pin p (by simpa using hp),I.hok,I.len⟩
theorem Inv.ofT {ps':List (Addr × Obj)} (I:Inv (Xt X pins Es) ps' σ H s) : Inv X pins σ H s :=
 ⟨⟨I.ok.mod,I.ok.kind,I.ok.glob,I.ok.blt,I.ok.above,I.ok.inj,I.ok.has,I.ok.cab,I.ok.hd,I.ok.frames,I.ok.stk,I.ok.exf,I.ok.bs,I.ok.bsz,I.ok.noex,I.ok.exfs,I.ok.funs,I.ok.frf⟩,I.os,I.bare,I.base,I.loc,I.cell,I.free,I.freeC,fun p hp=>I.pin p (List.mem_append_left _ hp),I.hok,I.len⟩
theorem SP.ofT {D:Ends} {f:Flow} {s':Shared} (h:SP (Xt X pins Es) [] D f s') : SP X pins D f s':=by
 cases f with
 | next=>obtain ⟨σ',H',I,q⟩:=h; exact ⟨σ',H',I.ofT,q⟩
 | brk=>obtain ⟨σ',H',I,q⟩:=h; exact ⟨σ',H',I.ofT,q⟩
 | cont=>obtain ⟨σ',H',I,q⟩:=h; exact ⟨σ',H',I.ofT,q⟩
 | ret u=>obtain ⟨v,σ',H',I,r,q⟩:=h; exact ⟨v,σ',H',I.ofT,r,q⟩
theorem ps_try {body:List Stmt} {h₀ : ExceptHandler} {hs:List ExceptHandler} {pos:Pos} {tb:(St→XK)→TS} {th:TH} (hb : ∀ pins Es,PSs (Xt X pins Es) body (tb Es)) (hh:PH X (h₀ :: hs) th)
  (hst:X.stack=X.env :: X.outer:=by rfl) (hfr:X.env.frame=some X.env.locals:=by rfl) : PS X (.Try body (h₀ :: hs) [] [] pos) (tTry tb th):=by
 intro pins s σ H D I h
 refine wpAny_Try_except (wpAny_mono (hb pins _ [] s σ H D I.toT h) (fun f s₁ z=>?_) fun ev s₁ z=>?_)
 ·have z:=z.ofT
  cases f with
  | next=>exact wpAny_execs_nil z
  | brk=>exact z
  | cont=>exact z
  | ret u=>exact z
 ·obtain ⟨σ',H₁,s₁',I',e,cls,a0,B,H',rfl,os,bare,F,q⟩:=z
  have ff:=I'.ok.frames
  have fl:=F.fl
  rw [hst] at ff fl
  refine note_lone ff hfr fl F.lo fun h₄ held sm lo=>?_
  refine land_lone (s:={ s₁ with heap:=h₄ }) held.1 held.2.1 held.2.2.1 held.2.2.2 lo fun h₅ fl5 sm5 lo5=>?_
  have hd:Held X pins σ' H' { s₁ with heap:=h₅ } e cls:=⟨H₁,s₁',B,a0,I',os,bare,F.move (by rw [hst]; exact fl5) (sm.trans sm5) lo5⟩
  exact hh pins _ σ' H' D e cls hd (q e hd.free)
theorem pe_callT {CXk:Nat} {f:Addr} {fd:FuncData} {ps:List Str} {sp:Sp} {x:Str} {e:Expr} {es:List Expr} {p pos:Pos} {t:TA} (F:FnOk X.prog X.w X.K X.mg X.base (CX1 X.prog X.w) CXk f fd ps sp) (hr:Room CXk X.A) (hg:Gl X x) (hm:X.mg x=some (.ref f)) (hk:PySem.W.keepIn X.K (.ref f)=true) (hb:Binds X.K fd ps [])
  (ha:PA (Xt X pins Es) (e :: es) t) (hdb:(x == ("__debug__" : Str))=false:=by decide) (he:starEach (e :: es) X.env=(false,eval e X.env) :: starEach es X.env:=by rfl) (hpl:(backTo pos (starEach es X.env)).any (·.1)=false:=by rfl) :
  PE (Xt X pins Es) (.Call (.Name x p) (e :: es) [] pos) (tCallT sp Es t):=by
 intro pins' s σ H Q I h
 refine wpAny_Call_Name_kw (ld_glob I hg hm ?_ hdb)
 refine PySem.W.callWith_K (h₀:=X.base) I.ok.mod.kin hk (thn (ha pos pins' s σ H _ I h) fun us s1 ⟨vs,H1,I1,r,q⟩=>⟨I1.kIn,?_⟩) he hpl
 have hl:us.length=ps.length:=by rw [← r.length]; exact F.len _ _ _ _ q
 have bb:=hb s1 us I1.kIn (by rw [List.append_nil]; exact hl)
 rw [List.append_nil] at bb
 refine wpAny_call (codeAny_mono (F.run X.A X.stack s1 H1 ⟨us,[]⟩ us vs Q (Es σ) hr I1.env0 bb r q) fun r s' hq=>?_)
 cases r with
 | error ev=>exact ⟨σ,H1,s1,I1.ofT,hq⟩
 | ok fl =>
  cases fl with
  | ret u=>exact I1.after hq
  | next=>exact False.elim hq
  | brk=>exact False.elim hq
  | cont=>exact False.elim hq
end
end L2
namespace L2
open PySem PySem.Spec PyProof.Rows
structure RoomH (k:Nat) (A:Around) : Prop where
 gd:A.guards=some []
 dp:A.depth+3 * k+5<recursionLimit
 un:A.units+16 * k+200<cLine
theorem Room.mark {k:Nat} {A:Around} (r:Room k A) (e:Addr) : RoomH k (A.mark (some (.ref e))):=⟨r.gd,r.dp,r.un⟩
theorem RoomH.mono {j k:Nat} {A:Around} (r:RoomH k A) (h:j≤k) : RoomH j A:=⟨r.gd,by have:=r.dp; omega,by have:=r.un; omega⟩
theorem RoomH.deeper {k:Nat} {A:Around} (r:RoomH (k+1) A) (env:Env) : RoomH k (A.deeper env) :=
 ⟨r.gd,by have:=r.dp; show A.depth+1+3 * k+5<_; omega,by have:=r.un; show A.units+3+16 * k+200<_; omega⟩
theorem RoomH.depth {k:Nat} {A:Around} (r:RoomH k A) : A.depth<recursionLimit:=by have:=r.dp; omega
structure FnOkH (P:Program) (w:World) (K:PySem.W.Frag) (mg:Str→Option Value) (base:Heap) (k:Nat) (f:Addr) (fd:FuncData) (ps:List Str) (sp:Sp) : Prop where
 len : ∀ vs H Q E,sp vs H Q E→vs.length=ps.length
 run : ∀ (A:Around) (outer:List Env) (s:Shared) (H:Hp) (args:Args) (us:List Value) (vs:List V) (Q:VK) (E:XK),RoomH k A→Env0 P w K mg base A outer s H→BindsTo s fd args (ps.zip us)→Vals vs us→sp vs H Q E →
  codeAny (model P w) A (.call (.ref f) args) (CR CX0 outer P w H s Q E) s
section
variable {P:Program} {w:World} {K:PySem.W.Frag} {mg:Str→Option Value} {base:Heap} {N ps:List Str} {qual:Str} {scope:Scope} {f:Addr} {cdv:Value} {A:Around} {outer:List Env} {s:Shared} {H:Hp} {E:XK}
abbrev cxH (P:Program) (w:World) (K:PySem.W.Frag) (mg:Str→Option Value) (base:Heap) (N:List Str) (qual:Str) (scope:Scope) (f:Addr) (cdv:Value) (A:Around) (outer:List Env) (s:Shared) (H:Hp) : Cx :=
 { cxOf CX0 P w K mg base N qual scope f cdv A outer s H E0 with calm:=false,xe:=fun _ _=>False }
theorem inv_startH {s1:Shared} {us:List Value} {vs:List V}
  (S:FnScope N ps scope) (e0:Env0 P w K mg base A outer s H) (hl:vs.length=ps.length) (r:Vals vs us)
  (x:InCallC s s.heap.objs.size (bindL (envOfC qual scope s.heap.objs.size f cdv).kindOf (ps.zip us) fun _=>none) (cellsFrom (s.heap.objs.size+1) scope.names []) (bindC (envOfC qual scope s.heap.objs.size f cdv).kindOf (ps.zip us) fun _=>none) s1) :
  Inv (cxH P w K mg base N qual scope f cdv A outer s H) [] (start N vs) H s1:=by
 have e1:Env0 P w K mg base { A with handled:=none } outer s H:=⟨e0.frames,e0.mod,e0.bs,e0.bsz,e0.funs,e0.frf,e0.hok,e0.bare⟩
 have I:=inv_start (CX:=CX0) (E:=E0) (A:={ A with handled:=none }) (qual:=qual) S rfl e1 hl r x
 exact ⟨⟨I.ok.mod,I.ok.kind,I.ok.glob,I.ok.blt,I.ok.above,I.ok.inj,I.ok.has,I.ok.cab,(fun h=>Bool.noConfusion h),I.ok.frames,I.ok.stk,I.ok.exf,I.ok.bs,I.ok.bsz,I.ok.noex,I.ok.exfs,I.ok.funs,I.ok.frf⟩,I.os,I.bare,I.base,I.loc,I.cell,I.free,I.freeC,I.pin,I.hok,I.len⟩
end
structure FnAtH (P:Program) (w:World) (K:PySem.W.Frag) (mg:Str→Option Value) (base:Heap) (x:Str) (k:Nat) (ps:List Str) (sp:Sp) : Prop where
 ex : ∃ (f:Addr) (fd:FuncData),FnOkH P w K mg base k f fd ps sp∧mg x=some (.ref f)∧PySem.W.keepIn K (.ref f)=true∧Binds K fd ps []
structure FnAtX (P:Program) (w:World) (K:PySem.W.Frag) (mg:Str→Option Value) (base:Heap) (x:Str) (k:Nat) (ps:List Str) (sp:Sp) : Prop where
 ex : ∃ (f:Addr) (fd:FuncData),FnOk P w K mg base (CX1 P w) k f fd ps sp∧mg x=some (.ref f)∧PySem.W.keepIn K (.ref f)=true∧Binds K fd ps []
section
variable {X:Cx} {x:Str} {k:Nat} {ps:List Str} {sp:Sp} {e:Expr} {es:List Expr} {t:TA} {p pos:Pos}
theorem pe_callX1 {E:XK} (F:FnAtX X.prog X.w X.K X.mg X.base x k ps sp) (hx:Passes (CX1 X.prog X.w) X E) (hr:Room k X.A) (hg:Gl X x) (ha:PA X (e :: es) t) (hdb:(x == ("__debug__" : Str))=false:=by decide +kernel) (he:starEach (e :: es) X.env=(false,eval e X.env) :: starEach es X.env:=by rfl) (hpl:(backTo pos (starEach es X.env)).any (·.1)=false:=by rfl) :
  PE X (.Call (.Name x p) (e :: es) [] pos) (tCall sp [] E t):=by
 obtain ⟨f,fd,F,hm,hk,hb⟩:=F.ex
 exact pe_call F hr hg hm hk hb .nil hx ha hdb he hpl
theorem pe_callXT {pins:List (Addr × Obj)} {Es:St→XK} (F:FnAtX X.prog X.w X.K X.mg X.base x k ps sp) (hr:Room k X.A) (hg:Gl X x) (ha:PA (Xt X pins Es) (e :: es) t) (hdb:(x == ("__debug__" : Str))=false:=by decide +kernel) (he:starEach (e :: es) X.env=(false,eval e X.env) :: starEach es X.env:=by rfl) (hpl:(backTo pos (starEach es X.env)).any (·.1)=false:=by rfl) :
  PE (Xt X pins Es) (.Call (.Name x p) (e :: es) [] pos) (tCallT sp Es t):=by
 obtain ⟨f,fd,F,hm,hk,hb⟩:=F.ex
 exact pe_callT F hr hg hm hk hb ha hdb he hpl
end
end L2
namespace L2
open PySem PySem.Spec PyProof.Rows PySem.SeqAt
theorem pe_cls {X:Cx} {x:Str} {C:Addr} {pos:Pos} (hg:Gl X x) (hm:X.mg x=some (.ref C)) (hd:(x == ("__debug__" : Str))=false:=by decide) : PE X (.Name x pos) (tC (.ref C)):=pe_glob (v:=.ref C) hg hm rfl hd
theorem Same.seqT {K:PySem.W.Frag} {H H':Hp} {a:Addr} {xs:List V} (e:Same H H') (h:SqT K H a xs) : SqT K H' a xs:=by
 rcases h with (h | ⟨o,h⟩) | h
 ·exact .inl (.inl (e _ _ h))
 ·exact .inl (.inr ⟨o,e _ _ h⟩)
 ·exact .inr h
end L2
namespace L2
open PySem PySem.Spec PyProof.Rows PySem.SeqAt
section
variable {X:Cx} {K:PySem.W.Frag}
def rInsert:V→List V→Hp→VK→Prop:=fun x vs H Q=>∃ (l:Addr) (xs:List V) (i:Int) (y:V),x=.ref l∧vs=[.int i,y]∧H l=some (.lst xs)∧0≤i∧i≤xs.length∧xs.length≤1000000∧Q .non (upd H l (.lst (xs.take i.toNat++y :: xs.drop i.toNat)))
theorem ins_eq (its:List Value) (k:Nat) (y:Value) : (its.toArray.extract 0 k).push y++its.toArray.extract k=(its.take k++y :: its.drop k).toArray:=by
 apply Array.toList_inj.mp
 simp [List.take_of_length_le]
theorem mt_insert:MtR X "list.insert" rInsert:=by
 intro pins s σ H x vs v us Q I rx rv h
 obtain ⟨l,xs,i,y,rfl,rfl,hH,h0,h1,hz,q⟩:=h
 cases rx
 obtain ⟨u,u',rfl,⟨t,rfl⟩,ru⟩:=vals2 rv
 obtain ⟨z,its,n,r,hl,e⟩:=I.lstM hH
 have big:(10000000:Nat)≤sizeLine:=by decide
 refine call_meets F.slot_list_insert ⟨_,e,rfl⟩ F.entry_list_insert (F.args_list_insert_3 _ _ _) (PySem.AutoSeq1.list_insert_list_int_val_1 l its.toArray n i t u' (by rw [fitsIndex_both (by omega) (by omega)]; simp) (by rw [List.size_toArray]; omega)) ⟨e,?_⟩
 refine ⟨.non,_,I.lset (its':=its.take i.toNat++u' :: its.drop i.toNat) hH e ?_ ((r.take _).append (.cons ru (r.drop _))) ?_,rfl,q⟩
 ·dsimp only
  rw [if_neg (by omega)]
  have:min i.toNat its.toArray.size=i.toNat:=by rw [List.size_toArray]; omega
  rw [this]
  exact ins_eq its _ u'
 ·rw [List.length_append,List.length_take,List.length_cons,List.length_drop]
  omega
end
end L2
namespace L2
open PySem PySem.Spec PyProof.Rows PySem.SeqAt
section
variable {X:Cx} {K:PySem.W.Frag}
def CPowB (i j:Int) : Prop:=0≤j∧j≤1000∧i.natAbs<2 ^ 400
theorem op_powB:OpR X (binaryOp .Pow) (rI CPowB fun i j=>.int (i ^ j.toNat)):=opI fun i j _ _ _ _ _ hc q=>by
 refine pow_int hc.1 ?_ q
 have h1:=hc.1
 have h2:=hc.2.1
 have h3:=hc.2.2
 have hb:Builtin.Int.intBits i≤400:=by
  unfold Builtin.Int.intBits
  split
  ·omega
  ·rename_i hz
   have:=(Nat.log2_lt (n:=i.natAbs) (k:=400) (by simpa using hz)).mpr h3
   omega
 have:(Builtin.Int.intBits i:Int) * j≤400 * 1000:=Int.mul_le_mul (by omega) h2 h1 (by omega)
 exact Int.le_trans this (by decide)
end
theorem st_con {c k p es env} : starEach (.Constant c k p :: es) env=(false,eval (.Constant c k p) env) :: starEach es env:=rfl
theorem st_name {x p es env} : starEach (.Name x p :: es) env=(false,eval (.Name x p) env) :: starEach es env:=rfl
theorem st_bin {a o b p es env} : starEach (.BinOp a o b p :: es) env=(false,eval (.BinOp a o b p) env) :: starEach es env:=rfl
theorem st_call {f a k p es env} : starEach (.Call f a k p :: es) env=(false,eval (.Call f a k p) env) :: starEach es env:=rfl
def conV:Expr→Option V
 | .Constant (.int i) _ _=>some (.int i)
 | .Constant (.str s) _ _=>some (.str s)
 | _=>none
def consV:List Expr→Option (List V)
 | []=>some []
 | e :: es=>match conV e,consV es with
  | some v,some vs=>some (v :: vs)
  | _,_=>none
def tConsts (vs:List V) : TA:=fun _ H Q=>Q vs H
theorem pa_consts {X:Cx} : ∀ (es:List Expr) (vs:List V),consV es=some vs→PA X es (tConsts vs)
 | [],vs,h=>by cases h; exact pa_nil
 | e :: es,vs,h=>by
  unfold consV at h
  cases h1:conV e with
  | none=>rw [h1] at h; cases h
  | some v =>
   cases h2:consV es with
   | none=>rw [h1,h2] at h; cases h
   | some ws =>
    rw [h1,h2] at h
    cases h
    have ih:=pa_consts (X:=X) es ws h2
    unfold conV at h1
    split at h1
    ·cases h1
     exact pa_cons pe_int ih st_con
    ·cases h1
     exact pa_cons pe_str ih st_con
    ·cases h1
end L2
namespace Sw
open PySem L2
def top (i:Nat) : Stmt:=PySem.Challenge.pw_swapstars_k38_chains_refused.main.body.getD i (.Pass ⟨0,0,0,0⟩)
structure Purse (H:Hp) (p:Addr) (c:Nat) : Prop where
 ex : ∃ (a b d:Int),H p=some (.lst [.int a,.int b,.int d])∧0≤a∧0≤b∧b<2147483647∧0≤d∧d≤c∧c≤100000
section
variable {P:Program} {w:World} {K:PySem.W.Frag} {mg:Str→Option Value} {base:Heap}
structure TPurse (mg:Str→Option Value) : Prop where
 b_len:mg "len" = none
 b_abs:mg "abs" = none
 b_int:mg "int" = none
end
end Sw
namespace L2
open PySem
theorem call_list_ofK {X:Cx} {K:PySem.W.Frag} (h:X.K=K) : CallR X (.type "list") (fun xs H Q=>∃ p ys,xs=[.ref p]∧(SqL K H p ys∨SqT K H p ys)∧∀ l,H l=none→Q (.ref l) (upd H l (.lst ys))):=by subst h; exact call_list_of
theorem call_tuple_ofK {X:Cx} {K:PySem.W.Frag} (h:X.K=K) : CallR X (.type "tuple") (fun xs H Q=>∃ p ys,xs=[.ref p]∧((SqL K H p ys∧∀ l,H l=none→Q (.ref l) (upd H l (.tup ys)))∨(SqT K H p ys∧Q (.ref p) H))):=by subst h; exact call_tuple_of
end L2
namespace Sw
open PySem L2
def spPlain:Sp:=fun vs H Q _=>∃ (n:Int),vs=[.int n]∧0≤n∧n≤1000∧∀ t H',H t=none→H' t=some (.tup ((ivl 1 (n+1)).map V.int))→Same H H'→Q (.ref t) H'
def spEx:Sp:=fun vs H Q _=>∃ (t:Addr) (a b x:Int),vs=[.ref t,.int x]∧H t=some (.tup [.int a,.int b])∧Q (.int (swp x (a,b))) H
def spLed:Sp:=fun vs H Q _=>∃ (n:Int) (l:Addr) (es:List V) (row:List (Int × Int)),vs=[.int n,.ref l]∧0≤n∧n≤1000∧H l=some (.lst es)∧Exs H es row∧Good n row∧∀ t H',H t=none→H' t=some (.tup ((ledM n row).map V.int))→Same H H'→Q (.ref t) H'
structure T1 (mg:Str→Option Value) (K:PySem.W.Frag) : Prop extends TPurse mg where
 b_all:mg "all" = none
 b_isinstance:mg "isinstance" = none
 b_bool:mg "bool" = none
 b_tuple:mg "tuple" = none
 b_list:mg "list" = none
 b_range:mg "range" = none
 k_ib:PySem.W.kitOne K (.type "int") (.type "bool")=some false
theorem take_succ_map {α β : Type} (f : α→β) {l:List α} {i:Nat} {x : α} (h:l[i]?=some x) : (l.take (i+1)).map f=(l.take i).map f++[f x]:=by
 rw [List.take_succ,h,List.map_append]; rfl
theorem go_take {row:List (Int × Int)} {i:Nat} {e:Int × Int} (h:row[i]?=some e) (x:Int) : go (row.take (i+1)) x=swp (go (row.take i) x) e:=by
 rw [List.take_succ,h,go_append]; rfl
theorem eraseIdx_map {ls:List Int} : ∀ {k:Nat},(ls.map V.int).eraseIdx k=(ls.eraseIdx k).map V.int:=by
 induction ls with
 | nil=>intro k; rfl
 | cons a t ih =>
  intro k
  cases k with
  | zero=>rfl
  | succ k =>
   rw [List.map_cons,List.eraseIdx_cons_succ,List.eraseIdx_cons_succ,List.map_cons,ih]
theorem mem_int {ns:List Int} {i:Nat} {x:V} (h:(ns.map V.int)[i]?=some x) : ∃ z,x=.int z∧ns[i]?=some z:=by
 rw [List.getElem?_map] at h
 cases e:ns[i]? with
 | none=>rw [e] at h; cases h
 | some z=>rw [e] at h; exact ⟨z,(Option.some.inj h).symm,rfl⟩
theorem at_int {ns:List Int} {i:Int} {z:Int} (h0 : 0≤i) (h:ns[i.toNat]?=some z) : atI (ns.map V.int) i=some (V.int z):=by
 have e:((i.toNat:Nat) : Int)=i:=Int.toNat_of_nonneg h0
 rw [← e]
 exact atI_nat (by rw [List.getElem?_map,h]; rfl)
theorem get_lt {ns:List Int} {k:Nat} (h:k<ns.length) : ∃ z,ns[k]?=some z:=⟨_,List.getElem?_eq_getElem h⟩
theorem ixN_lt {n:Nat} {i:Int} (h0 : 0≤i) (h:i<n) : ixN n i=some i.toNat:=by
 unfold ixN
 rw [if_pos h0,if_pos h]
theorem map_get {ns:List Int} {k:Nat} {z:Int} (h:ns[k]?=some z) : (ns.map V.int)[k]?=some (V.int z):=by rw [List.getElem?_map,h]; rfl
inductive Lsts (H:Hp) : List V→List (List Int)→Prop
 | nil:Lsts H [] []
 | cons {a:Addr} {ns:List Int} {vs:List V} {r:List (List Int)} : H a=some (.lst (ns.map V.int))→Lsts H vs r→Lsts H (.ref a :: vs) (ns :: r)
theorem Lsts.length {H:Hp} : ∀ {vs:List V} {r:List (List Int)},Lsts H vs r→vs.length=r.length
 | _,_,.nil=>rfl
 | _,_,.cons _ x=>by rw [List.length_cons,List.length_cons,x.length]
theorem Lsts.keep {H H':Hp} (k:Same H H') : ∀ {vs:List V} {r:List (List Int)},Lsts H vs r→Lsts H' vs r
 | _,_,.nil=>.nil
 | _,_,.cons h x=>.cons (k _ _ h) (x.keep k)
theorem Lsts.append {H:Hp} : ∀ {vs ws:List V} {r q:List (List Int)},Lsts H vs r→Lsts H ws q→Lsts H (vs++ws) (r++q)
 | _,_,_,_,.nil,y=>y
 | _,_,_,_,.cons h x,y=>.cons h (x.append y)
theorem Lsts.snoc {H:Hp} {vs:List V} {r:List (List Int)} {a:Addr} {ns:List Int} (x:Lsts H vs r) (h:H a=some (.lst (ns.map V.int))) : Lsts H (vs++[.ref a]) (r++[ns]):=x.append (.cons h .nil)
theorem Lsts.get {H:Hp} : ∀ {vs:List V} {r:List (List Int)} {i:Nat} {x:V},Lsts H vs r→vs[i]?=some x→∃ a ns,x=.ref a∧H a=some (.lst (ns.map V.int))∧r[i]?=some ns
 | _,_,_,_,.nil,e=>by simp at e
 | _,_,0,_,.cons h x,e=>by simp at e; subst e; exact ⟨_,_,rfl,h,rfl⟩
 | _,_,i+1,_,.cons h x,e=>by
  obtain ⟨t,a,e1,e2,e3⟩:=x.get (i:=i) (by simpa using e)
  exact ⟨t,a,e1,e2,by simpa using e3⟩
theorem Lsts.mem {H:Hp} {vs:List V} {r:List (List Int)} (x:Lsts H vs r) {a:Addr} (h:V.ref a∈vs) : ∃ ns,H a=some (.lst ns):=by
 obtain ⟨i,hi,e⟩:=List.mem_iff_getElem.mp h
 obtain ⟨b,ns,e1,e2,_⟩:=x.get (i:=i) (by rw [List.getElem?_eq_getElem hi,e])
 cases e1
 exact ⟨_,e2⟩
theorem Lsts.off {H:Hp} {a:Addr} {o:HO} : ∀ {vs:List V} {r:List (List Int)},Lsts H vs r→V.ref a∉vs→Lsts (upd H a o) vs r
 | _,_,.nil,_=>.nil
 | _,_,.cons (a:=b) h x,n=>by
  refine .cons ?_ (x.off fun z=>n (List.mem_cons_of_mem _ z))
  rw [upd_ne (by intro z; subst z; exact n List.mem_cons_self)]
  exact h
def Fresh (H:Hp) (vs:List V) : Prop:=vs.Nodup∧∀ v∈vs,∃ a,v=.ref a∧H a=none
theorem Fresh.nil {H:Hp} : Fresh H []:=⟨List.nodup_nil,fun v h=>by cases h⟩
theorem Fresh.snoc {H H':Hp} {vs:List V} {r:List (List Int)} {a:Addr} (f:Fresh H vs) (x:Lsts H' vs r) (h':H' a=none) (h:H a=none) : Fresh H (vs++[.ref a]):=by
 refine ⟨List.nodup_append.mpr ⟨f.1,by simp,?_⟩,fun v hv=>?_⟩
 ·intro y hy z hz e
  rw [List.mem_singleton.mp hz] at e
  subst e
  obtain ⟨ns,e⟩:=x.mem hy
  rw [h'] at e
  cases e
 ·rcases List.mem_append.mp hv with z | z
  ·exact f.2 v z
  ·exact ⟨a,List.mem_singleton.mp z,h⟩
theorem Fresh.sub {H:Hp} {vs ws:List V} (f:Fresh H vs) (s:ws.Sublist vs) : Fresh H ws:=⟨f.1.sublist s,fun v h=>f.2 v (s.subset h)⟩
def spRf:Sp:=fun vs H Q _=>∃ (t:Addr) (n x:Int) (xs:List Int),vs=[.ref t,.int x]∧H t=some (.tup (xs.map V.int))∧Ord n xs∧n≤1000∧1≤x∧x≤n∧∀ l H',H l=none→H' l=some (.lst ((orb xs x).map V.int))→Same H H'→Q (.ref l) H'
def spRounds:Sp:=fun vs H Q _=>∃ (t:Addr) (n:Int) (xs:List Int),vs=[.ref t]∧H t=some (.tup (xs.map V.int))∧Ord n xs∧n≤1000∧∀ l ws H',H l=none→H' l=some (.lst ws)→Lsts H' ws (rndM n xs)→Fresh H ws→V.ref l∉ws→Same H H'→Q (.ref l) H'
theorem iteP {A B:Prop} {b:Bool} (h:b=true) (x:A) : if b=true then A else B:=by rw [if_pos h]; exact x
theorem iteE {A B:Prop} {b:Bool} (h:b=false) (x:B) : if b=true then A else B:=by rw [h,if_neg Bool.false_ne_true]; exact x
theorem Lsts.dat {K:PySem.W.Frag} {H:Hp} : ∀ {vs:List V} {r:List (List Int)},Lsts H vs r→DatAll K H (fun _=>True) vs (r.map fun p=>.list (p.map PyData.int))
 | _,_,.nil=>.nil
 | _,_,.cons h x=>.cons (.lst (SqL.of h) True.intro (ints_dat _)) x.dat
theorem Lsts.set {H:Hp} : ∀ {vs:List V} {r:List (List Int)} {i:Nat} {a:Addr} {ns:List Int},Lsts H vs r→vs.Nodup→vs[i]?=some (.ref a)→Lsts (upd H a (.lst (ns.map V.int))) vs (r.set i ns)
 | _,_,_,_,_,.nil,_,h=>by simp at h
 | _,_,0,a,ns,.cons (a:=b) (vs:=vs) h x,nd,e=>by
  have e:b=a:=by simpa using e
  subst e
  rw [List.nodup_cons] at nd
  rw [List.set_cons_zero]
  refine .cons upd_same (x.off nd.1)
 | _,_,i+1,a,ns,.cons (a:=b) (vs:=vs) h x,nd,e=>by
  rw [List.nodup_cons] at nd
  rw [List.set_cons_succ]
  have e:vs[i]?=some (.ref a):=by simpa using e
  refine .cons ?_ (x.set nd.2 e)
  rw [upd_ne (by intro z; subst z; exact nd.1 (List.mem_of_getElem? e))]
  exact h
theorem Lsts.eraseIdx {H:Hp} : ∀ {vs:List V} {r:List (List Int)} (k:Nat),Lsts H vs r→Lsts H (vs.eraseIdx k) (r.eraseIdx k)
 | _,_,_,.nil=>.nil
 | _,_,0,.cons h x=>x
 | _,_,k+1,.cons h x=>.cons h (x.eraseIdx k)
def spIw:Sp:=fun vs H Q _=>∃ x:Int,vs=[.int x]∧Q (.bl true) H
def spBt:Sp:=fun vs H Q _=>∃ x lo hi:Int,vs=[.int x,.int lo,.int hi]∧Q (.bl (decide (lo≤x∧x≤hi))) H
def spCheck:Sp:=fun vs H Q _=>∃ (n:Int) (l:Addr) (ws:List V) (rs:List (List Int)),vs=[.int n,.ref l]∧H l=some (.lst ws)∧Lsts H ws rs∧ws.length≤1000∧(∀ r∈rs,r≠[]∧r.length≤1000∧∀ x∈r,1≤x∧x≤n)∧rs.flatten.Nodup∧∀ H',Same H H'→Q .non H'
def spMade:Sp:=fun vs H Q _=>∃ (n:Int) (l:Addr) (ws:List V) (rs:List (List Int)) (xs:List Int),vs=[.int n,.ref l]∧0≤n∧n≤1000∧H l=some (.lst ws)∧Lsts H ws rs∧ws.length≤1000∧(∀ r∈rs,r.length≤1000)∧xs.length=n.toNat∧Rnds n xs rs∧∀ t H',H t=none→H' t=some (.tup (xs.map V.int))→Same H H'→Q (.ref t) H'
def spLaw (K:PySem.W.Frag) : Sp:=fun vs H Q _=>∃ (a:Addr) (ns:List Int),vs=[.ref a]∧SqL K H a (ns.map V.int)∧ns.length≤63∧∀ H',Q (.bl true) H'
theorem Same.put {l:Addr} {H H':Hp} {o:HO} (s:Same H H') (h:H l=none) : Same H (upd H' l o):=fun b o' e=>by
 rw [upd_ne (ne_of_none e h)]
 exact s b o' e
end Sw
namespace Sw
open PySem L2
def isw:PyData→Bool
 | .int _=>true
 | _=>false
def btw (lo hi:Int) : PyData→Bool
 | .int i=>decide (lo≤i∧i≤hi)
 | _=>false
def spIwD:Sp:=fun vs H Q _=>∃ (v:V) (P:Addr→Prop) (d:PyData),vs=[v]∧DT H P v d∧Q (.bl (isw d)) H
def spBtD:Sp:=fun vs H Q _=>∃ (v:V) (P:Addr→Prop) (d:PyData) (lo hi:Int),vs=[v,.int lo,.int hi]∧DT H P v d∧Q (.bl (btw lo hi d)) H
theorem DT.same {H H':Hp} {P:Addr→Prop} {v:V} {d:PyData} (h:DT H P v d) (s:Same H H') : DT H' P v d:=h.keep fun b o _ e=>s b o e
theorem DTs.same {H H':Hp} {P:Addr→Prop} {v:List V} {d:List PyData} (h:DTs H P v d) (s:Same H H') : DTs H' P v d:=h.keep fun b o _ e=>s b o e
structure TD (P:Program) (w:World) (K:PySem.W.Frag) (mg:Str→Option Value) (base:Heap) : Prop extends T1 mg K where
 f_is_whole:FnAt P w K mg base "is_whole" 1 ["thing"] spIwD
structure TD2 (P:Program) (w:World) (K:PySem.W.Frag) (mg:Str→Option Value) (base:Heap) : Prop extends T1 mg K where
 f_is_between:FnAt P w K mg base "is_between" 2 ["thing", "low", "high"] spBtD
end Sw
namespace Sw
open PySem L2
section
variable {n:Int} {xs:List Int} {a b:Int}
theorem el_inj (o:Ord n xs) (a1 : 1≤a) (a2:a≤n) {i j:Nat} (hj:j<per xs a) (hij:i<j) : itn (ld xs) i a≠itn (ld xs) j a:=by
 intro e
 have e2:itn (ld xs) (i+(j - i)) a=itn (ld xs) i (itn (ld xs) (j - i) a):=itn_add _ _ _ _
 rw [show i+(j - i)=j by omega,← e] at e2
 have q:=itn_in o a1 a2 (j - i)
 have:=itn_inj o a1 a2 q.1 q.2 i e2
 exact per_ne (by omega) (by omega) this.symm
theorem el_ne (o:Ord n xs) (a1 : 1≤a) (a2:a≤n) {i j:Nat} (hi:i<per xs a) (hj:j<per xs a) (h:i≠j) : itn (ld xs) i a≠itn (ld xs) j a:=by
 rcases Nat.lt_or_gt_of_ne h with z | z
 ·exact el_inj o a1 a2 hj z
 ·exact (el_inj o a1 a2 hi z).symm
variable (o:Ord n xs) (ga : 1≤a) (gab:a<b) (gb:b≤n) {k:Nat} (hk0 : 0<k) (hk:k<per xs a) (hb:itn (ld xs) k a=b)
include o ga gab gb hk0 hk hb
theorem cut_ldS {x:Int} (h1 : 1≤x) (h2:x≤n) : ld (xs.map (swp · (a,b))) x=if ld xs x=a then b else if ld xs x=b then a else ld xs x:=by
 rw [ld_map o _ h1 h2]; rfl
theorem cut_A {l:Nat} (hl:l<k) : ld (xs.map (swp · (a,b))) (itn (ld xs) l a)=if l+1=k then a else itn (ld xs) (l+1) a:=by
 have r:=itn_in o ga (by omega) l
 rw [cut_ldS o ga gab gb hk0 hk hb r.1 r.2]
 show (if itn (ld xs) (l+1) a=a then b else if itn (ld xs) (l+1) a=b then a else itn (ld xs) (l+1) a)=_
 rw [if_neg (per_ne (by omega) (by omega))]
 by_cases e:l+1=k
 ·rw [if_pos (by rw [e]; exact hb),if_pos e]
 ·rw [if_neg (by rw [← hb]; exact el_ne o ga (by omega) (by omega) hk (by omega)),if_neg e]
theorem cut_B {l:Nat} (hl:k≤l) (hl2:l<per xs a) : ld (xs.map (swp · (a,b))) (itn (ld xs) l a)=if l+1=per xs a then b else itn (ld xs) (l+1) a:=by
 have r:=itn_in o ga (by omega) l
 rw [cut_ldS o ga gab gb hk0 hk hb r.1 r.2]
 show (if itn (ld xs) (l+1) a=a then b else if itn (ld xs) (l+1) a=b then a else itn (ld xs) (l+1) a)=_
 by_cases e:l+1=per xs a
 ·rw [if_pos (by rw [e]; exact per_eq o ga (by omega)),if_pos e]
 ·rw [if_neg (per_ne (by omega) (by omega)),if_neg (by rw [← hb]; exact el_ne o ga (by omega) (by omega) hk (by omega)),if_neg e]
theorem walk_A : ∀ j,∃ l,l<k∧itn (ld (xs.map (swp · (a,b)))) j a=itn (ld xs) l a
 | 0=>⟨0,hk0,rfl⟩
 | j+1=>by
  obtain ⟨l,hl,e⟩:=walk_A j
  show ∃ l,l<k∧ld _ (itn _ j a)=_
  rw [e,cut_A o ga gab gb hk0 hk hb hl]
  by_cases e2:l+1=k
  ·rw [if_pos e2]; exact ⟨0,hk0,rfl⟩
  ·rw [if_neg e2]; exact ⟨l+1,by omega,rfl⟩
theorem walk_A' : ∀ l,l<k→itn (ld (xs.map (swp · (a,b)))) l a=itn (ld xs) l a
 | 0,_=>rfl
 | l+1,h=>by
  show ld _ (itn _ l a)=_
  rw [walk_A' l (by omega),cut_A o ga gab gb hk0 hk hb (by omega),if_neg (by omega)]
theorem walk_B : ∀ j,∃ l,k≤l∧l<per xs a∧itn (ld (xs.map (swp · (a,b)))) j b=itn (ld xs) l a
 | 0=>⟨k,Nat.le_refl _,hk,hb.symm⟩
 | j+1=>by
  obtain ⟨l,hl,hl2,e⟩:=walk_B j
  show ∃ l,k≤l∧l<per xs a∧ld _ (itn _ j b)=_
  rw [e,cut_B o ga gab gb hk0 hk hb hl hl2]
  by_cases e2:l+1=per xs a
  ·rw [if_pos e2]; exact ⟨k,Nat.le_refl _,hk,hb.symm⟩
  ·rw [if_neg e2]; exact ⟨l+1,by omega,by omega,rfl⟩
theorem walk_B' : ∀ l,k+l<per xs a→itn (ld (xs.map (swp · (a,b)))) l b=itn (ld xs) (k+l) a
 | 0,_=>hb.symm
 | l+1,h=>by
  show ld _ (itn _ l b)=_
  rw [walk_B' l (by omega),cut_B o ga gab gb hk0 hk hb (by omega) (by omega),if_neg (by omega)]
  rfl
theorem walk_C {x:Int} (h1 : 1≤x) (h2:x≤n) (hx:x∉orb xs a) : ∀ j,itn (ld (xs.map (swp · (a,b)))) j x=itn (ld xs) j x∧itn (ld xs) j x∉orb xs a
 | 0=>⟨rfl,hx⟩
 | j+1=>by
  obtain ⟨e,no⟩:=walk_C h1 h2 hx j
  have r:=itn_in o h1 h2 j
  have r':=itn_in o h1 h2 (j+1)
  have no':itn (ld xs) (j+1) x∉orb xs a:=fun z=>by
   -- a lies in the round of x then, and x in that of a
   have z1:itn (ld xs) (j+1) x∈orb xs x:=(orb_mem o h1 h2).mpr ⟨j+1,rfl⟩
   have z2:=orb_sym o ga (by omega) z
   have z3:=orb_trans o h1 h2 z1 z2
   exact hx (orb_sym o h1 h2 z3)
  refine ⟨?_,no'⟩
  show ld _ (itn _ j x)=_
  rw [e,cut_ldS o ga gab gb hk0 hk hb r.1 r.2]
  show (if itn (ld xs) (j+1) x=a then b else if itn (ld xs) (j+1) x=b then a else itn (ld xs) (j+1) x)=_
  rw [if_neg (fun z=>no' (by rw [z]; exact orb_self a)),if_neg (fun z=>no' (by rw [z]; exact (orb_mem o ga (by omega)).mpr ⟨k,hb⟩))]
theorem cut_any:cnt n (xs.map (swp · (a,b)))=cnt n xs+1:=by
 have gd : 1≤((a,b) : Int × Int).1∧((a,b) : Int × Int).1<((a,b) : Int × Int).2∧((a,b) : Int × Int).2≤n:=⟨ga,gab,gb⟩
 have o':=map_ord o gd
 have a2:a≤n:=by omega
 have b1 : 1≤b:=by omega
 -- the two parts
 have pA : ∀ y,y∈orb (xs.map (swp · (a,b))) a↔∃ l,l<k∧itn (ld xs) l a=y:=fun y=>by
  rw [orb_mem o' ga a2]
  constructor
  ·rintro ⟨j,rfl⟩
   obtain ⟨l,hl,e⟩:=walk_A o ga gab gb hk0 hk hb j
   exact ⟨l,hl,e.symm⟩
  ·rintro ⟨l,hl,rfl⟩
   exact ⟨l,walk_A' o ga gab gb hk0 hk hb l hl⟩
 have pB : ∀ y,y∈orb (xs.map (swp · (a,b))) b↔∃ l,k≤l∧l<per xs a∧itn (ld xs) l a=y:=fun y=>by
  rw [orb_mem o' b1 gb]
  constructor
  ·rintro ⟨j,rfl⟩
   obtain ⟨l,hl,hl2,e⟩:=walk_B o ga gab gb hk0 hk hb j
   exact ⟨l,hl,hl2,e.symm⟩
  ·rintro ⟨l,hl,hl2,rfl⟩
   exact ⟨l - k,by rw [walk_B' o ga gab gb hk0 hk hb (l - k) (by omega),show k+(l - k)=l by omega]⟩
 have pO : ∀ y,y∈orb xs a↔y∈orb (xs.map (swp · (a,b))) a∨y∈orb (xs.map (swp · (a,b))) b:=fun y=>by
  rw [pA,pB,orb_mem o ga a2]
  constructor
  ·rintro ⟨j,rfl⟩
   obtain ⟨l,hl,e⟩:=itn_mod o ga a2 j
   by_cases h:l<k
   ·exact .inl ⟨l,h,e.symm⟩
   ·exact .inr ⟨l,by omega,hl,e.symm⟩
  ·rintro (⟨l,_,rfl⟩ | ⟨l,_,_,rfl⟩)
   ·exact ⟨l,rfl⟩
   ·exact ⟨l,rfl⟩
 have dis : ∀ y,y∈orb (xs.map (swp · (a,b))) a→y∈orb (xs.map (swp · (a,b))) b→False:=fun y ya yb=>by
  obtain ⟨l,hl,e⟩:=(pA y).mp ya
  obtain ⟨l',hl',hl2,e'⟩:=(pB y).mp yb
  exact el_ne o ga a2 (by omega) hl2 (by omega) (e.trans e'.symm)
 -- least of a round, by any of its things
 have leastOf : ∀ {zs:List Int} (oz:Ord n zs) {c x:Int},1≤c→c≤n→x∈orb zs c→(least zs x=true↔∀ y∈orb zs c,x≤y):=fun {zs} oz {c x} c1 c2 hx=>by
  have hx':=orb_in oz c1 c2 hx
  unfold least
  rw [List.all_eq_true]
  constructor
  ·intro h y hy
   exact of_decide_eq_true (h y (orb_trans oz hx'.1 hx'.2 (orb_sym oz c1 c2 hx) hy))
  ·intro h y hy
   exact decide_eq_true (h y (orb_trans oz c1 c2 hx hy))
 obtain ⟨mA,mA1,mA2⟩:=least_ex (l:=orb (xs.map (swp · (a,b))) a) (List.ne_nil_of_mem (orb_self a))
 obtain ⟨mB,mB1,mB2⟩:=least_ex (l:=orb (xs.map (swp · (a,b))) b) (List.ne_nil_of_mem (orb_self b))
 have ne:mA≠mB:=fun z=>dis mA mA1 (by rw [z]; exact mB1)
 have iA:=orb_in o' ga a2 mA1
 have iB:=orb_in o' b1 gb mB1
 have off : ∀ x,1≤x→x≤n→x∉orb xs a→least xs x=least (xs.map (swp · (a,b))) x:=fun x h1 h2 hx=>by
  rw [Bool.eq_iff_iff,least_iff o h1 h2,least_iff o' h1 h2]
  constructor
  ·intro h j
   rw [(walk_C o ga gab gb hk0 hk hb h1 h2 hx j).1]; exact h j
  ·intro h j
   have:=h j
   rwa [(walk_C o ga gab gb hk0 hk hb h1 h2 hx j).1] at this
 -- the one that begins a round anew
 have go : ∀ g m,(g=mA∧m=mB∨g=mB∧m=mA)→m<g→cnt n (xs.map (swp · (a,b)))=cnt n xs+1:=by
  intro g m hgm lt
  have mO:m∈orb xs a:=(pO m).mpr (by rcases hgm with ⟨_,rfl⟩ | ⟨_,rfl⟩; exact .inr mB1; exact .inl mA1)
  have gO:g∈orb xs a:=(pO g).mpr (by rcases hgm with ⟨rfl,_⟩ | ⟨rfl,_⟩; exact .inl mA1; exact .inr mB1)
  have gi:=orb_in o ga a2 gO
  have low : ∀ y∈orb xs a,m≤y:=fun y hy=>by
   rcases (pO y).mp hy with z | z
   ·have:=mA2 y z
    rcases hgm with ⟨rfl,rfl⟩ | ⟨rfl,rfl⟩ <;> omega
   ·have:=mB2 y z
    rcases hgm with ⟨rfl,rfl⟩ | ⟨rfl,rfl⟩ <;> omega
  have lA : ∀ x∈orb (xs.map (swp · (a,b))) a,(least (xs.map (swp · (a,b))) x=true↔x=mA):=fun x hx=>by
   rw [leastOf o' ga a2 hx]
   constructor
   ·intro h
    exact Int.le_antisymm (h mA mA1) (mA2 x hx)
   ·rintro rfl
    exact mA2
  have lB : ∀ x∈orb (xs.map (swp · (a,b))) b,(least (xs.map (swp · (a,b))) x=true↔x=mB):=fun x hx=>by
   rw [leastOf o' b1 gb hx]
   constructor
   ·intro h
    exact Int.le_antisymm (h mB mB1) (mB2 x hx)
   ·rintro rfl
    exact mB2
  have lO : ∀ x∈orb xs a,(least xs x=true↔x=m):=fun x hx=>by
   rw [leastOf o ga a2 hx]
   constructor
   ·intro h
    exact Int.le_antisymm (h m mO) (low x hx)
   ·rintro rfl
    exact low
  unfold cnt
  refine filter_one (g:=g) ?_ ?_ _ (ivl_nodup _ _) (mem_ivl.mpr (by omega)) ?_
  ·cases h:least xs g with
   | false=>rfl
   | true =>
    have:=(lO g gO).mp h
    omega
  ·rcases hgm with ⟨rfl,_⟩ | ⟨rfl,_⟩
   ·exact (lA g mA1).mpr rfl
   ·exact (lB g mB1).mpr rfl
  ·intro x hx hne
   have hx:=mem_ivl.mp hx
   by_cases hxo:x∈orb xs a
   ·rw [Bool.eq_iff_iff,lO x hxo]
    rcases (pO x).mp hxo with z | z
    ·rw [lA x z]
     rcases hgm with ⟨rfl,rfl⟩ | ⟨rfl,rfl⟩
     ·constructor
      ·intro e; subst e; exact (dis x z mB1).elim
      ·intro e; exact absurd e hne
     ·exact Iff.rfl
    ·rw [lB x z]
     rcases hgm with ⟨rfl,rfl⟩ | ⟨rfl,rfl⟩
     ·exact Iff.rfl
     ·constructor
      ·intro e; subst e; exact (dis x mA1 z).elim
      ·intro e; exact absurd e hne
   ·exact off x hx.1 (by omega) hxo
 rcases Int.lt_or_gt_of_ne ne with z | z
 ·exact go mB mA (.inr ⟨rfl,rfl⟩) z
 ·exact go mA mB (.inl ⟨rfl,rfl⟩) z
end
end Sw
namespace Sw
open PySem L2
section
variable {n:Int} {xs ys hs:List Int}
theorem homes_at (nd:xs.Nodup) (hb : ∀ x∈xs,1≤x∧x≤hs.length) : ∀ i,i≤xs.length→∀ k x,k<i→xs[k]?=some x→(homes xs hs i)[(x - 1).toNat]?=some ((k:Int)+1)
 | 0,_,k,_,hk,_=>absurd hk (Nat.not_lt_zero _)
 | i+1,hi,k,x,hk,hx=>by
  have hl:i<xs.length:=hi
  unfold homes
  rw [List.getElem?_eq_getElem hl]
  dsimp only
  have bi:=hb xs[i] (List.getElem_mem hl)
  have bk:=hb x (List.mem_of_getElem? hx)
  by_cases e:k=i
  ·subst e
   rw [List.getElem?_eq_getElem hl] at hx
   cases hx
   rw [List.getElem?_set_self (by rw [homes_length]; omega)]
  ·have ne:(xs[i] - 1).toNat≠(x - 1).toNat:=by
    intro z
    have z:xs[i]=x:=by omega
    obtain ⟨hk',e2⟩:=List.getElem?_eq_some_iff.mp hx
    exact e ((List.getElem_inj nd).mp (e2.trans z.symm))
   rw [List.getElem?_set_ne ne]
   exact homes_at nd hb i (by omega) k x (by omega) hx
theorem back_at (o:Ord n xs) {k:Nat} {x:Int} (h:xs[k]?=some x) : (backM xs)[(x - 1).toNat]?=some ((k:Int)+1):=by
 unfold backM
 refine homes_at o.nodup (fun y hy=>?_) xs.length (Nat.le_refl _) k x (List.getElem?_eq_some_iff.mp h).1 h
 have:=o.mem.mp hy
 rw [List.length_replicate,o.length]
 omega
theorem back_length:(backM xs).length=xs.length:=by
 unfold backM
 rw [homes_length,List.length_replicate]
theorem ord_at (o:Ord n xs) {t:Int} (h1 : 1≤t) (h2:t≤n) : ∃ k:Nat,xs[k]?=some t∧∀ m,m<k→xs[m]?≠some t:=by
 obtain ⟨k,hk,e⟩:=List.mem_iff_getElem.mp (o.mem.mpr ⟨h1,h2⟩)
 refine ⟨k,by rw [List.getElem?_eq_getElem hk,e],fun m hm z=>?_⟩
 obtain ⟨hm',e2⟩:=List.getElem?_eq_some_iff.mp z
 have:=(List.getElem_inj o.nodup).mp (e2.trans e.symm)
 omega
theorem back_get (o:Ord n xs) {i:Nat} (hi:(i:Int)<n) {k:Nat} (h:xs[k]?=some (1+(i:Int))) : (backM xs)[i]?=some ((k:Int)+1):=by
 have q:=back_at o h
 have e:(1+(i:Int) - 1).toNat=i:=by omega
 rw [e] at q
 exact q
theorem back_mem (o:Ord n xs) : ∀ x∈backM xs,1≤x∧x≤n:=by
 intro x hx
 have hl:=o.length
 obtain ⟨i,hi,e⟩:=List.mem_iff_getElem.mp hx
 rw [back_length] at hi
 obtain ⟨k,hk,_⟩:=ord_at o (t:=1+(i:Int)) (by omega) (by omega)
 have q:=back_get o (by omega) hk
 rw [List.getElem?_eq_getElem (by rw [back_length]; exact hi),e] at q
 have:=(List.getElem?_eq_some_iff.mp hk).1
 cases q
 omega
end
end Sw
namespace Sw
open PySem L2
def relab (f:Int→Int) (e:Int × Int) : Int→Int:=fun x=>if f x=f e.2 then f e.1 else f x
def labs (row:List (Int × Int)) : Int→Int:=row.foldl relab id
theorem labs_snoc (row:List (Int × Int)) (e:Int × Int) : labs (row++[e])=relab (labs row) e:=by
 unfold labs
 rw [List.foldl_append]
 rfl
def addC (f:Int→Int) (acc:List (Int × List Int)) (x:Int) : List (Int × List Int) :=
 if f x∈acc.map (·.1) then acc.map (fun p=>if p.1=f x then (p.1,p.2++[x]) else p) else acc++[(f x,[x])]
def grp (f:Int→Int) (L:List Int) : List (Int × List Int):=L.foldl (addC f) []
def partsM (n:Int) (row:List (Int × Int)) : List (List Int):=(grp (labs row) (ivl 1 (n+1))).map (·.2)
section
variable {f:Int→Int} {acc:List (Int × List Int)} {x k:Int} {ms:List Int} {j:Nat}
theorem set_of_map : ∀ {acc:List (Int × List Int)} {j:Nat},(acc.map (·.1)).Nodup→acc[j]?=some (f x,ms)→acc.map (fun p=>if p.1=f x then (p.1,p.2++[x]) else p)=acc.set j (f x,ms++[x])
 | [],_,_,h=>by simp at h
 | p :: acc,0,nd,h=>by
  have h:p=(f x,ms):=by simpa using h
  subst h
  rw [List.map_cons,List.nodup_cons] at nd
  rw [List.map_cons,if_pos rfl,List.set_cons_zero]
  congr 1
  rw [List.map_congr_left (g:=id) fun q hq=>?_,List.map_id]
  have : ¬ q.1=f x:=fun e=>nd.1 (by
   show f x∈_
   rw [← e]
   exact List.mem_map_of_mem (f:=(·.1)) hq)
  rw [if_neg this]
  rfl
 | p :: acc,j+1,nd,h=>by
  rw [List.map_cons,List.nodup_cons] at nd
  have h:acc[j]?=some (f x,ms):=by simpa using h
  have : ¬ p.1=f x:=fun e=>nd.1 (by
   rw [e]
   exact List.mem_map_of_mem (f:=(·.1)) (List.mem_of_getElem? h))
  rw [List.map_cons,List.set_cons_succ,set_of_map nd.2 h,if_neg this]
theorem addC_in (nd:(acc.map (·.1)).Nodup) (h:acc[j]?=some (f x,ms)) : addC f acc x=acc.set j (f x,ms++[x]):=by
 unfold addC
 rw [if_pos (List.mem_map_of_mem (f:=(·.1)) (List.mem_of_getElem? h)),set_of_map nd h]
theorem addC_out (h:f x∉acc.map (·.1)) : addC f acc x=acc++[(f x,[x])]:=by
 unfold addC
 rw [if_neg h]
theorem addC_keys (nd:(acc.map (·.1)).Nodup) : ((addC f acc x).map (·.1)).Nodup:=by
 by_cases h:f x∈acc.map (·.1)
 ·obtain ⟨p,hp,e⟩:=List.mem_map.mp h
  obtain ⟨j,hj,ej⟩:=List.mem_iff_getElem.mp hp
  have hj':acc[j]?=some (f x,p.2):=by rw [List.getElem?_eq_getElem hj,ej,← e]
  rw [addC_in nd hj',List.map_set]
  have:(acc.map (·.1)).set j (f x)=acc.map (·.1):=by
   apply List.ext_getElem?
   intro i
   by_cases e:j=i
   ·subst e
    rw [List.getElem?_set_self (by rw [List.length_map]; exact hj),List.getElem?_map,hj']
    rfl
   ·rw [List.getElem?_set_ne e]
  rw [this]
  exact nd
 ·rw [addC_out h,List.map_append]
  rw [List.nodup_append]
  refine ⟨nd,by simp,fun a ha b hb e=>?_⟩
  rw [List.map_cons,List.map_nil,List.mem_singleton] at hb
  rw [e,hb] at ha
  exact h ha
structure Grp (f:Int→Int) (L:List Int) (acc:List (Int × List Int)) : Prop where
 nd:(acc.map (·.1)).Nodup
 mem : ∀ p∈acc,p.2=L.filter (fun y=>decide (f y=p.1))∧p.2≠[]
 all : ∀ y∈L,f y∈acc.map (·.1)
theorem Grp.nil:Grp f [] []:=⟨List.nodup_nil,fun p hp=>(by cases hp),fun y hy=>(by cases hy)⟩
theorem Grp.snoc {L:List Int} (g:Grp f L acc) (x:Int) : Grp f (L++[x]) (addC f acc x):=by
 refine ⟨addC_keys g.nd,fun p hp=>?_,fun y hy=>?_⟩
 ·rw [List.filter_append]
  unfold addC at hp
  by_cases h:f x∈acc.map (·.1)
  ·rw [if_pos h] at hp
   obtain ⟨q,hq,e⟩:=List.mem_map.mp hp
   obtain ⟨g1,g2⟩:=g.mem q hq
   by_cases z:q.1=f x
   ·rw [if_pos z] at e
    subst e
    have : [x].filter (fun y=>decide (f y=q.1))=[x]:=by simp [z]
    rw [this,← g1]
    exact ⟨rfl,by simp⟩
   ·rw [if_neg z] at e
    subst e
    have : [x].filter (fun y=>decide (f y=q.1))=[]:=by simp; exact fun e=>z e.symm
    rw [this,List.append_nil]
    exact ⟨g1,g2⟩
  ·rw [if_neg h] at hp
   rcases List.mem_append.mp hp with hp | hp
   ·obtain ⟨g1,g2⟩:=g.mem p hp
    have : [x].filter (fun y=>decide (f y=p.1))=[]:=by
     simp
     intro e
     exact h (e ▸ List.mem_map_of_mem hp)
    rw [this,List.append_nil]
    exact ⟨g1,g2⟩
   ·rw [List.mem_singleton.mp hp]
    have e1:L.filter (fun y=>decide (f y=f x))=[]:=by
     rw [List.filter_eq_nil_iff]
     intro y hy e
     have e:f y=f x:=of_decide_eq_true e
     exact h (e ▸ g.all y hy)
    refine ⟨?_,by simp⟩
    show [x]=L.filter (fun y=>decide (f y=f x))++[x].filter (fun y=>decide (f y=f x))
    rw [e1]
    simp
 ·have keep : ∀ k,k∈acc.map (·.1)→k∈(addC f acc x).map (·.1):=fun k hk=>by
   unfold addC
   split
   ·obtain ⟨q,hq,e⟩:=List.mem_map.mp hk
    rw [List.map_map]
    refine List.mem_map.mpr ⟨q,hq,?_⟩
    show (if q.1=f x then (q.1,q.2++[x]) else q).1=k
    split <;> exact e
   ·rw [List.map_append]
    exact List.mem_append_left _ hk
  rcases List.mem_append.mp hy with hy | hy
  ·exact keep _ (g.all y hy)
  ·rw [List.mem_singleton.mp hy]
   by_cases h:f x∈acc.map (·.1)
   ·exact keep _ h
   ·rw [addC_out h,List.map_append]
    exact List.mem_append_right _ (by simp)
theorem grp_is (f:Int→Int) : ∀ L:List Int,Grp f L (grp f L):=by
 intro L
 suffices h : ∀ (M:List Int) (acc:List (Int × List Int)) (L0:List Int),Grp f L0 acc→Grp f (L0++M) (M.foldl (addC f) acc) by
  have:=h L [] [] Grp.nil
  rwa [List.nil_append] at this
 intro M
 induction M with
 | nil=>intro acc L0 g; rw [List.append_nil]; exact g
 | cons x M ih =>
  intro acc L0 g
  have:=ih (addC f acc x) (L0++[x]) (g.snoc x)
  rwa [List.append_assoc] at this
end
theorem valV_idx {kvs:List (Key × V)} {j:Nat} {k:Key} {v:V} (nd:(kvs.map (·.1)).Nodup) (h:kvs[j]?=some (k,v)) : valV kvs k=some v:=by
 induction kvs generalizing j with
 | nil=>simp at h
 | cons p r ih =>
  rw [List.map_cons,List.nodup_cons] at nd
  cases j with
  | zero =>
   have h:p=(k,v):=by simpa using h
   subst h
   exact valV_pos rfl
  | succ j =>
   have h:r[j]?=some (k,v):=by simpa using h
   rw [valV_neg (fun e=>nd.1 (by rw [e]; exact List.mem_map_of_mem (f:=(·.1)) (List.mem_of_getElem? h)))]
   exact ih nd.2 h
theorem valV_out {kvs:List (Key × V)} {k:Key} (h:k∉kvs.map (·.1)) : valV kvs k=none:=by
 induction kvs with
 | nil=>rfl
 | cons p r ih =>
  rw [List.map_cons,List.mem_cons,not_or] at h
  rw [valV_neg (fun e=>h.1 e.symm)]
  exact ih h.2
theorem putK_out {kvs:List (Key × V)} {k:Key} {v:V} (h:k∉kvs.map (·.1)) : putK kvs k v=kvs++[(k,v)]:=by
 unfold putK
 rw [if_neg]
 rw [valV_any,valV_out h]
 exact Bool.false_ne_true
end Sw
namespace Sw
open PySem L2
theorem snoc_ind {α : Type} {Pr:List α→Prop} (h0:Pr []) (hs : ∀ l x,Pr l→Pr (l++[x])) (l:List α) : Pr l:=by
 have : ∀ r:List α,Pr r.reverse:=fun r=>by
  induction r with
  | nil=>exact h0
  | cons x r ih=>rw [List.reverse_cons]; exact hs _ _ ih
 have q:=this l.reverse
 rwa [List.reverse_reverse] at q
theorem labs_edge {row:List (Int × Int)} : ∀ e∈row,labs row e.1=labs row e.2:=by
 induction row using snoc_ind with
 | h0=>intro e h; cases h
 | hs r d ih =>
  intro e he
  rw [labs_snoc]
  unfold relab
  rcases List.mem_append.mp he with he | he
  ·rw [ih e he]
  ·rw [List.mem_singleton.mp he,if_pos rfl]
   split <;> rfl
end Sw
namespace Sw
open PySem L2
section
variable {n:Int} {xs:List Int} {a b:Int}
theorem led_snoc (n:Int) (r:List (Int × Int)) (e:Int × Int) : ledM n (r++[e])=(ledM n r).map (swp · e):=by
 unfold ledM
 rw [List.map_map]
 refine List.map_congr_left fun x _=>?_
 rw [go_append]
 rfl
theorem map_swp_swp (xs:List Int) (e:Int × Int) : (xs.map (swp · e)).map (swp · e)=xs:=by
 rw [List.map_map]
 conv=>rhs; rw [← List.map_id xs]
 exact List.map_congr_left fun x _=>swp_swp x e
theorem good_left {r q:List (Int × Int)} (g:Good n (r++q)) : Good n r:=fun e he=>g e (List.mem_append_left _ he)
theorem ord_swp (o:Ord n xs) (ga : 1≤a) (gab:a<b) (gb:b≤n) : Ord n (xs.map (swp · (a,b))):=by
 have inv : ∀ x,swp (swp x (a,b)) (a,b)=x:=fun x=>swp_swp x _
 refine (List.perm_ext_iff_of_nodup ?_ (ivl_nodup _ _)).mpr fun y=>?_
 ·rw [List.Nodup,List.pairwise_map]
  exact o.nodup.imp fun h e=>h ((inv _).symm.trans ((congrArg (fun z=>swp z (a,b)) e).trans (inv _)))
 ·have sin : ∀ x,1≤x∧x≤n→1≤swp x (a,b)∧swp x (a,b)≤n:=fun x hx=>by
   unfold swp
   split
   ·exact ⟨by show 1≤b; omega,gb⟩
   ·split
    ·exact ⟨ga,by show a≤n; omega⟩
    ·exact hx
  rw [List.mem_map,mem_ivl]
  constructor
  ·rintro ⟨x,hx,rfl⟩
   have:=sin x (o.mem.mp hx)
   omega
  ·intro hy
   have:=sin y ⟨hy.1,by omega⟩
   exact ⟨swp y (a,b),o.mem.mpr this,inv y⟩
theorem ord_led {row:List (Int × Int)} (g:Good n row) : Ord n (ledM n row):=by
 induction row using snoc_ind with
 | h0=>rw [ledM_nil]; exact ord_plain n
 | hs r e ih =>
  rw [led_snoc]
  have ge:=g e (List.mem_append_right _ (List.mem_singleton.mpr rfl))
  exact ord_swp (ih (good_left g)) ge.1 ge.2.1 ge.2.2
theorem join_any (o:Ord n xs) (ga : 1≤a) (gab:a<b) (gb:b≤n) (hb:b∉orb xs a) : cnt n xs=cnt n (xs.map (swp · (a,b)))+1:=by
 have nb : ∀ k,itn (ld xs) k a≠b:=fun k e=>hb ((orb_mem o ga (by omega)).mpr ⟨k,e⟩)
 have same : ∀ j,j<per xs a→itn (ld (xs.map (swp · (a,b)))) j a=itn (ld xs) j a:=by
  intro j
  induction j with
  | zero=>intro _; rfl
  | succ j ih =>
   intro hj
   have r:=itn_in o ga (by omega) j
   show ld _ (itn _ j a)=_
   rw [ih (by omega),ld_map o _ r.1 r.2]
   show swp (itn (ld xs) (j+1) a) (a,b)=_
   exact swp_ne (per_ne (by omega) hj) (nb _)
 have pp : 0<per xs a:=by unfold per; omega
 have hit:itn (ld (xs.map (swp · (a,b)))) (per xs a) a=b:=by
  obtain ⟨p,hp⟩ : ∃ p,per xs a=p+1:=⟨per xs a - 1,by omega⟩
  have r:=itn_in o ga (by omega) p
  have e:=per_eq o ga (by omega:a≤n)
  rw [hp] at e ⊢
  show ld _ (itn _ p a)=b
  rw [same p (by omega),ld_map o _ r.1 r.2]
  have e:ld xs (itn (ld xs) p a)=a:=e
  rw [e]
  show (if a=a then b else _)=b
  rw [if_pos rfl]
 have o2:=ord_swp o ga gab gb
 have hin:b∈orb (xs.map (swp · (a,b))) a:=(orb_mem o2 ga (by omega)).mpr ⟨_,hit⟩
 unfold orb at hin
 obtain ⟨k,hk,ek⟩:=List.mem_map.mp hin
 have k0 : 0<k:=Nat.pos_of_ne_zero fun z=>by
  subst z
  have:a=b:=ek
  omega
 have:=cut_any o2 ga gab gb k0 (List.mem_range.mp hk) ek
 rw [map_swp_swp] at this
 exact this
theorem cut_in (o:Ord n xs) (ga : 1≤a) (gab:a<b) (gb:b≤n) (hb:b∈orb xs a) : cnt n (xs.map (swp · (a,b)))=cnt n xs+1:=by
 unfold orb at hb
 obtain ⟨k,hk,ek⟩:=List.mem_map.mp hb
 have k0 : 0<k:=Nat.pos_of_ne_zero fun z=>by
  subst z
  have:a=b:=ek
  omega
 exact cut_any o ga gab gb k0 (List.mem_range.mp hk) ek
theorem labs_go {row:List (Int × Int)} : ∀ (r:List (Int × Int)),(∀ e∈r,e∈row)→∀ x,labs row (go r x)=labs row x
 | [],_,x=>rfl
 | e :: r,h,x=>by
  have:go (e :: r) x=go r (swp x e):=rfl
  rw [this,labs_go r (fun d hd=>h d (List.mem_cons_of_mem _ hd)) (swp x e)]
  have le:=labs_edge e (h e List.mem_cons_self)
  unfold swp
  split
  ·rename_i z; rw [z,le]
  ·split
   ·rename_i z; rw [z,le]
   ·rfl
theorem labs_orb {row:List (Int × Int)} (g:Good n row) {x y:Int} (h1 : 1≤x) (h2:x≤n) (h:y∈orb (ledM n row) x) : labs row y=labs row x:=by
 have o:=ord_led g
 obtain ⟨k,rfl⟩:=(orb_mem o h1 h2).mp h
 clear h
 induction k with
 | zero=>rfl
 | succ k ih =>
  have r:=itn_in o h1 h2 k
  show labs row (ld (ledM n row) (itn (ld (ledM n row)) k x))=_
  rw [ld_led r.1 r.2,labs_go row (fun e he=>he),ih]
def np (n:Int) (row:List (Int × Int)) : Nat:=(partsM n row).length
theorem key_iff {f:Int→Int} {L:List Int} {k:Int} : k∈(grp f L).map (·.1)↔∃ y∈L,f y=k:=by
 have G:=grp_is f L
 constructor
 ·intro h
  obtain ⟨p,hp,rfl⟩:=List.mem_map.mp h
  obtain ⟨e,ne⟩:=G.mem p hp
  cases q:p.2 with
  | nil=>exact absurd q ne
  | cons c r =>
   have:c∈p.2:=by rw [q]; exact List.mem_cons_self
   rw [e] at this
   exact ⟨c,(List.mem_filter.mp this).1,of_decide_eq_true (List.mem_filter.mp this).2⟩
 ·rintro ⟨y,hy,rfl⟩
  exact G.all y hy
theorem np_keys (n:Int) (row:List (Int × Int)) : np n row=((grp (labs row) (ivl 1 (n+1))).map (·.1)).length:=by
 unfold np partsM
 rw [List.length_map,List.length_map]
theorem np_same {row:List (Int × Int)} (h:labs row a=labs row b) : labs (row++[(a,b)])=labs row:=by
 rw [labs_snoc]
 funext x
 unfold relab
 split
 ·rename_i z; rw [z]; exact h
 ·rfl
theorem np_join {row:List (Int × Int)} (ga : 1≤a) (gab:a<b) (gb:b≤n) (h:labs row a≠labs row b) : np n row=np n (row++[(a,b)])+1:=by
 have G1:=grp_is (labs row) (ivl 1 (n+1))
 have G2:=grp_is (labs (row++[(a,b)])) (ivl 1 (n+1))
 rw [np_keys,np_keys]
 have hin:labs row b∈(grp (labs row) (ivl 1 (n+1))).map (·.1):=key_iff.mpr ⟨b,mem_ivl.mpr ⟨by omega,by omega⟩,rfl⟩
 have pm:((grp (labs (row++[(a,b)])) (ivl 1 (n+1))).map (·.1)).Perm (((grp (labs row) (ivl 1 (n+1))).map (·.1)).erase (labs row b)):=by
  refine (List.perm_ext_iff_of_nodup G2.nd (G1.nd.sublist List.erase_sublist)).mpr fun k=>?_
  rw [G1.nd.mem_erase_iff,key_iff,key_iff,labs_snoc]
  unfold relab
  constructor
  ·rintro ⟨y,hy,rfl⟩
   split
   ·exact ⟨h,a,mem_ivl.mpr ⟨ga,by omega⟩,rfl⟩
   ·rename_i z; exact ⟨z,y,hy,rfl⟩
  ·rintro ⟨ne,y,hy,rfl⟩
   exact ⟨y,hy,by rw [if_neg ne]⟩
 have l1:=pm.length_eq
 have l2:=List.length_erase_of_mem hin
 have l3:=List.length_pos_of_mem hin
 omega
theorem np_nil (h : 0≤n) : np n []=n.toNat:=by
 rw [np_keys]
 have G:=grp_is (labs []) (ivl 1 (n+1))
 have pm:((grp (labs []) (ivl 1 (n+1))).map (·.1)).Perm (ivl 1 (n+1)):=by
  refine (List.perm_ext_iff_of_nodup G.nd (ivl_nodup _ _)).mpr fun k=>?_
  rw [key_iff]
  constructor
  ·rintro ⟨y,hy,rfl⟩; exact hy
  ·intro hk; exact ⟨k,hk,rfl⟩
 rw [pm.length_eq,ivl_length]
 omega
theorem cnt_nil (h : 0≤n) : cnt n (ledM n [])=n.toNat:=by
 have e:=homeM_of h (r:=[]) Rise.nil
 have:=homeM_cnt h (ord_led (row:=[]) (fun e he=>by cases he))
 rw [e] at this
 simpa using this
theorem genus {row:List (Int × Int)} (h0 : 0≤n) (g:Good n row) : ∃ h:Nat,row.length+2 * np n row=n.toNat+cnt n (ledM n row)+2 * h:=by
 induction row using snoc_ind with
 | h0=>exact ⟨0,by rw [np_nil h0,cnt_nil h0,List.length_nil]; omega⟩
 | hs r e ih =>
  obtain ⟨h,ih⟩:=ih (good_left g)
  obtain ⟨a,b⟩:=e
  have ge:=g (a,b) (List.mem_append_right _ (List.mem_singleton.mpr rfl))
  have o:=ord_led (good_left g)
  simp only at ge
  rw [List.length_append,List.length_singleton,led_snoc]
  by_cases hl:labs r a=labs r b
  ·have e1:np n (r++[(a,b)])=np n r:=by unfold np partsM; rw [np_same hl]
   rw [e1]
   by_cases hb:b∈orb (ledM n r) a
   ·rw [cut_in o ge.1 ge.2.1 ge.2.2 hb]
    exact ⟨h,by omega⟩
   ·have:=join_any o ge.1 ge.2.1 ge.2.2 hb
    exact ⟨h+1,by omega⟩
  ·have e1:=np_join ge.1 ge.2.1 ge.2.2 hl
   have hb:b∉orb (ledM n r) a:=fun z=>hl (labs_orb (good_left g) ge.1 (by omega) z).symm
   have:=join_any o ge.1 ge.2.1 ge.2.2 hb
   exact ⟨h,by omega⟩
end
end Sw
namespace Sw
open PySem L2
section
variable {n:Int} {xs ys:List Int} {a b:Int}
theorem orb_go (o:Ord n xs) {x y:Int} (h1 : 1≤x) (h2:x≤n) (h:y∈orb xs x) : ld xs y∈orb xs x:=by
 obtain ⟨k,e⟩:=(orb_mem o h1 h2).mp h
 exact (orb_mem o h1 h2).mpr ⟨k+1,by show ld xs (itn (ld xs) k x)=_; rw [e]⟩
theorem cut_sub (o:Ord n ys) (ga : 1≤a) (gab:a<b) (gb:b≤n) (hb:b∈orb ys a) {x y:Int} (h1 : 1≤x) (h2:x≤n) (h:y∈orb (ys.map (swp · (a,b))) x) : y∈orb ys x:=by
 have o2:=ord_swp o ga gab gb
 obtain ⟨k,rfl⟩:=(orb_mem o2 h1 h2).mp h
 clear h
 induction k with
 | zero=>exact orb_self x
 | succ k ih =>
  have r:=itn_in o2 h1 h2 k
  show ld (ys.map (swp · (a,b))) (itn (ld (ys.map (swp · (a,b)))) k x)∈_
  generalize itn (ld (ys.map (swp · (a,b)))) k x=z at r ih ⊢
  rw [ld_map o _ r.1 r.2]
  have hz:=orb_go o h1 h2 ih
  show swp (ld ys z) (a,b)∈orb ys x
  unfold swp
  split
  ·rename_i e
   have e:ld ys z=a:=e
   rw [e] at hz
   exact orb_trans o h1 h2 hz hb
  ·split
   ·rename_i e
    have e:ld ys z=b:=e
    rw [e] at hz
    exact orb_trans o h1 h2 hz (orb_sym o ga (by omega) hb)
   ·exact hz
theorem join_in (o:Ord n xs) (ga : 1≤a) (gab:a<b) (gb:b≤n) (hb:b∉orb xs a) : b∈orb (xs.map (swp · (a,b))) a:=by
 have o2:=ord_swp o ga gab gb
 by_cases h:b∈orb (xs.map (swp · (a,b))) a
 ·exact h
 ·have e1:=join_any o ga gab gb hb
  have e2:=join_any o2 ga gab gb h
  rw [map_swp_swp] at e2
  omega
theorem cnt_ge {row:List (Int × Int)} (h0 : 0≤n) (g:Good n row) : n.toNat≤row.length+cnt n (ledM n row):=by
 induction row using snoc_ind with
 | h0=>rw [cnt_nil h0]; omega
 | hs r e ih =>
  have ih:=ih (good_left g)
  obtain ⟨a,b⟩:=e
  have ge:=g (a,b) (List.mem_append_right _ (List.mem_singleton.mpr rfl))
  simp only at ge
  have o:=ord_led (good_left g)
  rw [List.length_append,List.length_singleton,led_snoc]
  by_cases hb:b∈orb (ledM n r) a
  ·have:=cut_in o ge.1 ge.2.1 ge.2.2 hb
   omega
  ·have:=join_any o ge.1 ge.2.1 ge.2.2 hb
   omega
theorem least_edge {row:List (Int × Int)} (h0 : 0≤n) (g:Good n row) (hl:row.length+cnt n (ledM n row)=n.toNat) : ∀ e∈row,e.2∈orb (ledM n row) e.1:=by
 induction row using snoc_ind with
 | h0=>intro e he; cases he
 | hs r d ih =>
  obtain ⟨a,b⟩:=d
  have ge:=g (a,b) (List.mem_append_right _ (List.mem_singleton.mpr rfl))
  simp only at ge
  have gl:=good_left g
  have o:=ord_led gl
  have c:=cnt_ge h0 gl
  rw [List.length_append,List.length_singleton,led_snoc] at hl
  have hb:b∉orb (ledM n r) a:=fun z=>by
   have:=cut_in o ge.1 ge.2.1 ge.2.2 z
   omega
  have j:=join_any o ge.1 ge.2.1 ge.2.2 hb
  have ih:=ih gl (by omega)
  have o2:=ord_swp o ge.1 ge.2.1 ge.2.2
  have hin:=join_in o ge.1 ge.2.1 ge.2.2 hb
  rw [led_snoc]
  intro e he
  rcases List.mem_append.mp he with he | he
  ·have gee:=gl e he
   have q:=ih e he
   refine cut_sub o2 ge.1 ge.2.1 ge.2.2 hin gee.1 (by omega) ?_
   rw [map_swp_swp]
   exact q
  ·rw [List.mem_singleton.mp he]
   exact hin
end
end Sw
namespace Sw
open PySem L2
def Seat (tk:List Int) (c p:Int) : Prop:=c≤p∧p∉tk∧∀ q,c≤q→q<p→q∈tk
def Plc (cs ps:List Int) : Prop:=ps.length=cs.length∧∀ (i:Nat) (c p:Int),cs[i]?=some c→ps[i]?=some p→Seat (ps.take i) c p
theorem Plc.nil:Plc [] []:=⟨rfl,fun i c p h=>by simp at h⟩
theorem sub_len : ∀ {l m:List Int},l.Nodup→(∀ x∈l,x∈m)→l.length≤m.length
 | [],_,_,_=>Nat.zero_le _
 | x :: l,m,nd,h=>by
  rw [List.nodup_cons] at nd
  have hx:=h x List.mem_cons_self
  have:=sub_len (l:=l) (m:=m.erase x) nd.2 fun y hy=>by
   refine (List.mem_erase_of_ne ?_).mpr (h y (List.mem_cons_of_mem _ hy))
   intro z; subst z; exact nd.1 hy
  rw [List.length_erase_of_mem hx] at this
  have:=List.length_pos_of_mem hx
  rw [List.length_cons]
  omega
end Sw
namespace Sw
open PySem L2
structure Nice (k:Nat) (d:PyData) : Prop where
 lay:d.canLay0=true
 dp:d.depth≤k
theorem Nice.mono {k m:Nat} {d:PyData} (h:Nice k d) (l:k≤m) : Nice m d:=⟨h.lay,Nat.le_trans h.dp l⟩
theorem nice_int {k:Nat} (i:Int) : Nice k (.int i):=⟨rfl,by unfold PyData.depth; omega⟩
theorem nice_all {k:Nat} : ∀ {ds:List PyData},(∀ d∈ds,Nice k d)→PyData.canLayAll0 ds=true∧PyData.depthAll ds≤k
 | [],_=>⟨rfl,by unfold PyData.depthAll; omega⟩
 | d :: ds,h=>by
  obtain ⟨h1,h2⟩:=nice_all fun e he=>h e (List.mem_cons_of_mem _ he)
  have h0:=h d List.mem_cons_self
  refine ⟨?_,?_⟩
  ·unfold PyData.canLayAll0; rw [h1,h0.lay]; rfl
  ·unfold PyData.depthAll
   have:=h0.dp
   omega
theorem nice_list {k:Nat} {ds:List PyData} (h : ∀ d∈ds,Nice k d) : Nice (k+1) (.list ds):=by
 obtain ⟨h1,h2⟩:=nice_all h
 exact ⟨by unfold PyData.canLay0; exact h1,by unfold PyData.depth; omega⟩
theorem nice_ints {k:Nat} (ns:List Int) : ∀ d∈ns.map PyData.int,Nice k d:=fun d hd=>by
 obtain ⟨x,_,rfl⟩:=List.mem_map.mp hd
 exact nice_int x
end Sw
namespace Sw
open PySem L2
def up (es:List Int) (p:Int) : Int:=if 0<p then es.getD (p - 1).toNat 0 else p
def ups (es:List Int) : Nat→Int→Int
 | 0,p=>p
 | k+1,p=>up es (ups es k p)
section
variable {es come:List Int} {p x y:Int}
theorem up_zero:up es 0=0:=by unfold up; rw [if_neg (by decide)]
theorem ups_zero : ∀ k,ups es k 0=0
 | 0=>rfl
 | k+1=>by show up es (ups es k 0)=0; rw [ups_zero k,up_zero]
theorem ups_add (k:Nat) : ∀ j,ups es (j+k) p=ups es j (ups es k p)
 | 0=>by rw [Nat.zero_add]; rfl
 | j+1=>by
  rw [show j+1+k=(j+k)+1 by omega]
  show up es (ups es (j+k) p)=up es (ups es j (ups es k p))
  rw [ups_add k j]
theorem ups_mono {k m:Nat} (h:ups es k p=0) (l:k≤m) : ups es m p=0:=by
 rw [show m=(m - k)+k by omega,ups_add,h,ups_zero]
theorem ups_succ (k:Nat) : ups es (k+1) p=ups es k (up es p):=by rw [ups_add 1 k]; rfl
theorem getD_of {n:Int} {i:Nat} (h:es[i]?=some n) : es.getD i 0=n:=by rw [List.getD_eq_getElem?_getD,h]; rfl
theorem up_in (hb : ∀ e∈es,0≤e∧e≤es.length) (h0 : 0≤p) (h1:p≤es.length) : 0≤up es p∧up es p≤es.length:=by
 unfold up
 split
 ·have:(p - 1).toNat<es.length:=by omega
  rw [getD_of (List.getElem?_eq_getElem this)]
  exact hb _ (List.getElem_mem this)
 ·omega
theorem ups_in (hb : ∀ e∈es,0≤e∧e≤es.length) (h0 : 0≤p) (h1:p≤es.length) : ∀ k,0≤ups es k p∧ups es k p≤es.length
 | 0=>⟨h0,h1⟩
 | k+1=>by have:=ups_in hb h0 h1 k; exact up_in hb this.1 this.2
structure Grown (es come:List Int) : Prop where
 z:come[0]?=some 0
 st : ∀ (j:Nat) (x:Int),1≤j→come[j]?=some x→1≤x∧∃ (m:Nat) (y:Int),m<j∧come[m]?=some y∧es.getD (x - 1).toNat 0=y
theorem Grown.home (g:Grown es come) : ∀ (j:Nat) (x:Int),come[j]?=some x→ups es j x=0:=by
 intro j
 induction j using Nat.strongRecOn with
 | _ j ih =>
  intro x hx
  by_cases j0:j=0
  ·subst j0
   rw [g.z] at hx
   cases hx
   rfl
  ·obtain ⟨x1,m,y,mj,hm,e⟩:=g.st j x (by omega) hx
   have:=ih m mj y hm
   rw [show j=(j - 1)+1 by omega,ups_succ]
   have eu:up es x=y:=by unfold up; rw [if_pos (by omega)]; exact e
   rw [eu]
   exact ups_mono this (by omega)
theorem Grown.snoc {m:Nat} (g:Grown es come) (hx:x∉come) (x1 : 1≤x) (x2:x≤es.length) (hm:come[m]?=some y) : Grown (es.set (x - 1).toNat y) (come++[x]):=by
 have cl : 0<come.length:=by
  have:=(List.getElem?_eq_some_iff.mp g.z).1
  omega
 have ml:=(List.getElem?_eq_some_iff.mp hm).1
 refine ⟨by rw [List.getElem?_append_left cl]; exact g.z,fun j v j1 hv=>?_⟩
 by_cases e:j<come.length
 ·rw [List.getElem?_append_left e] at hv
  obtain ⟨v1,m',y',a,b,c⟩:=g.st j v j1 hv
  refine ⟨v1,m',y',a,by rw [List.getElem?_append_left (by omega)]; exact b,?_⟩
  have ne:v≠x:=fun z=>hx (z ▸ List.mem_of_getElem? hv)
  rw [List.getD_eq_getElem?_getD,List.getElem?_set_ne (by omega),← List.getD_eq_getElem?_getD]
  exact c
 ·have ej:j=come.length:=by
   have:=(List.getElem?_eq_some_iff.mp hv).1
   rw [List.length_append,List.length_singleton] at this
   omega
  subst ej
  rw [List.getElem?_append_right (by omega),Nat.sub_self] at hv
  have hv:x=v:=by simpa using hv
  subst hv
  refine ⟨x1,m,y,ml,by rw [List.getElem?_append_left ml]; exact hm,?_⟩
  rw [List.getD_eq_getElem?_getD,List.getElem?_set_self (by omega)]
  rfl
end
structure TreeM (n:Int) (es:List Int) : Prop where
 len:es.length=n.toNat
 ein : ∀ e∈es,0≤e∧e≤n
 home : ∀ p,1≤p→p≤n→ups es es.length p=0
end Sw
namespace Sw
open PySem L2
theorem swp_sym (x a b:Int) : swp x (a,b)=swp x (b,a):=by
 unfold swp
 simp only
 by_cases h1:x=a <;> by_cases h2:x=b <;> simp_all
theorem swp_mm (x a b:Int) : swp x (min a b,max a b)=swp x (a,b):=by
 by_cases h:a≤b
 ·rw [Int.min_eq_left h,Int.max_eq_right h]
 ·rw [Int.min_eq_right (by omega),Int.max_eq_left (by omega),swp_sym]
end Sw
namespace Sw
open PySem L2
def grM (n:Int) : List Int:=(ivl 1 (n+1)).map fun x=>x % n+1
structure OneR (n:Int) (xs:List Int) : Prop where
 ord:Ord n xs
 pos : 1≤n
 all : ∀ x,1≤x→x≤n→x∈orb xs 1
def nu (xs:List Int) (x:Int) : Int:=((orb xs 1).idxOf x:Int)+1
section
variable {n:Int} {xs:List Int}
theorem OneR.per (o:OneR n xs) : per xs 1=n.toNat:=by
 have p1:(1:Int)≤1:=Int.le_refl 1
 have pm:(orb xs 1).Perm (ivl 1 (n+1)):=by
  refine (List.perm_ext_iff_of_nodup (orb_nodup o.ord p1 o.pos) (ivl_nodup _ _)).mpr fun x=>?_
  rw [mem_ivl]
  constructor
  ·intro h
   have:=orb_in o.ord p1 o.pos h
   omega
  ·intro h
   exact o.all x (by omega) (by omega)
 rw [← orb_length,pm.length_eq,ivl_length]
 congr 1
 omega
theorem orb_at {k:Nat} (h:k<(orb xs 1).length) : (orb xs 1)[k]=itn (ld xs) k 1:=by
 have e:(orb xs 1)[k]?=some (itn (ld xs) k 1):=by
  unfold orb
  rw [List.getElem?_map,List.getElem?_range (by rw [orb_length] at h; exact h)]
  rfl
 rw [List.getElem?_eq_getElem h] at e
 exact Option.some.inj e
theorem OneR.nu_itn (o:OneR n xs) {k:Nat} (h:k<n.toNat) : nu xs (itn (ld xs) k 1)=(k:Int)+1:=by
 unfold nu
 have hp:=o.per
 have hk:k<(orb xs 1).length:=by rw [orb_length,hp]; exact h
 have e:(orb xs 1)[k]=itn (ld xs) k 1:=orb_at hk
 rw [← e,(orb_nodup o.ord (Int.le_refl 1) o.pos).idxOf_getElem k hk]
theorem OneR.ex (o:OneR n xs) {x:Int} (h1 : 1≤x) (h2:x≤n) : ∃ k,k<n.toNat∧itn (ld xs) k 1=x:=by
 obtain ⟨i,hi,e⟩:=List.mem_iff_getElem.mp (o.all x h1 h2)
 rw [orb_length,o.per] at hi
 refine ⟨i,hi,?_⟩
 rw [← e]
 exact (orb_at _).symm
theorem OneR.nu_in (o:OneR n xs) {x:Int} (h1 : 1≤x) (h2:x≤n) : 1≤nu xs x∧nu xs x≤n:=by
 obtain ⟨k,hk,rfl⟩:=o.ex h1 h2
 rw [o.nu_itn hk]
 omega
theorem OneR.nu_inj (o:OneR n xs) {x y:Int} (h1 : 1≤x) (h2:x≤n) (h3 : 1≤y) (h4:y≤n) (e:nu xs x=nu xs y) : x=y:=by
 obtain ⟨k,hk,rfl⟩:=o.ex h1 h2
 obtain ⟨j,hj,rfl⟩:=o.ex h3 h4
 rw [o.nu_itn hk,o.nu_itn hj] at e
 have:k=j:=by omega
 rw [this]
theorem OneR.nu_one (o:OneR n xs) : nu xs 1=1:=by
 have:=o.nu_itn (k:=0) (by have:=o.pos; omega)
 exact this
theorem OneR.nu_ld (o:OneR n xs) {x:Int} (h1 : 1≤x) (h2:x≤n) : nu xs (ld xs x)=nu xs x % n+1:=by
 obtain ⟨k,hk,rfl⟩:=o.ex h1 h2
 rw [o.nu_itn hk]
 show nu xs (itn (ld xs) (k+1) 1)=_
 have np:=o.pos
 by_cases h:k+1<n.toNat
 ·rw [o.nu_itn h,Int.emod_eq_of_lt (by omega) (by omega)]
  omega
 ·have e:k+1=n.toNat:=by omega
  have e2:itn (ld xs) (k+1) 1=1:=by
   have:=per_eq o.ord (Int.le_refl 1) o.pos
   rw [o.per,← e] at this
   exact this
  rw [e2,o.nu_one,show (k:Int)+1=n by omega,Int.emod_self]
  rfl
end
def lab (f:Int→Int) (e:Int × Int) : Int × Int:=(min (f e.1) (f e.2),max (f e.1) (f e.2))
theorem lab_mm (f:Int→Int) (a b:Int) : lab f (min a b,max a b)=lab f (a,b):=by
 unfold lab
 rcases Int.le_total a b with h | h
 ·rw [Int.min_eq_left h,Int.max_eq_right h]
 ·rw [Int.min_eq_right h,Int.max_eq_left h]
  exact Prod.ext (Int.min_comm _ _) (Int.max_comm _ _)
def Inj (n:Int) (f:Int→Int) : Prop:=∀ x y,1≤x→x≤n→1≤y→y≤n→f x=f y→x=y
theorem swp_lab {n:Int} {f:Int→Int} (hf:Inj n f) {x:Int} {e:Int × Int} (x1 : 1≤x) (x2:x≤n) (a1 : 1≤e.1) (a2:e.1≤n) (b1 : 1≤e.2) (b2:e.2≤n) : swp (f x) (lab f e)=f (swp x e):=by
 obtain ⟨a,b⟩:=e
 dsimp only at a1 a2 b1 b2
 unfold lab
 rw [swp_mm]
 unfold swp
 dsimp only
 by_cases h1:x=a
 ·rw [if_pos h1,if_pos (by rw [h1])]
 ·rw [if_neg h1,if_neg (fun z=>h1 (hf _ _ x1 x2 a1 a2 z))]
  by_cases h2:x=b
  ·rw [if_pos h2,if_pos (by rw [h2])]
  ·rw [if_neg h2,if_neg (fun z=>h2 (hf _ _ x1 x2 b1 b2 z))]
theorem go_lab {n:Int} {f:Int→Int} (hf:Inj n f) : ∀ {row:List (Int × Int)} {x:Int},Good n row→1≤x→x≤n→go (row.map (lab f)) (f x)=f (go row x)
 | [],_,_,_,_=>rfl
 | e :: row,x,hg,x1,x2=>by
  have g:=hg e List.mem_cons_self
  show go (row.map (lab f)) (swp (f x) (lab f e))=f (go row (swp x e))
  rw [swp_lab hf x1 x2 g.1 (by omega) (by omega) g.2.2]
  have:=swp_in (n:=n) g x1 x2
  exact go_lab hf (fun d hd=>hg d (List.mem_cons_of_mem _ hd)) this.1 this.2
def el (es:List Int) (i:Nat) : Int:=es.getD i 0
def tiesM (es:List Int) : List (Int × Int):=(List.range es.length).map fun i=>(min (el es i+1) ((i:Int)+2),max (el es i+1) ((i:Int)+2))
section
variable {es:List Int}
theorem el_in (t:TreeM es.length es) {i:Nat} (h:i<es.length) : 0≤el es i∧el es i≤es.length:=by
 unfold el
 rw [List.getD_eq_getElem?_getD,List.getElem?_eq_getElem h]
 exact t.ein _ (List.getElem_mem h)
theorem up_el {i:Nat} : up es ((i:Int)+1)=el es i:=by
 unfold up el
 rw [if_pos (by omega),show ((i:Int)+1 - 1).toNat=i by omega]
theorem eld_ne (t:TreeM es.length es) {i:Nat} (h:i<es.length) : el es i≠(i:Int)+1:=fun z=>by
 have st : ∀ k,ups es k ((i:Int)+1)=(i:Int)+1:=by
  intro k
  induction k with
  | zero=>rfl
  | succ k ih =>
   show up es (ups es k ((i:Int)+1))=_
   rw [ih,up_el,z]
 have:=t.home ((i:Int)+1) (by omega) (by omega)
 rw [st] at this
 omega
theorem ties_len:(tiesM es).length=es.length:=by unfold tiesM; rw [List.length_map,List.length_range]
theorem ties_at {i:Nat} (h:i<es.length) : (tiesM es)[i]?=some (min (el es i+1) ((i:Int)+2),max (el es i+1) ((i:Int)+2)):=by
 unfold tiesM
 rw [List.getElem?_map,List.getElem?_range h]
 rfl
theorem ties_good (t:TreeM es.length es) : Good ((es.length:Int)+1) (tiesM es):=by
 intro e he
 unfold tiesM at he
 obtain ⟨i,hi,rfl⟩:=List.mem_map.mp he
 have hi:=List.mem_range.mp hi
 have h1:=el_in t hi
 have h2:=eld_ne t hi
 dsimp only
 omega
theorem ties_labs (t:TreeM es.length es) : ∀ x,1≤x→x≤(es.length:Int)+1→labs (tiesM es) x=labs (tiesM es) 1:=by
 have edge : ∀ i,i<es.length→labs (tiesM es) (el es i+1)=labs (tiesM es) ((i:Int)+2):=fun i hi=>by
  have:=labs_edge (row:=tiesM es) _ (List.mem_of_getElem? (ties_at hi))
  dsimp only at this
  rcases Int.le_total (el es i+1) ((i:Int)+2) with h | h
  ·rw [Int.min_eq_left h,Int.max_eq_right h] at this; exact this
  ·rw [Int.min_eq_right h,Int.max_eq_left h] at this; exact this.symm
 have hb : ∀ e∈es,0≤e∧e≤es.length:=t.ein
 have climb : ∀ (k:Nat) (p:Int),0≤p→p≤es.length→labs (tiesM es) (ups es k p+1)=labs (tiesM es) (p+1):=by
  intro k
  induction k with
  | zero=>intro p _ _; rfl
  | succ k ih =>
   intro p p0 p1
   have q:=ups_in hb p0 p1 k
   show labs (tiesM es) (up es (ups es k p)+1)=_
   rw [← ih p p0 p1]
   by_cases z:ups es k p=0
   ·rw [z,up_zero]
   ·obtain ⟨i,hi⟩ : ∃ i:Nat,ups es k p=(i:Int)+1:=⟨(ups es k p - 1).toNat,by omega⟩
    rw [hi,up_el,edge i (by omega)]
    congr 1
 intro x x1 x2
 by_cases z:x=1
 ·rw [z]
 ·have h:=climb es.length (x - 1) (by omega) (by omega)
  rw [t.home (x - 1) (by omega) (by omega)] at h
  rw [show (0:Int)+1=1 by rfl,show x - 1+1=x by omega] at h
  exact h.symm
theorem ties_one (t:TreeM es.length es) : OneR ((es.length:Int)+1) (ledM ((es.length:Int)+1) (tiesM es)):=by
 have hg:=ties_good t
 have o:=ord_led hg
 have n1:(1:Int)≤(es.length:Int)+1:=by omega
 have np1:np ((es.length:Int)+1) (tiesM es)≤1:=by
  rw [np_keys]
  have nd:=(grp_is (labs (tiesM es)) (ivl 1 ((es.length:Int)+1+1))).nd
  have all : ∀ k∈(grp (labs (tiesM es)) (ivl 1 ((es.length:Int)+1+1))).map (·.1),k=labs (tiesM es) 1:=fun k hk=>by
   obtain ⟨y,hy,rfl⟩:=key_iff.mp hk
   have:=mem_ivl.mp hy
   exact ties_labs t y (by omega) (by omega)
  revert nd all
  generalize (grp (labs (tiesM es)) (ivl 1 ((es.length:Int)+1+1))).map (·.1)=L
  intro nd all
  match L,nd,all with
  | [],_,_=>exact Nat.zero_le _
  | [_],_,_=>exact Nat.le_refl _
  | a :: b :: r,nd,all =>
   have e1:=all a List.mem_cons_self
   have e2:=all b (List.mem_cons_of_mem _ List.mem_cons_self)
   rw [List.nodup_cons] at nd
   exact absurd (by rw [e1,← e2]; exact List.mem_cons_self) nd.1
 obtain ⟨h,e⟩:=genus (n:=(es.length:Int)+1) (by omega) hg
 rw [ties_len] at e
 have c1:cnt ((es.length:Int)+1) (ledM ((es.length:Int)+1) (tiesM es))=1:=by omega
 refine ⟨o,n1,fun x x1 x2=>?_⟩
 generalize hxs:ledM ((es.length:Int)+1) (tiesM es)=xs at o c1
 have rl:(rndM ((es.length:Int)+1) xs).length=1:=by unfold rndM; rw [List.length_map]; exact c1
 obtain ⟨r,hr⟩ : ∃ r,rndM ((es.length:Int)+1) xs=[r]:=by
  match rndM ((es.length:Int)+1) xs,rl with
  | [r],_=>exact ⟨r,rfl⟩
 have hm:r∈rndM ((es.length:Int)+1) xs:=by rw [hr]; exact List.mem_cons_self
 unfold rndM at hm
 obtain ⟨g,hg',rfl⟩:=List.mem_map.mp hm
 have gi:=mem_ivl.mp (List.mem_filter.mp hg').1
 have a1:=rnd_all o (x:=1) (Int.le_refl 1) n1
 have ax:=rnd_all o (x:=x) x1 x2
 rw [hr] at a1 ax
 have a1:(1:Int)∈orb xs g:=by simpa using a1
 have ax:x∈orb xs g:=by simpa using ax
 exact orb_trans o (Int.le_refl 1) n1 (orb_sym o (by omega) (by omega) a1) ax
end
structure Tied (es:List Int) (f:Int→Int) (row:List (Int × Int)) : Prop where
 tree:TreeM es.length es
 one:f 1=1
 inj:Inj ((es.length:Int)+1) f
 rng : ∀ x,1≤x→x≤(es.length:Int)+1→1≤f x∧f x≤(es.length:Int)+1
 row:row=(tiesM es).map (lab f)
def rowM (es:List Int) : List (Int × Int):=(tiesM es).map (lab (nu (ledM ((es.length:Int)+1) (tiesM es))))
section
variable {es:List Int} {f:Int→Int} {row:List (Int × Int)}
theorem rowM_tied (t:TreeM es.length es) : Tied es (nu (ledM ((es.length:Int)+1) (tiesM es))) (rowM es) :=
 ⟨t,(ties_one t).nu_one,fun x y a b c d e=>(ties_one t).nu_inj a b c d e,fun x a b=>(ties_one t).nu_in a b,rfl⟩
theorem Tied.len (t:Tied es f row) : row.length=es.length:=by rw [t.row,List.length_map,ties_len]
theorem Tied.at (t:Tied es f row) {i:Nat} (h:i<es.length) : row[i]?=some (lab f (el es i+1,(i:Int)+2)):=by
 rw [t.row,List.getElem?_map,ties_at h]
 show some _=_
 rw [lab_mm]
theorem Tied.good (t:Tied es f row) : Good ((es.length:Int)+1) row:=by
 intro e he
 obtain ⟨i,hi,e1⟩:=List.mem_iff_getElem.mp he
 rw [t.len] at hi
 have h:=t.at hi
 rw [List.getElem?_eq_getElem (by rw [t.len]; exact hi),e1] at h
 injection h with h
 rw [h]
 have h1:=el_in t.tree hi
 have h2:=eld_ne t.tree hi
 have r1:=t.rng (el es i+1) (by omega) (by omega)
 have r2:=t.rng ((i:Int)+2) (by omega) (by omega)
 have ne:f (el es i+1)≠f ((i:Int)+2):=fun z=>by
  have:=t.inj _ _ (by omega) (by omega) (by omega) (by omega) z
  omega
 unfold lab
 dsimp only
 omega
theorem rowM_led (t:TreeM es.length es) : ledM ((es.length:Int)+1) (rowM es)=grM ((es.length:Int)+1):=by
 unfold ledM grM
 apply List.map_congr_left
 intro y hy
 have hy:=mem_ivl.mp hy
 have o:=ties_one t
 obtain ⟨k,hk⟩ : ∃ k:Nat,y=(k:Int)+1:=⟨(y - 1).toNat,by omega⟩
 have kn:k<((es.length:Int)+1).toNat:=by omega
 have e:=o.nu_itn kn
 have xi:=itn_in o.ord (Int.le_refl 1) o.pos k
 have gl:=go_lab (rowM_tied t).inj (row:=tiesM es) (ties_good t) xi.1 xi.2
 rw [e] at gl
 rw [hk]
 show go ((tiesM es).map (lab _)) _=_
 rw [gl,← ld_led xi.1 xi.2,o.nu_ld xi.1 xi.2,e]
end
inductive Grow (row:List (Int × Int)) : List (Int × Int)→Prop
 | base:Grow row [(1,0)]
 | step {L:List (Int × Int)} {x y j:Int} {i:Nat} {e:Int × Int} : Grow row L→(y,j)∈L→row[i]?=some e→(e=(x,y)∨e=(y,x))→x∉L.map (·.1)→Grow row (L++[(x,(i:Int)+1)])
end Sw
namespace Sw
open PySem L2
def dkP (L:List (Int × Int)) : List (Key × V):=L.map fun p=>(Sum.inl p.1,V.int p.2)
theorem dkP_len (L:List (Int × Int)) : (dkP L).length=L.length:=by unfold dkP; rw [List.length_map]
theorem dkP_key {L:List (Int × Int)} {x:Int} : (Sum.inl x:Key)∈(dkP L).map (·.1)↔x∈L.map (·.1):=by
 unfold dkP
 rw [List.map_map]
 constructor
 ·intro h
  obtain ⟨p,hp,e⟩:=List.mem_map.mp h
  have e:(Sum.inl p.1:Key)=Sum.inl x:=e
  injection e with e
  exact List.mem_map.mpr ⟨p,hp,e⟩
 ·intro h
  obtain ⟨p,hp,e⟩:=List.mem_map.mp h
  exact List.mem_map.mpr ⟨p,hp,by show (Sum.inl p.1:Key)=Sum.inl x; rw [e]⟩
theorem dkP_nodup {L:List (Int × Int)} (h:(L.map (·.1)).Nodup) : ((dkP L).map (·.1)).Nodup:=by
 unfold dkP
 rw [List.map_map]
 have e:L.map ((fun x:Key × V=>x.1) ∘ fun p:Int × Int=>((Sum.inl p.1:Key),V.int p.2))=(L.map (·.1)).map fun x=>(Sum.inl x:Key):=by rw [List.map_map]; rfl
 rw [e]
 exact List.Pairwise.map _ (fun a b ne z=>ne (by injection z)) h
theorem dkP_in {L:List (Int × Int)} (nd:(L.map (·.1)).Nodup) {x q:Int} (h:(x,q)∈L) : valV (dkP L) (Sum.inl x:Key)=some (V.int q):=by
 obtain ⟨j,hj⟩:=List.getElem?_of_mem h
 refine valV_idx (j:=j) (dkP_nodup nd) ?_
 unfold dkP
 rw [List.getElem?_map,hj]
 rfl
theorem dkP_put {L:List (Int × Int)} {x q:Int} (h:x∉L.map (·.1)) : putK (dkP L) (Sum.inl x:Key) (V.int q)=dkP (L++[(x,q)]):=by
 rw [putK_out fun z=>h (dkP_key.mp z)]
 unfold dkP
 rw [List.map_append]
 rfl
end Sw
namespace Sw
open PySem L2
theorem srt2 {p q:Int} {ns:List Int} (pm:ns.Perm [p,q]) (pw:ns.Pairwise (·≤·)) : ns=[min p q,max p q]:=by
 have pm2 : [min p q,max p q].Perm [p,q]:=by
  rcases Int.le_total p q with h | h
  ·rw [Int.min_eq_left h,Int.max_eq_right h]
  ·rw [Int.min_eq_right h,Int.max_eq_left h]
   exact List.Perm.swap p q []
 refine List.Perm.eq_of_pairwise (le:=(·≤·)) (fun a b _ _ h1 h2=>by omega) pw ?_ (pm.trans pm2.symm)
 simp
 omega
theorem tie_go (es:List Int) (i:Nat) (y:Int) : swp (y+1) (min (el es i+1) ((i:Int)+2),max (el es i+1) ((i:Int)+2)) - 1=if y=(i:Int)+1∨y=el es i then (i:Int)+1+el es i - y else y:=by
 rw [swp_mm]
 unfold swp
 dsimp only
 by_cases h1:y=el es i
 ·rw [if_pos (by omega),if_pos (.inr h1)]
  omega
 ·rw [if_neg (by omega)]
  by_cases h2:y=(i:Int)+1
  ·rw [if_pos (by omega),if_pos (.inl h2)]
   omega
  ·rw [if_neg (by omega),if_neg (by omega)]
   omega
def nmL (xs:List Int) (k:Nat) : List (Int × Int):=(List.range k).map fun j=>(itn (ld xs) j 1 - 1,(j:Int)+1)
section
variable {n:Int} {xs:List Int}
theorem nmL_succ (k:Nat) : nmL xs (k+1)=nmL xs k++[(itn (ld xs) k 1 - 1,(k:Int)+1)]:=by
 unfold nmL
 rw [List.range_succ,List.map_append]
 rfl
theorem nmL_len (k:Nat) : (nmL xs k).length=k:=by unfold nmL; rw [List.length_map,List.length_range]
theorem nmL_new (o:OneR n xs) {k:Nat} (h:k<n.toNat) : itn (ld xs) k 1 - 1∉(nmL xs k).map (·.1):=fun z=>by
 unfold nmL at z
 rw [List.map_map] at z
 obtain ⟨j,hj,e⟩:=List.mem_map.mp z
 have hj:=List.mem_range.mp hj
 have e:itn (ld xs) j 1 - 1=itn (ld xs) k 1 - 1:=e
 have e:itn (ld xs) j 1=itn (ld xs) k 1:=by omega
 have a:=o.nu_itn (k:=j) (by omega)
 have b:=o.nu_itn (k:=k) h
 rw [e,b] at a
 omega
theorem nmL_keys (o:OneR n xs) : ∀ {k:Nat},k≤n.toNat→((nmL xs k).map (·.1)).Nodup
 | 0,_=>by simp [nmL]
 | k+1,h=>by
  rw [nmL_succ,List.map_append,List.nodup_append]
  refine ⟨nmL_keys o (by omega),by simp,fun a ha b hb=>?_⟩
  have hb:b=itn (ld xs) k 1 - 1:=by simpa using hb
  rw [hb]
  intro z
  exact nmL_new o (k:=k) (by omega) (z ▸ ha)
theorem nmL_at (o:OneR n xs) {y:Int} (h0 : 0≤y) (h1:y<n) : (y,nu xs (y+1))∈nmL xs n.toNat:=by
 obtain ⟨k,hk,e⟩:=o.ex (x:=y+1) (by omega) (by omega)
 unfold nmL
 refine List.mem_map.mpr ⟨k,List.mem_range.mpr hk,?_⟩
 have:=o.nu_itn hk
 rw [e] at this ⊢
 exact Prod.ext (by show y+1 - 1=y; omega) (by show (k:Int)+1=nu xs (y+1); rw [this])
end
end Sw
namespace Sw
open PySem L2
def cn (A M:List Int) : Nat:=(M.map fun x=>A.count x).sum
structure PK (A L:List Int) : Prop where
 all:cn A L+1=L.length
 some_ : ∀ j,1≤j→j<L.length→j≤cn A (L.take j)
def Nx (L:List Int) (x y:Int) : Prop:=∃ i,L[i]?=some x∧(L[i+1]?=some y∨(i+1=L.length∧L[0]?=some y))
structure Cut (n:Int) (A:List Int) (Ls:List (List Int)) (suf:List (Int × Int)) : Prop where
 uniq : ∀ L1∈Ls,∀ L2∈Ls,∀ x,x∈L1→x∈L2→L1=L2
 cov : ∀ x,1≤x→x≤n→∃ L∈Ls,x∈L
 inn : ∀ L∈Ls,∀ x∈L,1≤x∧x≤n
 rise : ∀ L∈Ls,L.Pairwise (· < ·)
 pk : ∀ L∈Ls,PK A L
 nx : ∀ L∈Ls,∀ x y,Nx L x y→go suf y=x % n+1
end Sw
namespace Sw
open PySem L2
theorem sIx_in {n m:Nat} {a:Int} (h0 : 0≤a) : HT.sIx n m (some a)=min a.toNat n:=by
 show (if a<0 then (a+(n:Int)).toNat else min a.toNat n)=_
 rw [if_neg (by omega)]
theorem cutT9 {xs:List V} {a:Int} (h0 : 0≤a) (h:a≤xs.length) : cutV xs none (some a)=xs.take a.toNat:=by
 have e:HT.sIx xs.length 0 none=0:=rfl
 unfold cutV
 rw [e,sIx_in h0,List.drop_zero,Nat.sub_zero,Nat.min_eq_left (by omega)]
theorem cutD9 {xs:List V} {a:Int} (h0 : 0≤a) (h:a≤xs.length) : cutV xs (some a) none=xs.drop a.toNat:=by
 have e2:HT.sIx xs.length xs.length none=xs.length:=rfl
 unfold cutV
 rw [sIx_in h0,e2,Nat.min_eq_left (by omega),List.take_of_length_le (by rw [List.length_drop]; exact Nat.le_refl _)]
end Sw
namespace Sw
open PySem L2
section
variable {n:Int}
theorem cnt_few {xs D:List Int} (h0 : 0≤n) (nd:D.Nodup) (h : ∀ x∈D,1≤x∧x≤n∧∃ y∈orb xs x,y<x) : cnt n xs+D.length≤n.toNat:=by
 unfold cnt
 rw [← List.length_append]
 have:=sub_len (l:=(ivl 1 (n+1)).filter (least xs)++D) (m:=ivl 1 (n+1)) ?_ ?_
 ·rw [ivl_length] at this; omega
 ·rw [List.nodup_append]
  refine ⟨(ivl_nodup _ _).sublist List.filter_sublist,nd,fun x hx y hy e=>?_⟩
  subst e
  obtain ⟨_,_,z,hz,lt⟩:=h x hy
  have:=(List.mem_filter.mp hx).2
  unfold least at this
  have:=of_decide_eq_true (List.all_eq_true.mp this z hz)
  omega
 ·intro x hx
  rcases List.mem_append.mp hx with z | z
  ·exact (List.mem_filter.mp z).1
  ·have:=h x z
   exact mem_ivl.mpr ⟨by omega,by omega⟩
theorem great_at {row:List (Int × Int)} (gr:ledM n row=grM n) {x:Int} (x1 : 1≤x) (x2:x≤n) : go row x=x % n+1:=by
 rw [← ld_led (n:=n) x1 x2,gr]
 unfold ld grM
 rw [List.getD_eq_getElem?_getD,List.getElem?_map,get_ivl (by omega)]
 show (1+((x - 1).toNat:Int)) % n+1=_
 rw [show 1+((x - 1).toNat:Int)=x by omega]
end
end Sw
namespace Sw
open PySem L2
theorem good_most : ∀ (row:List (Int × Int)),(∀ e∈row,1≤e.1∧e.1<e.2)→∃ N:Int,(row.length:Int)+1≤N∧Good N row
 | [],_=>⟨1,by simp,fun e he=>by cases he⟩
 | e :: row,h=>by
  obtain ⟨N,h1,h2⟩:=good_most row fun d hd=>h d (List.mem_cons_of_mem _ hd)
  have he:=h e List.mem_cons_self
  refine ⟨max (N+1) e.2,by rw [List.length_cons]; omega,fun d hd=>?_⟩
  rcases List.mem_cons.mp hd with rfl | hd
  ·omega
  ·have:=h2 d hd
   omega
theorem great_good {row:List (Int × Int)} (h : ∀ e∈row,1≤e.1∧e.1<e.2) (gr:ledM ((row.length:Int)+1) row=grM ((row.length:Int)+1)) : Good ((row.length:Int)+1) row:=by
 obtain ⟨N,hN,hg⟩:=good_most row h
 have o:=ord_led hg
 have one : ∀ x,2≤x→x≤(row.length:Int)+1→(1:Int)∈orb (ledM N row) x:=fun x x2 x3=>by
  have step : ∀ y,1≤y→y≤(row.length:Int)+1→y∈orb (ledM N row) x→y % ((row.length:Int)+1)+1∈orb (ledM N row) x:=fun y y1 y2 hy=>by
   have:=orb_go o (by omega) (by omega) hy
   rwa [ld_led y1 (by omega),great_at gr y1 y2] at this
  have up : ∀ j:Nat,x+j≤(row.length:Int)+1→x+j∈orb (ledM N row) x:=by
   intro j
   induction j with
   | zero=>intro _; rw [show x+((0:Nat) : Int)=x by omega]; exact orb_self x
   | succ j ih =>
    intro hj
    have:=step (x+j) (by omega) (by omega) (ih (by omega))
    rw [Int.emod_eq_of_lt (by omega) (by omega)] at this
    rwa [show x+((j+1:Nat) : Int)=x+(j:Int)+1 by omega]
  have hn:=up ((row.length:Int)+1 - x).toNat (by omega)
  rw [show x+((((row.length:Int)+1 - x).toNat:Nat) : Int)=(row.length:Int)+1 by omega] at hn
  have:=step ((row.length:Int)+1) (by omega) (by omega) hn
  rwa [Int.emod_self] at this
 have ge:=cnt_ge (n:=N) (by omega) hg
 have few:=cnt_few (n:=N) (xs:=ledM N row) (D:=ivl 2 ((row.length:Int)+1+1)) (by omega) (ivl_nodup _ _) fun x hx=>by
  have hx:=mem_ivl.mp hx
  exact ⟨by omega,by omega,1,one x (by omega) (by omega),by omega⟩
 rw [ivl_length] at few
 have least:row.length+cnt N (ledM N row)=N.toNat:=by omega
 intro e he
 have hb:=hg e he
 refine ⟨hb.1,hb.2.1,Classical.byContradiction fun z=>?_⟩
 have oe:=orb_sym o hb.1 (by omega) (least_edge (n:=N) (by omega) hg least e he)
 have few2:=cnt_few (n:=N) (xs:=ledM N row) (D:=e.2 :: ivl 2 ((row.length:Int)+1+1)) (by omega) (List.nodup_cons.mpr ⟨fun z'=>by have:=mem_ivl.mp z'; omega,ivl_nodup _ _⟩) fun x hx=>by
  rcases List.mem_cons.mp hx with rfl | hx
  ·exact ⟨by omega,by omega,e.1,oe,by omega⟩
  ·have hx:=mem_ivl.mp hx
   exact ⟨by omega,by omega,1,one x (by omega) (by omega),by omega⟩
 rw [List.length_cons,ivl_length] at few2
 omega
end Sw
namespace Sw
open PySem L2
def NonX (Ls:List (List Int)) : Prop:=∀ L∈Ls,∀ M∈Ls,∀ a b c d,a∈L→c∈L→b∈M→d∈M→a<b→b<c→c<d→L=M
end Sw
namespace Sw
open PySem L2
def Fine (n:Int) (rs:List (List Int)) : Prop:=(∀ r∈rs,r≠[]∧∀ x∈r,1≤x∧x≤n)∧rs.flatten.Nodup
instance {n:Int} {rs:List (List Int)} : Decidable (Fine n rs):=by unfold Fine; infer_instance
def nx:List (List Int)→Int→Int
 | [],x=>x
 | r :: rs,x=>if x∈r then nxt r x else nx rs x
def madeM (n:Int) (rs:List (List Int)) : List Int:=(ivl 1 (n+1)).map (nx rs)
theorem nx_out : ∀ {rs:List (List Int)} {x:Int},x∉rs.flatten→nx rs x=x
 | [],_,_=>rfl
 | r :: rs,x,h=>by
  rw [List.flatten_cons,List.mem_append,not_or] at h
  show (if x∈r then nxt r x else nx rs x)=x
  rw [if_neg h.1,nx_out h.2]
theorem nx_at : ∀ {rs:List (List Int)} {r:List Int} {j:Nat} {x:Int},rs.flatten.Nodup→r∈rs→r[j]?=some x→nx rs x=r.getD ((j+1) % r.length) 0
 | [],_,_,_,_,h,_=>by cases h
 | a :: rs,r,j,x,nd,h,hj=>by
  rw [List.flatten_cons,List.nodup_append] at nd
  obtain ⟨na,nr,dis⟩:=nd
  show (if x∈a then nxt a x else nx rs x)=_
  rcases List.mem_cons.mp h with rfl | h
  ·rw [if_pos (List.mem_of_getElem? hj),nxt_at na hj]
  ·have:x∉a:=fun z=>dis x z x (List.mem_flatten.mpr ⟨r,h,List.mem_of_getElem? hj⟩) rfl
   rw [if_neg this,nx_at nr h hj]
theorem madeM_length (n:Int) (rs:List (List Int)) : (madeM n rs).length=n.toNat:=by
 unfold madeM
 rw [List.length_map,ivl_length]
 omega
theorem ld_made {n:Int} {rs:List (List Int)} {x:Int} (h1 : 1≤x) (h2:x≤n) : ld (madeM n rs) x=nx rs x:=by
 unfold ld madeM
 rw [List.getD_eq_getElem?_getD,List.getElem?_map,get_ivl (by omega)]
 show nx rs (1+((x - 1).toNat:Int))=nx rs x
 congr 1
 omega
theorem fine_rnds {n:Int} {rs:List (List Int)} (f:Fine n rs) : Rnds n (madeM n rs) rs:=by
 refine ⟨fun r hr=>⟨(f.1 r hr).1,fun j x hx=>?_⟩,f.2,fun x h1 h2 hx=>by rw [ld_made h1 h2,nx_out hx]⟩
 have b:=(f.1 r hr).2 x (List.mem_of_getElem? hx)
 refine ⟨b.1,b.2,?_⟩
 rw [ld_made b.1 b.2,nx_at f.2 hr hx,List.getD_eq_getElem?_getD]
 have:(j+1) % r.length<r.length:=Nat.mod_lt _ (List.length_pos_iff.mpr (f.1 r hr).1)
 rw [List.getElem?_eq_getElem this]
 rfl
section
variable {n:Int} {rs:List (List Int)} {r:List Int} {i j:Nat} {z:Int}
theorem take_snoc {α : Type} {l:List α} {i:Nat} {x : α} (h:l[i]?=some x) : l.take (i+1)=l.take i++[x]:=by rw [List.take_succ,h]; rfl
end
end Sw
namespace L2
open PySem PySem.Spec PyProof.Rows PySem.SeqAt
inductive TxtEs (pr:Params) : List DictEntry→List (Str × Str)→Prop
 | nil:TxtEs pr [] []
 | cons {x y:Str} {t u:Tok} {es:List DictEntry} {ps:List (Str × Str)} : TxtEs pr es ps→TxtEs pr ({ hash:=PyData.keyHash pr x,key:=.str x t,val:=.str y u } :: es) ((x,y) :: ps)
structure KTxt (K:PySem.W.Frag) (pr:Params) (a:Addr) (ps:List (Str × Str)) : Prop where
 sys:(a == sysModules)=false
 nd:(ps.map (·.1)).Nodup
 ex : ∃ (es:List DictEntry) (ep:Nat),K.lookup a=some { cls:=.type "dict", data:=.dict es.toArray ep }∧TxtEs pr es ps
end L2
namespace L2
open PySem PySem.Spec PyProof.Rows
section
variable {X:Cx} {K:PySem.W.Frag}
theorem vals_strs : ∀ {ts:List Str} {us:List Value},Vals (ts.map V.str) us→∃ l:List (Str × Tok),us=strValues l∧l.map (·.1)=ts
 | [],_,.nil=>⟨[],rfl,rfl⟩
 | x :: r,_,.cons h t=>by
  obtain ⟨tk,rfl⟩:=h
  obtain ⟨l,e1,e2⟩:=vals_strs t
  exact ⟨(x,tk) :: l,by rw [e1]; rfl,by rw [List.map_cons,e2]⟩
def rJoin (K:PySem.W.Frag) : V→List V→Hp→VK→Prop:=fun x vs H Q=>∃ (z:Str) (p:Addr) (ts:List Str),x=.str z∧vs=[.ref p]∧SqL K H p (ts.map V.str)∧JoinOk z ts=true∧Q (.str (Str.join z ts)) H
theorem mt_join (hK:X.K=K) : MtR X "str.join" (rJoin K):=by
 subst hK
 intro pins s σ H x vs v us Q I rx rv h
 obtain ⟨z,p,ts,rfl,rfl,hp,hj,q⟩:=h
 obtain ⟨t,rfl⟩:=rx
 obtain ⟨u,rfl,ru⟩:=rv.one
 cases ru
 obtain ⟨its,r,pl,_⟩:=I.list hp
 obtain ⟨l,rfl,e⟩:=vals_strs r
 refine SC.join pl.isList e hj fun t' k=>⟨.str _,H,I.tok _,⟨t',rfl⟩,?_⟩
 rw [show Txt.join z ts=Str.join z ts from StrLaws.glued_eq_join z ts]
 exact q
end
end L2
namespace L2
open PySem PySem.Spec PyProof.Rows
theorem compLG {K:PySem.W.Frag} {ix:List (Option Nat)} {g:TG} {te:TE} {σ : St} {Q:VK} {H:Hp} {a:Addr} {xs:List V} (Pv:Nat→List V→St→Hp→Prop) (hn:xs.length≤1000000) (h0:Pv 0 [] (startC ix σ) H)
  (hl : ∀ i ys σ H,i≤xs.length→Pv i ys σ H→SqL K H a xs) (hlen : ∀ i ys σ H,Pv i ys σ H→ys.length≤i)
  (hs : ∀ i ys σ H x (R:St→List V→Hp→Prop),xs[i]?=some x→Pv i ys σ H→(∀ σ2 ys2 H5,Pv (i+1) ys2 σ2 H5→R σ2 ys2 H5)→g x σ H fun σ2 H3=>te σ2 H3 fun v H5=>R σ2 (ys++[v]) H5)
  (hd : ∀ ys σ' H' p,Pv xs.length ys σ' H'→H' p=none→Q (.ref p) (upd H' p (.lst ys))) : rComp ix g tTrue te σ Q (Itl K a) H:=by
 refine comp_by Pv hn h0 (fun i ys σ H hi p=>⟨xs,xs[i],hl i ys σ H (Nat.le_of_lt hi) p,by simp [hi]⟩) (fun ys σ H p=>⟨xs,hl _ ys σ H (Nat.le_refl _) p,Nat.le_refl _⟩) hlen (fun i ys σ H x H2 R hi p y r=>?_) hd
 obtain ⟨rfl,y⟩:=y
 unfold tTrue
 simp only [if_true]
 exact hs i ys σ _ x R (y xs (hl i ys σ _ (Nat.le_of_lt hi) p)) p r
end L2
namespace L2
open PySem PySem.Spec PyProof.Rows
section
variable {X:Cx} {K:PySem.W.Frag}
def rSum (K:PySem.W.Frag) : List V→Hp→VK→Prop:=fun xs H Q=>∃ (p:Addr) (ns:List Int),xs=[.ref p]∧SqL K H p (ns.map V.int)∧Q (.int ns.sum) H
theorem call_sum (hK:X.K=K) (hc:X.calm=true) : CallR X (.builtin "sum") (rSum K):=by
 subst hK
 intro pins s σ H xs us Q I r h
 obtain ⟨p,ns,rfl,hp,q⟩:=h
 obtain ⟨u,rfl,ru⟩:=vals1 r
 cases ru
 obtain ⟨its,rv,pl,_⟩:=I.list hp
 have hi:=ints_are rv
 obtain ⟨zs,hx⟩:=hi.allInts.items
 have hl:s.heap.IsList p (intItems zs):=hx ▸ pl.isList
 refine sum_intListG (I.ok.hd hc) hl fun h' tk t' hk=>?_
 have e1:ns=zs.toList.map (·.1):=by
  rw [← nums_intItems,← hx]
  exact (show numsOf its.toArray.toList=ns from hi.numsOf).symm
 have e2:preSum (numAt zs) zs.size=ns.sum:=by
  rw [preSum_eq,List.take_of_length_le (by simp),e1]
 rw [e2]
 exact ⟨.int _,H,I.kept hk,⟨_,rfl⟩,q⟩
def rAny (K:PySem.W.Frag) : List V→Hp→VK→Prop:=fun xs H Q=>∃ (p:Addr) (bs:List Bool),xs=[.ref p]∧SqL K H p (bs.map V.bl)∧Q (.bl (bs.any id)) H
theorem call_any (hK:X.K=K) (hc:X.calm=true) : CallR X (.builtin "any") (rAny K):=by
 subst hK
 intro pins s σ H xs us Q I r h
 obtain ⟨p,bs,rfl,hl,q⟩:=h
 obtain ⟨u,rfl,rx⟩:=vals1 r
 cases rx
 obtain ⟨its,rv,pl,hz⟩:=I.list hl
 have e:=vals_bools rv
 subst e
 refine call_any_walk (wpAny_pyIter_list pl.isList ?_)
 have lt:p<s.heap.objs.size:=by obtain ⟨o,n,e,_⟩:=pl; exact Heap.lt_size e
 refine ⟨s.heap.objs.size,_,_,_,_,_,fun i=>bs.getD i false,rfl,Walks.list (A:=X.A.in1) (show X.A.in1.handled=none from I.ok.hd hc) s.heap.objs.size p (Nat.ne_of_lt lt) (bs.map Value.bool).toArray,?_,?_,?_⟩
 ·exact ⟨⟨_,Heap.get?_push_size _ rfl,rfl,rfl⟩,pl.isList.at fun o e=>Heap.get?_push_of_some _ e⟩
 ·intro i v s' Q' E' hP hQ'
  have hP:(bs.map Value.bool)[i]?=some v:=by simpa using hP
  rw [List.getElem?_map] at hP
  cases hb:bs[i]? with
  | none=>rw [hb] at hP; cases hP
  | some b =>
   rw [hb] at hP
   cases hP
   have hQ':Q' (bs.getD i false) s':=hQ'
   rw [show bs.getD i false=b by rw [List.getD_eq_getElem?_getD,hb]; rfl] at hQ'
   exact wpAny_truthy_bool hQ'
 ·intro h' tk hk
  have e:(List.range (bs.map Value.bool).toArray.size).any (fun i=>bs.getD i false)=bs.any id:=by
   have key : ∀ (l:List Bool),(List.range l.length).any (fun i=>l.getD i false)=l.any id:=by
    intro l
    induction l with
    | nil=>rfl
    | cons b r ih =>
     rw [List.length_cons,List.range_succ_eq_map,List.any_cons,List.any_cons,List.any_map,← ih]
     rfl
   simpa using key bs
  rw [e]
  refine ⟨.bl (bs.any id),H,?_,rfl,q⟩
  refine (I.kept (t':=s.toks) (h':=h') fun b o e=>hk b o (fun z=>?_) (Heap.get?_push_of_some _ e)).tok tk
  have z:b=s.heap.objs.size:=by simpa using z
  exact absurd (Heap.lt_size e) (by rw [z]; exact Nat.lt_irrefl _)
end
end L2
namespace L2
open PySem PySem.Spec PyProof.Rows
section
variable {prog:Program} {w:World} {A:Around} {E:Value→Shared→Prop} {s:Shared}
theorem draw_lst {it t:Addr} {items:Array Value} (hne:t≠it) : ∀ (n i:Nat) (s:Shared) (Q:List Value→Shared→Prop),s.heap.IsListIter it t i→s.heap.IsList t items→i+n≤items.size →
  (∀ h',h'.IsListIter it t (i+n)→Heap.SameBut it s.heap h'→Q ((items.toList.drop i).take n) { s with heap:=h' })→wpAny (model prog w) A (draw (.ref it) n) Q E s
 | 0,i,s,Q,hit,_,_,hQ=>by
  show wpAny _ _ (pure []) Q E s
  have:=hQ s.heap hit (Heap.SameBut.refl ..)
  exact wpAny_pure (by simpa using this)
 | n+1,i,s,Q,hit,ht,hle,hQ=>by
  have hlt:i<items.size:=by omega
  show wpAny _ _ (pyNext (.ref it) >>= _) Q E s
  refine wpAny_bind (wpAny_pyNext_list_item hit ht (x:=items[i]) (by simp [hlt]) fun h₁ hit₁ hs₁=>?_)
  refine wpAny_bind (wpAny_holding (draw_lst hne n (i+1) _ _ hit₁ (ht.extBut hs₁.extBut hne) (by omega) fun h₂ hit₂ hs₂=>wpAny_pure ?_))
  have hd:items.toList.drop i=items[i] :: items.toList.drop (i+1):=by simp [List.drop_eq_getElem_cons,hlt]
  have q:=hQ h₂ (by rw [show i+(n+1)=i+1+n by omega]; exact hit₂) (hs₁.trans hs₂)
  rw [hd,List.take_succ_cons] at q
  exact q
theorem unpackItems_lst {t:Addr} {items:Array Value} {Q:List Value→Shared→Prop} (hh:A.handled=none) (ht:s.heap.IsList t items)
  (hQ : ∀ h',Heap.ExtBut s.heap.objs.size s.heap h'→Q items.toList { s with heap:=h' }) : wpAny (model prog w) A (unpackItems (.ref t) items.size none) Q E s:=by
 have hlt:t≠s.heap.objs.size:=by obtain ⟨o,ho,_⟩:=ht; exact Nat.ne_of_lt (Heap.lt_size ho)
 unfold unpackItems
 refine wpAny_bind ?_
 unfold notIterableAtAll
 refine wpAny_bind (wpAny_specialOf ht.typeIs slot_list_iter.lookup (wpAny_pure ?_))
 simp only [Bool.false_eq_true,if_false]
 refine wpAny_bind (wpAny_holding (wpAny_pyIter_list ht ?_))
 refine wpAny_bind (wpAny_holding (draw_lst hlt items.size 0 _ _ ⟨_,Heap.get?_push_size _ rfl,rfl,rfl⟩ (ht.at fun o e=>Heap.get?_push_of_some _ e) (by omega) fun h₁ hit₁ hs₁=>?_))
 rw [show List.take items.size (List.drop 0 items.toList)=items.toList by rw [List.drop_zero]; exact List.take_of_length_le (by simp)]
 rw [if_neg (by simp)]
 have ht₁ : h₁.IsList t items:=(ht.at fun o e=>Heap.get?_push_of_some _ e:Heap.IsList (s.heap.push _) t items).extBut hs₁.extBut hlt
 refine wpAny_bind (wpAny_holding (wpAny_pyNext_list_end hh hit₁ ht₁ (by simp) fun h₂ he₂=>?_))
 simp only [Option.isSome_none,Bool.false_eq_true,if_false]
 exact wpAny_pure (hQ h₂ fun b o hb e=>he₂ b o hb (hs₁.extBut b o hb (Heap.get?_push_of_some _ e)))
end
section
variable {X:Cx} {K:PySem.W.Frag}
def gLst (K:PySem.W.Frag) (n:Nat) (t:TGs) : TG:=fun v σ H Q=>∃ a xs,v=.ref a∧SqL K H a xs∧xs.length=n∧t xs σ H Q
theorem pg_lst {es:List Expr} {k:Nat} {t:TGs} {n:Nat} {pos:Pos} (hK:X.K=K) (hc:X.calm=true) (h:PGs X es t)
  (hn:(assignEach es X.env).length=n:=by rfl) (hst:(assignEach es X.env).findIdx? (·.1)=none:=by rfl) : PG X (.Tuple es k pos) (gLst K n t):=by
 subst hK
 intro pins s σ H v u Q I r hw
 obtain ⟨a,xs,e1,hq,hl,hw⟩:=hw
 subst e1
 cases r
 obtain ⟨its,rv,ht,hz⟩:=I.list hq
 rw [assign_Tuple]
 refine wpAny_bind (wpAny_standAt ?_)
 unfold unpack
 rw [show (assignEach es X.env).length=its.toArray.size by simp [hn,← hl,rv.length],hst]
 refine wpAny_bind (wpAny_holding (unpackItems_lst (I.ok.hd hc) ht.isList fun h' hx=>?_))
 have I1:Inv X pins σ H { s with heap:=h' }:=I.kept (t':=s.toks) fun b o e=>hx b o (Nat.ne_of_lt (Heap.lt_size e)) e
 exact h pins _ σ H xs _ Q I1 (by simpa using rv) hw
end
end L2
namespace L2
open PySem PySem.Spec PyProof.Rows PySem.SeqAt
inductive NumEs (pr:Params) : List DictEntry→List (Str × Int)→Prop
 | nil:NumEs pr [] []
 | cons {x:Str} {y:Int} {t u:Tok} {es:List DictEntry} {ps:List (Str × Int)} : NumEs pr es ps→NumEs pr ({ hash:=PyData.keyHash pr x,key:=.str x t,val:=.int y u } :: es) ((x,y) :: ps)
structure KNum (K:PySem.W.Frag) (pr:Params) (a:Addr) (ps:List (Str × Int)) : Prop where
 sys:(a == sysModules)=false
 nd:(ps.map (·.1)).Nodup
 ex : ∃ (es:List DictEntry) (ep:Nat),K.lookup a=some { cls:=.type "dict", data:=.dict es.toArray ep }∧NumEs pr es ps
end L2
namespace L2
open PySem PySem.Spec PyProof.Rows
def ddI (ns:List Int) : List Int:=firstMet (fun i=>ns.getD i 0) ns.length
def rSetI (K:PySem.W.Frag) : List V→Hp→VK→Prop:=fun xs H Q=>∃ p ns,xs=[.ref p]∧SqL K H p (ns.map V.int)∧ns.length≤1000∧∀ q,H q=none→Q (.ref q) (upd H q (.set (fun k=>(ddI ns).any (· == k)) (ddI ns).length))
section
variable {X:Cx} {K:PySem.W.Frag}
theorem call_setI (hK:X.K=K) (hc:X.calm=true) : CallR X (.type "set") (rSetI K):=by
 subst hK
 intro pins s σ H xs us Q I r h
 obtain ⟨p,ns,rfl,hl,hz,q⟩:=h
 obtain ⟨u,rfl,rx⟩:=vals1 r
 cases rx
 obtain ⟨its,rv,pl,_⟩:=I.list hl
 have len:=rv.length
 rw [List.length_map] at len
 refine PySem.call_set_list (items:=its.toArray) (ns:=ns) (I.ok.hd hc) pl.isList (by simpa using ints_are rv) (by unfold scanBound; simp; omega) fun h' tk hS hk=>?_
 have hsz:its.toArray.size=ns.length:=by rw [len]; exact List.size_toArray
 rw [hsz] at hS
 exact ⟨.ref s.heap.objs.size,_,I.laid (o:=.set (fun k=>(ddI ns).any (· == k)) (ddI ns).length) (fun b o e=>hk b o (Heap.lt_size e) e) (Nat.le_refl _) hS,rfl,q _ (I.hok.fresh (Nat.le_refl _))⟩
theorem call_lenS:CallR X (.builtin "len") (fun xs H Q=>∃ p S n,xs=[.ref p]∧H p=some (.set S n)∧n≤1000∧Q (.int (n:Int)) H):=by
 intro pins s σ H xs us Q I r h
 obtain ⟨p,S,n,rfl,e,hn1,q⟩:=h
 obtain ⟨u,rfl,rx⟩:=vals1 r
 cases rx
 have hS:s.heap.SetOf (intKind X.prog X.w) p S n:=I.hok p _ e
 obtain ⟨o,ho,hso⟩:=hS.objOf
 obtain ⟨hex,es,ep,t,hd,_,_,hn,hf⟩:=hso
 subst hn
 exact call_len_set ho hex hd hf (by omega) ⟨.int _,H,I.tok _,⟨_,rfl⟩,q⟩
end
theorem ddI_any (ns:List Int) (k:Int) : (ddI ns).any (· == k)=ns.any (· == k):=by
 unfold ddI
 rw [firstMet_any]
 congr 1
 apply List.ext_getElem?
 intro i
 rw [List.getElem?_map]
 by_cases h:i<ns.length
 ·rw [List.getElem?_range h,Option.map_some,List.getD_eq_getElem?_getD,List.getElem?_eq_getElem h]; rfl
 ·rw [List.getElem?_eq_none (by rw [List.length_range]; omega),List.getElem?_eq_none (by omega)]; rfl
theorem ddI_mem {ns:List Int} {k:Int} : k∈ddI ns↔k∈ns:=by
 have:=ddI_any ns k
 rw [Bool.eq_iff_iff,List.any_eq_true,List.any_eq_true] at this
 constructor
 ·intro h
  obtain ⟨x,hx,e⟩:=this.mp ⟨k,h,by simp⟩
  have:x=k:=by simpa using e
  rw [← this]; exact hx
 ·intro h
  obtain ⟨x,hx,e⟩:=this.mpr ⟨k,h,by simp⟩
  have:x=k:=by simpa using e
  rw [← this]; exact hx
theorem ddI_len (ns:List Int) : (ddI ns).length≤ns.length:=firstMet_length_le _ _
theorem firstMet_nodup (val:Nat→Int) : ∀ i,(firstMet val i).Nodup
 | 0=>by rw [firstMet_zero]; exact List.nodup_nil
 | i+1=>by
  rw [firstMet_succ]; unfold step_dedup
  split
  ·exact firstMet_nodup val i
  ·rename_i h
   refine List.nodup_append.mpr ⟨firstMet_nodup val i,List.nodup_cons.mpr ⟨by simp,List.nodup_nil⟩,fun x hx y hy e=>h ?_⟩
   rw [List.mem_singleton.mp hy] at e
   rw [List.any_eq_true]
   exact ⟨x,hx,by rw [e]; simp⟩
theorem ddI_nodup (ns:List Int) : (ddI ns).Nodup:=firstMet_nodup _ _
end L2
namespace L2
open PySem PySem.Spec PyProof.Rows PySem.SeqAt
open PySem.AutoSeq1 (wpAny_loadPart')
open PySem.MeetsSeq PySem.MeetsSeq2 PySem.MeetsSeq3
theorem lt_loop0 (l b:Addr) (xs ys:Array Value) (n m:Nat) (a c:Int) (t u:Tok) (h1:xs[0]?=some (.int a t)) (h2:ys[0]?=some (.int c u)) (hne:a≠c) :
  Meets (Builtin.«list.__eq__.loop» ⟨[.ref l,.ref b,rawInt 0,rawInt 0],[]⟩)
   (fun _ R s=>s.heap.get? l=some { cls:=.type "list", data:=.seq xs n }∧s.heap.get? b=some { cls:=.type "list", data:=.seq ys m }∧R (.ok (.ret (.bool (decide (a<c))))) s):=by
 intro prog w A R s h
 obtain ⟨hp,g,d,tk,os⟩:=s
 obtain ⟨hl,hb,h⟩:=h
 wp_walk using wpAny_loadPart' hl,wpAny_loadPart' hb
 have e1:xs[Int.toNat 0]?=some (.int a t):=h1
 have e2:ys[Int.toNat 0]?=some (.int c u):=h2
 rw [e1,e2]
 have q:=EqAt.int_int (A:=A.in1) (s:=⟨hp,g,d,tk,os⟩) a t c u
 rw [show (a == c)=false from by simpa using hne] at q
 refine wpAny_bind (q prog w _ _ ?_)
 have lt:=HT.rcLt_int A.in1 ⟨hp,g,d,tk,os⟩ a t c u prog w
 wp_walk using wpAny_loadPart' hl,wpAny_loadPart' hb
 rw [e1,e2]
 wp_walk using lt
 exact h
theorem lt_lists0 (l b:Addr) (xs ys:Array Value) (n m:Nat) (a c:Int) (t u:Tok) (h1:xs[0]?=some (.int a t)) (h2:ys[0]?=some (.int c u)) (hne:a≠c) :
  Meets (Builtin.«list.__lt__» ⟨[.ref l,.ref b],[]⟩)
   (fun _ R s=>s.heap.get? l=some { cls:=.type "list", data:=.seq xs n }∧s.heap.get? b=some { cls:=.type "list", data:=.seq ys m }∧R (.ok (.ret (.bool (decide (a<c))))) s):=by
 intro prog w A R s h
 obtain ⟨hp,g,d,tk,os⟩:=s
 obtain ⟨hl,hb,h⟩:=h
 have sub:isSubtype (.type "list") (.type "list")=pure true:=by rw [isSubtype_type]; kernel_rfl
 wp_walk using wpAny_loadPart' hl,wpAny_loadPart' hb
 refine ⟨plainId_quiet plain_eq_loop _,codeAny_builtin entry_eq_loop ?_⟩
 rw [Around.under_plainId plain_eq_loop _]
 exact lt_loop0 l b xs ys n m a c t u h1 h2 hne prog w A R _ ⟨hl,hb,h⟩
def HdAt (h:Heap) (v:Value) (a:Int) : Prop:=∃ (l:Addr) (xs:Array Value) (n:Nat) (t:Tok),v=.ref l∧h.get? l=some { cls:=.type "list", data:=.seq xs n }∧xs[0]?=some (.int a t)
structure Rising (h:Heap) (vs:List Value) (hs:List Int) : Prop where
 len:hs.length=vs.length
 up : ∀ (i:Nat) (a c:Int),hs[i]?=some a→hs[i+1]?=some c→a<c
 head : ∀ (i:Nat) (v:Value) (a:Int),vs[i]?=some v→hs[i]?=some a→HdAt h v a
theorem HdAt.keep {h h':Heap} {v:Value} {a:Int} (x:HdAt h v a) (k : ∀ b o,h.get? b=some o→h'.get? b=some o) : HdAt h' v a:=by
 obtain ⟨l,xs,n,t,e1,e2,e3⟩:=x
 exact ⟨l,xs,n,t,e1,k _ _ e2,e3⟩
theorem Rising.keep {h h':Heap} {vs:List Value} {hs:List Int} (x:Rising h vs hs) (k : ∀ b o,h.get? b=some o→h'.get? b=some o) : Rising h' vs hs:=⟨x.len,x.up,fun i v a e1 e2=>(x.head i v a e1 e2).keep k⟩
section
variable {prog:Program} {w:World} {A:Around} {E:Value→Shared→Prop} {s:Shared}
theorem oneLt_heads {x y:Value} {a c:Int} {Q:Bool→Shared→Prop} (hx:HdAt s.heap x a) (hy:HdAt s.heap y c) (hne:a≠c) (hu:A.units<cLine) (q:Q (decide (a<c)) s) : wpAny (model prog w) A (oneLt' true x y) Q E s:=by
 obtain ⟨l,xs,n,t,rfl,e1,f1⟩:=hx
 obtain ⟨b,ys,m,u,rfl,e2,f2⟩:=hy
 rw [oneLt'_eq,if_pos rfl]
 refine wpAny_bind (wpAny_cRoomFor hu ?_)
 refine wpAny_bind (wpAny_callSpecialIfBound?_slot ⟨_,e1,rfl⟩ F.slot_list_lt (call_meets F.slot_list_lt ⟨_,e1,rfl⟩ F.entry_list_lt (F.args_list_lt_2 _ _) (lt_lists0 l b xs ys n m a c t u f1 f2 hne) ⟨e1,e2,?_⟩))
 exact wpAny_truthy_bool q
theorem ltAt_heads {st:SortSt} {i j:Nat} {x y p r:Value} {a c:Int} {Q:Option Bool→SortSt→Prop} (hk:kindOf st=oneType') (hi:(arrOf st)[i]?=some (x,p)) (hj:(arrOf st)[j]?=some (y,r))
  (hx:HdAt s.heap x a) (hy:HdAt s.heap y c) (hne:a≠c) (hu:A.units<cLine) (q:Q (some (decide (a<c))) st) : wpS (model prog w) A E s (ltAt' i j) Q st:=by
 rw [ltAt'_eq]
 refine wpS_bind (wpS_get ?_)
 show wpS _ _ _ _ (elem' (arrOf st) i >>= fun x=>elem' (arrOf st) j >>= fun y=>lt' x y) Q st
 rw [elem'_eq,hi]
 refine wpS_bind (wpS_pure ?_)
 rw [elem'_eq,hj]
 refine wpS_bind (wpS_pure ?_)
 rw [lt'_eq]
 refine wpS_bind (wpS_get ?_)
 rw [hk]
 refine wpS_bind (wpS_lift (wpAny_attempt (show wpAny (model prog w) A (oneLt' true x y) _ _ s from oneLt_heads hx hy hne hu ⟨rfl,?_⟩)))
 exact wpS_pure q
def NoLess (prog:Program) (w:World) (A:Around) (E:Value→Shared→Prop) (s:Shared) (n:Nat) (st:SortSt) : Prop:=∀ (x:Nat) (Q:Option Bool→SortSt→Prop),1≤x→x<n→Q (some false) st→wpS (model prog w) A E s (ltAt' x (x - 1)) Q st
theorem asc_whole {st:SortSt} {n:Nat} {Q:AscSt→SortSt→Prop} (hn : 1≤n) (h:NoLess prog w A E s n st) (q:Q (none,n) st) : wpS (model prog w) A E s (ascLoop 1 n) Q st:=by
 unfold ascLoop
 refine wpS_forRange (I:=fun x c z=>z=st∧c=(none,x)) (fun x c z h1 h2 hI=>?_) (fun c z hI=>?_) ⟨rfl,rfl⟩
 ·obtain ⟨rfl,rfl⟩:=hI
  exact wpS_bind (h x _ h1 h2 (wpS_pure ⟨rfl,rfl⟩))
 ·obtain ⟨rfl,rfl⟩:=hI
  rw [Nat.max_eq_right hn]
  exact q
theorem run_whole {st:SortSt} {n:Nat} {Q:Option Nat→SortSt→Prop} (hn : 1≤n) (h:NoLess prog w A E s n st) (q:Q (some n) st) : wpS (model prog w) A E s (countRun' 0 n) Q st:=by
 rw [countRun0_eq]
 refine wpS_bind (asc_whole hn h ?_)
 show wpS _ _ _ _ (if (n == n)=true then pure (some n) else _) Q st
 rw [if_pos (beq_self_eq_true n)]
 exact wpS_pure q
theorem runs_whole {st:SortSt} {n:Nat} {Q:Unit→SortSt→Prop} (hn : 2≤n) (h64:n<64) (hz:(arrOf st).size=n) (hp:pendingOf st=#[]) (h:NoLess prog w A E s n st) (q:Q () (setPending st #[(0,n,0)])) : wpS (model prog w) A E s sortRuns' Q st:=by
 rw [sortRuns'_eq]
 refine wpS_bind (wpS_get ?_)
 dsimp only
 have hm:minRun' n n 0=n:=by
  obtain ⟨f,rfl⟩ : ∃ f,n=f+1:=⟨n - 1,by omega⟩
  rw [minRun'_succ,if_pos h64]
 rw [hz,hm]
 refine wpS_bind (wpS_mono (wpS_forRange (I:=fun x c z=>(x=0∧c=(none,0)∧z=st)∨(c=(none,n)∧z=setPending st #[(0,n,0)])) (Q:=fun c z=>c=(none,n)∧z=setPending st #[(0,n,0)]) (fun x c z h1 h2 hI=>?_) (fun c z hI=>?_) (.inl ⟨rfl,rfl,rfl⟩)) fun c z hI=>?_)
 ·rcases hI with ⟨rfl,rfl,rfl⟩ | ⟨rfl,rfl⟩
  ·dsimp only
   rw [if_neg (by omega)]
   simp only [Nat.sub_zero]
   refine wpS_bind (run_whole (by omega) h ?_)
   dsimp only
   rw [if_neg (Nat.lt_irrefl n)]
   refine wpS_bind (wpS_get ?_)
   have hb:(pendingOf z).back?=none:=by rw [hp]; rfl
   rw [hb]
   dsimp only
   refine wpS_bind (wpS_modify (wpS_pure (.inr ⟨by rw [Nat.zero_add],?_⟩)))
   rw [hp]
   rfl
  ·dsimp only
   rw [if_pos (Nat.le_refl n)]
   exact wpS_pure ⟨rfl,rfl⟩
 ·rcases hI with ⟨hx,_,_⟩ | hI
  ·omega
  ·exact hI
 ·obtain ⟨rfl,rfl⟩:=hI
  dsimp only
  refine wpS_bind (wpS_mono (wpS_forRange (I:=fun _ c z=>c=(none,())∧z=setPending st #[(0,n,0)]) (Q:=fun c z=>c=(none,())∧z=setPending st #[(0,n,0)]) (fun x c z _ _ hI=>?_) (fun _ _ hI=>hI) ⟨rfl,rfl⟩) fun c z hI=>?_)
  ·obtain ⟨rfl,rfl⟩:=hI
   refine wpS_bind (wpS_get ?_)
   rw [if_pos (show (pendingOf (setPending st #[(0,n,0)])).size≤1 from Nat.le_refl 1)]
   exact wpS_pure ⟨rfl,rfl⟩
  ·obtain ⟨rfl,rfl⟩:=hI
   exact wpS_pure q
theorem firsts_none {Q:List (Option Value)→Shared→Prop} : ∀ {vs:List Value},(∀ v∈vs,s.TypeIs v "list")→Q (vs.map fun _=>none) s→wpAny (model prog w) A (vs.mapM firstOfTuple') Q E s
 | [],_,q=>by rw [List.mapM_nil]; exact wpAny_pure q
 | v :: vs,h,q=>by
  rw [List.mapM_cons]
  refine wpAny_bind (wpAny_bind (wpAny_typeOf (h v List.mem_cons_self) ?_))
  rw [if_pos (by decide)]
  exact wpAny_pure (wpAny_bind (thn (firsts_none (Q:=fun r z=>Q (none :: r) z) (fun u hu=>h u (List.mem_cons_of_mem _ hu)) q) fun r s' z'=>wpAny_pure z'))
theorem types_list {Q:List Value→Shared→Prop} : ∀ {vs:List Value},(∀ v∈vs,s.TypeIs v "list")→Q (vs.map fun _=>Value.type "list") s→wpAny (model prog w) A (vs.mapM typeOf) Q E s
 | [],_,q=>by rw [List.mapM_nil]; exact wpAny_pure q
 | v :: vs,h,q=>by
  rw [List.mapM_cons]
  refine wpAny_bind (wpAny_typeOf (h v List.mem_cons_self) ?_)
  exact wpAny_bind (thn (types_list (Q:=fun r z=>Q (.type "list" :: r) z) (fun u hu=>h u (List.mem_cons_of_mem _ hu)) q) fun r s' z'=>wpAny_pure z')
theorem kind_lists {vs:List Value} {Q:SortKind→Shared→Prop} (h0:vs≠[]) (h : ∀ v∈vs,s.TypeIs v "list") (q:Q oneType' s) : wpAny (model prog w) A (keyKind' vs.toArray) Q E s:=by
 obtain ⟨v,r,rfl⟩ : ∃ v r,vs=v :: r:=by
  cases vs with
  | nil=>exact absurd rfl h0
  | cons v r=>exact ⟨v,r,rfl⟩
 rw [keyKind'_eq,List.mapM_toArray]
 simp only [map_eq_pure_bind,bind_assoc,pure_bind]
 refine wpAny_bind (firsts_none h ?_)
 rw [if_neg (by simp),if_neg (by simp),oneTypeOnly'_eq,List.mapM_toArray]
 simp only [map_eq_pure_bind,bind_assoc,pure_bind]
 refine wpAny_bind (types_list h ?_)
 have e:((List.map (fun _=>Value.type "list") (v :: r)).toArray.all fun x=>x == Value.type "list")=true:=by
  rw [List.all_toArray,List.all_map,List.all_eq_true]
  exact fun _ _=>rfl
 simp only [List.map_cons,List.getElem?_toArray,List.getElem?_cons_zero] at e ⊢
 rw [if_pos e]
 exact wpAny_pure q
theorem zip_get {vs:List Value} {i:Nat} {v:Value} (h:vs[i]?=some v) : (vs.toArray.zip vs.toArray)[i]?=some (v,v):=by
 have:vs.toArray.zip vs.toArray=(vs.zip vs).toArray:=by simp
 rw [this,List.getElem?_toArray,List.getElem?_zip_eq_some]
 exact ⟨h,h⟩
theorem zip_snd {vs:List Value} : (vs.toArray.zip vs.toArray).map (·.2)=vs.toArray:=by
 apply Array.toList_inj.mp
 rw [Array.toList_map,Array.toList_zip]
 simp [List.map_snd_zip]
theorem sort_rising {a:Addr} {vs:List Value} {hs:List Int} {n:Nat} {P:Fin→Shared→Prop} (ho:s.heap.get? a=some (seqObj "list" vs.toArray n)) (h64:vs.length<64) (hu:A.units<cLine)
  (hr : ∀ h',(∀ b o,b≠a→s.heap.get? b=some o→h'.get? b=some o)→Rising h' vs hs) (q:P (.done (.ret .none)) { s with heap:=sortedHeap s.heap a vs vs.toArray }) :
  wpAny (model prog w) A (Builtin.«list.sort» ⟨[.ref a],[]⟩) P E s:=by
 rw [list_sort_plain]
 have la:a<s.heap.objs.size:=Heap.lt_size ho
 obtain ⟨k,hk⟩ : ∃ k,(s.heap.update a (Obj.mapSeq fun _=>#[])).get? a=some (seqObj "list" #[] k):=⟨_,get?_update_seq ho (fun _=>#[])⟩
 refine wpAny_bind (listItems_at ho rfl (wpAny_bind (listUpdate_at ho rfl (wpAny_bind (seqEpoch_at hk rfl (wpAny_bind (wpAny_newTuple (wpAny_bind (wpAny_newList (wpAny_holding ?_))))))))))
 have h6:(((s.heap.update a (Obj.mapSeq fun _=>#[])).push (seqObj "tuple" vs.toArray 0)).push (seqObj "list" #[] 0)).get? a=some (seqObj "list" #[] k):=Heap.get?_push_of_some _ (Heap.get?_push_of_some _ hk)
 have R:=hr (((s.heap.update a (Obj.mapSeq fun _=>#[])).push (seqObj "tuple" vs.toArray 0)).push (seqObj "list" #[] 0)) fun b o hb e=>Heap.get?_push_of_some _ (Heap.get?_push_of_some _ ((Heap.get?_update_other _ _ (Ne.symm hb)).trans e))
 show wpAny (model prog w) A _ P E { s with heap:=((s.heap.update a (Obj.mapSeq fun _=>#[])).push (seqObj "tuple" vs.toArray 0)).push (seqObj "list" #[] 0) }
 generalize eS:({ s with heap:=((s.heap.update a (Obj.mapSeq fun _=>#[])).push (seqObj "tuple" vs.toArray 0)).push (seqObj "list" #[] 0) } : Shared)=S
 have h6':S.heap.get? a=some (seqObj "list" #[] k):=by rw [← eS]; exact h6
 have R':Rising S.heap vs hs:=by rw [← eS]; exact R
 have q':P (.done (.ret .none)) { S with heap:=S.heap.update a (Obj.mapSeq fun _=>vs.toArray) }:=by rw [← eS]; exact q
 dsimp only
 have vz:vs.toArray.size=vs.length:=List.size_toArray
 have big:(10000000:Nat)≤sizeLine:=by decide
 have fin : ∀ st:SortSt,(arrOf st).map (·.2)=vs.toArray→failedOf st=none→wpAny (model prog w) A (do
   let touched:=(← seqEpoch a) != k
   Builtin.List.listUpdate (.ref a) fun _=>(arrOf st).map (·.2)
   if let some e:=failedOf st then rule "list.sort.comparison-raised"; throw e
   if touched then rule "list.sort.modified"; raiseError "ValueError" "list modified during sort"
   ret .none) P E S:=fun st e1 e2=>by
  rw [e1,e2]
  refine wpAny_bind (seqEpoch_at h6' rfl ?_)
  refine wpAny_bind (listUpdate_at h6' rfl ?_ (hsz2:=by rw [vz]; omega))
  simp only [bne_self_eq_false,Bool.false_eq_true,if_false]
  exact wpAny_pure q'
 by_cases h2:vs.toArray.size<2
 ·rw [if_pos h2,if_pos h2]
  refine wpAny_bind (wpAny_pure ?_)
  rw [StateT.run_pure]
  refine wpAny_bind (wpAny_pure ?_)
  exact fin (SortSt.mk' general' (vs.toArray.zip vs.toArray) #[] 7 none) zip_snd rfl
 ·rw [if_neg h2,if_neg h2]
  have ty : ∀ v∈vs,S.TypeIs v "list" := fun v hv=>by
   obtain ⟨i,hi,e⟩:=List.mem_iff_getElem.mp hv
   obtain ⟨l,xs,m,t,rfl,e1,_⟩:=R'.head i v (hs[i]'(by rw [R'.len]; exact hi)) (by rw [List.getElem?_eq_getElem hi,e]) (List.getElem?_eq_getElem (by rw [R'.len]; exact hi))
   exact ⟨_,e1,rfl⟩
  refine wpAny_bind (kind_lists (by intro z; subst z; simp at h2) ty ?_)
  have nl:NoLess prog w A E S vs.length (SortSt.mk' oneType' (vs.toArray.zip vs.toArray) #[] 7 none):=fun x Q h1 hx hq=>by
   have i1:x<hs.length:=by rw [R'.len]; exact hx
   have g1:hs[x]?=some hs[x]:=List.getElem?_eq_getElem i1
   have g2:hs[x - 1]?=some (hs[x - 1]'(by omega)):=List.getElem?_eq_getElem (by omega)
   have up:=R'.up (x - 1) _ _ g2 (by rw [show x - 1+1=x by omega]; exact g1)
   have v1:vs[x]?=some vs[x]:=List.getElem?_eq_getElem hx
   have v2:vs[x - 1]?=some (vs[x - 1]'(by omega)):=List.getElem?_eq_getElem (by omega)
   refine ltAt_heads rfl (zip_get v1) (zip_get v2) (R'.head _ _ _ v1 g1) (R'.head _ _ _ v2 g2) (by omega) hu ?_
   rw [decide_eq_false (by omega)]
   exact hq
  refine wpAny_bind (wpAny_mono (runs_whole (n:=vs.length) (st:=SortSt.mk' oneType' (vs.toArray.zip vs.toArray) #[] 7 none) (Q:=fun _ z=>z=setPending (SortSt.mk' oneType' (vs.toArray.zip vs.toArray) #[] 7 none) #[(0,vs.length,0)]) (by omega) h64 (by show (vs.toArray.zip vs.toArray).size=vs.length; simp) rfl nl rfl) ?_ fun _ _ e=>e)
  rintro ⟨⟨⟩,st⟩ s' ⟨rfl,rfl⟩
  exact fin (setPending (SortSt.mk' oneType' (vs.toArray.zip vs.toArray) #[] 7 none) #[(0,vs.length,0)]) zip_snd rfl
end
end L2
namespace L2
open PySem PySem.W PyProof.Rows
section
variable {N:Nat} {rk:Nat→Int}
def KP (rk:Nat→Int) (p:Array Nat) (i:Nat) : Int:=rk (p.getD i 0)
def Fal (rk:Nat→Int) (k:Nat) (p:Array Nat) : Prop:=∀ i j,i≤j→j<k→KP rk p j≤KP rk p i
structure DescOk (rk:Nat→Int) (p₀ p:Array Nat) (n q:Nat) : Prop where
 perm:p.Perm p₀
 size:p.size=p₀.size
 fal:Fal rk n p
 same : ∀ i,n - (q+1)≤i→i<n→KP rk p i=KP rk p (n - 1)
 q1:q+1≤n
end
end L2
namespace L2
open PySem PySem.Spec PyProof.Rows PySem.SeqAt
open PySem.AutoSeq1 (wpAny_loadPart')
open PySem.MeetsSeq PySem.MeetsSeq2 PySem.MeetsSeq3
def lexB:List Int→List Int→Bool
 | [],[]=>false
 | [],_ :: _=>true
 | _ :: _,[]=>false
 | a :: r,c :: q=>if a=c then lexB r q else decide (a<c)
end L2
namespace L2
open PySem PySem.Spec PyProof.Rows PySem.SeqAt
structure Hds (H:Hp) (vs:List V) (hs:List Int) : Prop where
 len:hs.length=vs.length
 up : ∀ (i:Nat) (a c:Int),hs[i]?=some a→hs[i+1]?=some c→a<c
 head : ∀ (i:Nat) (v:V) (a:Int),vs[i]?=some v→hs[i]?=some a→∃ (b:Addr) (ns:List Int),v=.ref b∧H b=some (.lst (ns.map V.int))∧ns[0]?=some a
section
variable {X:Cx} {K:PySem.W.Frag} {pins:List (Addr × Obj)} {σ : St} {H:Hp} {s:Shared}
theorem Hds.rising {vs:List V} {us:List Value} {hs:List Int} (I:Inv X pins σ H s) (r:Vals vs us) (h:Hds H vs hs) : Rising s.heap us hs:=by
 have len:=r.length
 refine ⟨by rw [h.len,len],h.up,fun i u a hu ha=>?_⟩
 have iv:i<vs.length:=by
  have:=(List.getElem?_eq_some_iff.mp hu).1
  omega
 obtain ⟨b,ns,e1,e2,e3⟩:=h.head i vs[i] a (List.getElem?_eq_getElem iv) ha
 obtain ⟨u',hu',ru⟩:=r.get (i:=i) (x:=vs[i]) (List.getElem?_eq_getElem iv)
 rw [hu] at hu'
 cases hu'
 rw [e1] at ru
 cases ru
 obtain ⟨z,its,n,rv,hl,e⟩:=I.lstM e2
 obtain ⟨w',hw,rw'⟩:=rv.get (i:=0) (x:=.int a) (by rw [List.getElem?_map,e3]; rfl)
 obtain ⟨t,rfl⟩:=rw'
 exact ⟨b,its.toArray,n,t,rfl,e,by rw [List.getElem?_toArray]; exact hw⟩
theorem sorted_from {β : Type} {A:Around} {E:Value→Shared→Prop} {prog:Program} {w:World} {S:Shared} {us:List Value} {hs:List Int} {Q : β→Shared→Prop} {k:Value→Sem β} (hu:A.in1.units<cLine) (h64:us.length<64) (hr:Rising S.heap us hs)
  (q : ∀ h' n,(∀ b o,S.heap.get? b=some o→h'.get? b=some o)→h'.get? S.heap.objs.size=some { cls:=.type "list", data:=.seq us.toArray n }→wpAny (model prog w) A (k (.ref S.heap.objs.size)) Q E { S with heap:=h' }) :
  wpAny (model prog w) A (newList us >>= fun l=>holding [l] (call (.builtin "list.sort") [l]) >>= fun _=>k l) Q E S:=by
 have hL:(S.heap.push (seqObj "list" us.toArray 0)).get? S.heap.objs.size=some (seqObj "list" us.toArray 0):=Heap.get?_push_size _ rfl
 refine wpAny_bind (wpAny_newList ?_)
 refine wpAny_bind (wpAny_holding (wpAny_call_entry slot_list_sort ⟨_,hL,rfl⟩ entry_list_sort (sort_rising (s:={ S with heap:=S.heap.push (seqObj "list" us.toArray 0) }) (hs:=hs) hL h64 hu (fun h' k=>?_) ⟨_,rfl,?_⟩) (args_list_sort _)))
 ·exact hr.keep fun b o e=>k b o (Nat.ne_of_lt (Heap.lt_size e)) (Heap.get?_push_of_some _ e)
 ·obtain ⟨e,he⟩:=sortedHeap_at (vs:=us) (out:=us.toArray) (n:=0) hL
  refine q _ e (fun b o hb=>?_) he
  have hlt:=Heap.lt_size hb
  rw [sortedHeap_old (Nat.ne_of_lt hlt) (by rw [size_push']; exact Nat.lt_succ_of_lt hlt)]
  exact Heap.get?_push_of_some _ hb
def rSortR (K:PySem.W.Frag) : List V→Hp→VK→Prop:=fun xs H Q=>∃ (p:Addr) (vs:List V) (hs:List Int),xs=[.ref p]∧SqL K H p vs∧vs.length<64∧Hds H vs hs∧∀ l,H l=none→Q (.ref l) (upd H l (.lst vs))
theorem call_sortedR (hK:X.K=K) (hu:X.A.units+64<cLine) : CallR X (.builtin "sorted") (rSortR K):=by
 subst hK
 intro pins s σ H xs us Q I r h
 obtain ⟨p,vs,hs,rfl,hp,hz,hd,q⟩:=h
 obtain ⟨u,rfl,ru⟩:=vals1 r
 cases ru
 obtain ⟨its,rv,pl,_⟩:=I.list hp
 have len:=rv.length
 have ris:=hd.rising I rv
 have big:(10000000:Nat)≤sizeLine:=by decide
 refine Calls.call_function_entry kind_sorted plain_sorted entry_sorted (args_sorted1 _) ?_
 unfold Builtin.«sorted»
 refine wpAny_bind (m:=checkCount "sorted" 1 1 _) (wpAny_pure ?_)
 have kp : ∀ b o,s.heap.get? b=some o→((s.heap.push (seqObj "list" #[] 0)).update s.heap.objs.size (Obj.mapSeq (· ++ its.toArray))).get? b=some o:=fun b o e=>(Heap.get?_update_other _ _ (Ne.symm (Nat.ne_of_lt (Heap.lt_size e)))).trans (Heap.get?_push_of_some _ e)
 refine wpAny_bind (collect_list pl.isList ?_ (by omega))
 refine sorted_from (S:={ s with heap:=(s.heap.push (seqObj "list" #[] 0)).update s.heap.objs.size (Obj.mapSeq (· ++ its.toArray)) }) (hs:=hs) ?_ (by omega) (ris.keep kp) fun h' n k1 k2=>?_
 ·have:X.A.in1.in1.units≤X.A.units+2:=by show _≤_; first | exact Nat.le_refl _ | exact Nat.le_succ _ | omega
  omega
 ·refine wpAny_pure ⟨_,rfl,?_⟩
  have le:s.heap.objs.size≤((s.heap.push (seqObj "list" #[] 0)).update s.heap.objs.size (Obj.mapSeq (· ++ its.toArray))).objs.size:=by rw [Heap.size_update,size_push']; exact Nat.le_succ _
  exact ⟨.ref _,_,I.laid (o:=.lst vs) (fun b o e=>k1 _ _ (kp b o e)) le ⟨by omega,its,n,rv,k2⟩,rfl,q _ (I.hok.fresh le)⟩
end
end L2
namespace Sw
open PySem L2
def Cov (n:Int) (Ls:List (List Int)) : Prop:=(∀ L∈Ls,L≠[])∧Ls.flatten.Perm (ivl 1 (n+1))
theorem ivl_nodup3 (n:Int) : (ivl 1 (n+1)).Nodup:=(ord_plain n).nodup
theorem ivl_mem3 {n x:Int} : x∈ivl 1 (n+1)↔1≤x∧x≤n:=(ord_plain n).mem
theorem Cov.fine {n:Int} {Ls:List (List Int)} (h:Cov n Ls) : Fine n Ls:=by
 refine ⟨fun L hL=>⟨h.1 L hL,fun x hx=>ivl_mem3.mp (h.2.mem_iff.mp (List.mem_flatten.mpr ⟨L,hL,hx⟩))⟩,h.2.symm.nodup (ivl_nodup3 n)⟩
theorem Cov.all {n x:Int} {Ls:List (List Int)} (h:Cov n Ls) (h1 : 1≤x) (h2:x≤n) : x∈Ls.flatten:=h.2.mem_iff.mpr (ivl_mem3.mpr ⟨h1,h2⟩)
theorem Cov.flen {n:Int} {Ls:List (List Int)} (h:Cov n Ls) (n0 : 0≤n) : Ls.flatten.length=n.toNat:=by
 rw [h.2.length_eq,ivl_length]; omega
theorem len_le_flat : ∀ (Ls:List (List Int)),(∀ L∈Ls,L≠[])→Ls.length≤Ls.flatten.length∧∀ L∈Ls,L.length≤Ls.flatten.length
 | [],_=>⟨Nat.le_refl _,fun _ h=>(by cases h)⟩
 | L :: r,h=>by
  obtain ⟨a,b⟩:=len_le_flat r fun M hM=>h M (List.mem_cons_of_mem _ hM)
  have:=List.length_pos_iff.mpr (h L (List.mem_cons_self ..))
  rw [List.flatten_cons,List.length_append,List.length_cons]
  refine ⟨by omega,fun M hM=>?_⟩
  rcases List.mem_cons.mp hM with e | e
  ·rw [e]; omega
  ·have:=b M e; omega
theorem Cov.sizes {n:Int} {Ls:List (List Int)} (h:Cov n Ls) (n0 : 0≤n) : Ls.length≤n.toNat∧∀ L∈Ls,L.length≤n.toNat:=by
 have:=len_le_flat Ls h.1
 rw [h.flen n0] at this
 exact this
end Sw
namespace L2
open PySem PySem.Spec PyProof.Rows
def Up (l:List Nat) : Prop:=l.Pairwise (· < ·)
def TUp (t:SetTable) : Prop:=Up t.place.toList
end L2
namespace L2
open PySem PySem.Spec PyProof.Rows
structure TabOk (w:World) (t:SetTable) (n:Nat) : Prop where
 fits:t.fits n=true
 up:TUp t
 led:t.led=!(w.params.followText "set-order")
end L2
namespace L2
open PySem PySem.Spec PyProof.Rows
def keyI (e:Int × Value) : Int:=match e.2 with | .int n _=>n | _=>0
structure RelI (prog:Program) (w:World) (ns:List Int) (i:Nat) (es:Array (Int × Value)) (t:SetTable) : Prop where
 tab:TabOk w t es.size
 few:es.size≤i
 els:ElemsOf (intKind prog w) es.toList
 one:(es.toList.map keyI).Nodup
 mem : ∀ k,k∈es.toList.map keyI↔k∈ns.take i
end L2
namespace L2
open PySem PySem.Spec PyProof.Rows
section
variable {prog:Program} {w:World} {A:Around} {E:Value→Shared→Prop} {s:Shared} {W:Addr→List Int→Prop}
abbrev TupK (prog:Program) (w:World) (h:Heap) (ks:List Int) (a:Addr) : Prop:=IsTupleKey (intKind prog w) h ks a
def hshT (ns:List Int) : Int:=reduceHash (Builtin.Tuple.tupleHashOf (ns.map hashInt))
def hAt (ks:List (List Int)) (i:Nat) : Int:=((ks[i]?).map hshT).getD 0
def addP (ks:List (List Int)) (t:SetTable) (x:List Int) : Option (List (List Int) × SetTable) :=
 if t.gaveWay then none else
 match t.probe (hAt ks) (hshT x) (t.probeStart (hshT x)) with
 | some (.candidate _ i _)=>if ks[i]?=some x then some (ks,t) else none
 | some (.empty j none) =>
  let kn:=ks.take (t.put j).2++x :: ks.drop (t.put j).2
  if (t.put j).1.fits (ks.length+1) then
   if (t.put j).1.tooFull then
    if SetTable.sizeAbove (SetTable.grown (ks.length+1))≤100000 then
     match (t.put j).1.relaid (kn.map hshT).toArray (SetTable.grown (ks.length+1)) with
     | some (t2,o)=>if (o.toList.filterMap (kn[·]?)).length=ks.length+1∧t2.fits (ks.length+1)=true then some (o.toList.filterMap (kn[·]?),t2) else none
     | none=>none
    else none
   else some (kn,(t.put j).1)
  else none
 | _=>none
def EsT (prog:Program) (w:World) (W:Addr→List Int→Prop) (h:Heap) (es:Array (Int × Value)) (ks:List (List Int)) : Prop:=Paired (fun (e:Int × Value) (k:List Int)=>e.1=hshT k∧∃ a,e.2=.ref a∧TupK prog w h k a∧W a k) es.toList ks
end
end L2
namespace L2
open PySem PySem.Spec PyProof.Rows
section
variable {prog:Program} {w:World} {A:Around} {E:Value→Shared→Prop} {s:Shared} {W:Addr→List Int→Prop}
def simT (led:Bool) (xs:List (List Int)) : Option (List (List Int) × SetTable):=xs.foldlM (fun st x=>addP st.1 st.2 x) ([],SetTable.fresh 0 0 led)
structure RelT (prog:Program) (w:World) (W:Addr→List Int→Prop) (h₀ : Heap) (led:Bool) (xs:List (List Int)) (i:Nat) (es:Array (Int × Value)) (t:SetTable) : Prop where
 ex : ∃ ks,EsT prog w W h₀ es ks∧t.fits ks.length=true∧ks.length≤i∧simT led (xs.take i)=some (ks,t)
end
end L2
namespace L2
open PySem
def runB (l:List Int) (b:Bool) : List Int:=if b then l++[1] else l.dropLast++[l.getLastD 0+1]
def runsB (c:Nat) : Nat→List Int
 | 0=>[1]
 | k+1=>runB (runsB c k) (c / 2 ^ k % 2 == 1)
def insD (x:Int) : List Int→List Int
 | []=>[x]
 | y :: l=>if x ≥ y then x :: y :: l else y :: insD x l
def fallD:List Int→List Int
 | []=>[]
 | x :: l=>insD x (fallD l)
def cutsB (n:Nat) : List (List Int):=(List.range (2 ^ (n - 1))).map fun c=>fallD (runsB c (n - 1))
end L2
namespace L2
open PySem
def kL:Nat→List (List Int)
 | 1=>[[1]]
 | 2=>[[1,1],[2]]
 | 3=>[[1,1,1],[2,1],[3]]
 | 4=>[[1,1,1,1],[2,1,1],[2,2],[3,1],[4]]
 | 5=>[[1,1,1,1,1],[2,1,1,1],[2,2,1],[3,1,1],[3,2],[4,1],[5]]
 | 6=>[[1,1,1,1,1,1],[2,1,1,1,1],[2,2,1,1],[2,2,2],[3,1,1,1],[3,2,1],[3,3],[4,1,1],[4,2],[5,1],[6]]
 | 7=>[[1,1,1,1,1,1,1],[2,1,1,1,1,1],[2,2,1,1,1],[2,2,2,1],[3,1,1,1,1],[3,2,1,1],[3,2,2],[3,3,1],[4,1,1,1],[4,2,1],[4,3],[5,1,1],[5,2],[6,1],[7]]
 | 8=>[[1,1,1,1,1,1,1,1],[2,1,1,1,1,1,1],[2,2,1,1,1,1],[2,2,2,1,1],[2,2,2,2],[3,1,1,1,1,1],[3,2,1,1,1],[3,2,2,1],[3,3,1,1],[3,3,2],[4,1,1,1,1],[4,2,1,1],[4,2,2],[4,3,1],[4,4],[5,1,1,1],[5,2,1],[5,3],[6,1,1],[6,2],[7,1],[8]]
 | 9=>[[1,1,1,1,1,1,1,1,1],[2,1,1,1,1,1,1,1],[2,2,1,1,1,1,1],[2,2,2,1,1,1],[2,2,2,2,1],[3,1,1,1,1,1,1],[3,2,1,1,1,1],[3,2,2,1,1],[3,2,2,2],[3,3,1,1,1],[3,3,2,1],[3,3,3],[4,1,1,1,1,1],[4,2,1,1,1],[4,2,2,1],[4,3,1,1],[4,3,2],[4,4,1],[5,1,1,1,1],[5,2,1,1],[5,2,2],[5,3,1],[5,4],[6,1,1,1],[6,2,1],[6,3],[7,1,1],[7,2],[8,1],[9]]
 | 10=>[[1,1,1,1,1,1,1,1,1,1],[2,1,1,1,1,1,1,1,1],[2,2,1,1,1,1,1,1],[2,2,2,1,1,1,1],[2,2,2,2,1,1],[2,2,2,2,2],[3,1,1,1,1,1,1,1],[3,2,1,1,1,1,1],[3,2,2,1,1,1],[3,2,2,2,1],[3,3,1,1,1,1],[3,3,2,1,1],[3,3,2,2],[3,3,3,1],[4,1,1,1,1,1,1],[4,2,1,1,1,1],[4,2,2,1,1],[4,2,2,2],[4,3,1,1,1],[4,3,2,1],[4,3,3],[4,4,1,1],[4,4,2],[5,1,1,1,1,1],[5,2,1,1,1],[5,2,2,1],[5,3,1,1],[5,3,2],[5,4,1],[5,5],[6,1,1,1,1],[6,2,1,1],[6,2,2],[6,3,1],[6,4],[7,1,1,1],[7,2,1],[7,3],[8,1,1],[8,2],[9,1],[10]]
 | _=>[]
structure KinOk (n:Nat) (ks:List (List Int)) (t:SetTable) : Prop where
 sim:simT true (cutsB n)=some (ks,t)
 up:TUp t
 perm:ks.Perm (kL n)
 sort:(kL n).Pairwise fun a b=>lexB b a=false
 full : ∀ k∈kL n,k≠[]
 some:kL n≠[]
 few:(kL n).length<64
theorem insD_perm (x:Int) : ∀ l:List Int,(insD x l).Perm (x :: l)
 | []=>.refl _
 | y :: l=>by
  unfold insD
  split
  ·exact .refl _
  ·exact ((insD_perm x l).cons y).trans (List.Perm.swap _ _ _)
theorem fallD_perm : ∀ l:List Int,(fallD l).Perm l
 | []=>.refl _
 | x :: l=>(insD_perm x _).trans ((fallD_perm l).cons x)
theorem insD_sort (x:Int) : ∀ {l:List Int},l.Pairwise (· ≥ ·)→(insD x l).Pairwise (· ≥ ·)
 | [],_=>List.pairwise_singleton _ _
 | y :: l,h=>by
  unfold insD
  obtain ⟨h1,h2⟩:=List.pairwise_cons.mp h
  split
  ·rename_i c
   exact List.pairwise_cons.mpr ⟨fun z hz=>by rcases List.mem_cons.mp hz with rfl | hz; exact c; have:=h1 z hz; omega,h⟩
  ·rename_i c
   refine List.pairwise_cons.mpr ⟨fun z hz=>?_,insD_sort x h2⟩
   rcases List.mem_cons.mp ((insD_perm x l).mem_iff.mp hz) with rfl | hz
   ·omega
   ·exact h1 z hz
theorem fallD_sort : ∀ l:List Int,(fallD l).Pairwise (· ≥ ·)
 | []=>.nil
 | x :: l=>insD_sort x (fallD_sort l)
theorem fallD_is {l m:List Int} (p:m.Perm l) (h:m.Pairwise (· ≥ ·)) : m=fallD l :=
 List.Perm.eq_of_pairwise (le:=(· ≥ ·)) (fun a b _ _ x y=>by omega) h (fallD_sort l) (p.trans (fallD_perm l).symm)
end L2
namespace Sw
open PySem L2
inductive Mvs (H:Hp) : List V→List (Int × Str)→Prop
 | nil:Mvs H [] []
 | cons {t:Addr} {k:Int} {x:Str} {vs:List V} {r:List (Int × Str)} : H t=some (.tup [.int k,.str x])→Mvs H vs r→Mvs H (.ref t :: vs) ((k,x) :: r)
theorem Mvs.length {H:Hp} : ∀ {vs:List V} {r:List (Int × Str)},Mvs H vs r→vs.length=r.length
 | _,_,.nil=>rfl
 | _,_,.cons _ x=>by rw [List.length_cons,List.length_cons,x.length]
theorem Mvs.append {H:Hp} : ∀ {vs ws:List V} {r q:List (Int × Str)},Mvs H vs r→Mvs H ws q→Mvs H (vs++ws) (r++q)
 | _,_,_,_,.nil,y=>y
 | _,_,_,_,.cons h x,y=>.cons h (x.append y)
end Sw
namespace Sw
open PySem L2
def signs (x:Str) : List Nat:=x.cps.toList
end Sw
namespace Sw
open PySem L2
theorem len_in_flat {rs:List (List Int)} {r:List Int} (h:r∈rs) : r.length≤rs.flatten.length:=by
 induction rs with
 | nil=>cases h
 | cons a rs ih =>
  rw [List.flatten_cons,List.length_append]
  rcases List.mem_cons.mp h with rfl | h
  ·omega
  ·have:=ih h; omega
theorem few_in_flat {rs:List (List Int)} (h : ∀ r∈rs,r≠[]) : rs.length≤rs.flatten.length:=by
 induction rs with
 | nil=>exact Nat.le_refl _
 | cons a rs ih =>
  rw [List.flatten_cons,List.length_append,List.length_cons]
  have:=ih fun r hr=>h r (List.mem_cons_of_mem _ hr)
  have:=List.length_pos_iff.mpr (h a List.mem_cons_self)
  omega
theorem rnd_facts {n:Int} {xs:List Int} (o:Ord n xs) : (rndM n xs).flatten.length=n.toNat∧(∀ r∈rndM n xs,r≠[]∧r.length≤n.toNat∧∀ x∈r,1≤x∧x≤n)∧(rndM n xs).length≤n.toNat:=by
 have c : ∀ r∈rndM n xs,r≠[]∧∀ x∈r,1≤x∧x≤n:=fun r hr=>by
  obtain ⟨c1,c2⟩:=rnd_cyc o hr
  refine ⟨c1,fun x hx=>?_⟩
  obtain ⟨i,hi⟩:=List.getElem?_of_mem hx
  obtain ⟨a,b,_⟩:=c2 i x hi
  exact ⟨a,b⟩
 have fl:(rndM n xs).flatten.length=n.toNat:=by
  have pm:(rndM n xs).flatten.Perm (ivl 1 (n+1)):=by
   refine (List.perm_ext_iff_of_nodup (rnd_nodup o) (ivl_nodup _ _)).mpr fun x=>?_
   rw [mem_ivl]
   constructor
   ·intro h
    obtain ⟨r,hr,hx⟩:=List.mem_flatten.mp h
    have:=(c r hr).2 x hx
    omega
   ·intro h
    exact rnd_all o (by omega) (by omega)
  rw [pm.length_eq,ivl_length]
  congr 1
  omega
 refine ⟨fl,fun r hr=>⟨(c r hr).1,?_,(c r hr).2⟩,?_⟩
 ·rw [← fl]; exact len_in_flat hr
 ·rw [← fl]; exact few_in_flat fun r hr=>(c r hr).1
end Sw
namespace Sw
open PySem L2
def srtA (r:List Int) : List Int:=(fallD r).reverse
theorem srtA_perm (r:List Int) : (srtA r).Perm r:=(List.reverse_perm _).trans (fallD_perm r)
theorem srtA_le (r:List Int) : (srtA r).Pairwise (·≤·):=List.pairwise_reverse.mpr (fallD_sort r)
theorem srtA_is {l m:List Int} (p:m.Perm l) (h:m.Pairwise (·≤·)) : m=srtA l:=by
 have e:m.reverse=fallD l:=fallD_is ((List.reverse_perm m).trans p) (List.pairwise_reverse.mpr h)
 unfold srtA
 rw [← e,List.reverse_reverse]
theorem srtA_lt {r:List Int} (nd:r.Nodup) : (srtA r).Pairwise (· < ·):=by
 have h1:=srtA_le r
 have h2:(srtA r).Nodup:=(srtA_perm r).nodup_iff.mpr nd
 exact (h1.and h2).imp fun ⟨a,b⟩=>by omega
theorem rise_uniq {a b:List Int} (ha:a.Pairwise (· < ·)) (hb:b.Pairwise (· < ·)) (h : ∀ x,x∈a↔x∈b) : a=b:=by
 have pa:a.Nodup:=ha.imp fun h=>Int.ne_of_lt h
 have pb:b.Nodup:=hb.imp fun h=>Int.ne_of_lt h
 have p:a.Perm b:=(List.perm_ext_iff_of_nodup pa pb).mpr h
 exact List.Perm.eq_of_pairwise (le:=(· < ·)) (fun x y _ _ h1 h2=>by omega) ha hb p
def shM (n:Int) (xs:List Int) : List (List Int):=(rndM n xs).map srtA
theorem ivl_riseS (a b:Int) : (ivl a b).Pairwise (· < ·):=by
 unfold ivl
 refine List.pairwise_map.mpr (List.Pairwise.imp (fun h=>?_) List.pairwise_lt_range)
 omega
structure Shg (n:Int) (Ls:List (List Int)) (hs:List Int) : Prop where
 ne : ∀ L∈Ls,L≠[]
 rise : ∀ L∈Ls,L.Pairwise (· < ·)
 hl:hs.length=Ls.length
 hup:hs.Pairwise (· < ·)
 head : ∀ (i:Nat) (L:List Int) (a:Int),Ls[i]?=some L→hs[i]?=some a→L[0]?=some a
 cov:Ls.flatten.Perm (ivl 1 (n+1))
theorem sh_facts {n:Int} {xs:List Int} (o:Ord n xs) : Shg n (shM n xs) ((ivl 1 (n+1)).filter (least xs)):=by
 have rb : ∀ m∈(ivl 1 (n+1)).filter (least xs),1≤m∧m≤n:=fun m hm=>ivl_mem3.mp (List.mem_filter.mp hm).1
 have key : ∀ L∈shM n xs,∃ m,(1≤m∧m≤n)∧least xs m=true∧L=srtA (orb xs m):=fun L hL=>by
  unfold shM rndM at hL
  obtain ⟨r,hr,rfl⟩:=List.mem_map.mp hL
  obtain ⟨m,hm,rfl⟩:=List.mem_map.mp hr
  exact ⟨m,rb m hm,(List.mem_filter.mp hm).2,rfl⟩
 refine ⟨fun L hL=>?_,fun L hL=>?_,?_,?_,fun i L a h1 h2=>?_,?_⟩
 ·obtain ⟨m,hb,_,rfl⟩:=key L hL
  intro z
  have:=(srtA_perm (orb xs m)).mem_iff.mpr (orb_self m)
  rw [z] at this; cases this
 ·obtain ⟨m,hb,_,rfl⟩:=key L hL
  exact srtA_lt (orb_nodup o hb.1 hb.2)
 ·unfold shM rndM; rw [List.length_map,List.length_map]
 ·refine List.Pairwise.filter _ ?_
  exact ivl_riseS 1 (n+1)
 ·unfold shM rndM at h1
  rw [List.getElem?_map,List.getElem?_map,h2] at h1
  have e:srtA (orb xs a)=L:=Option.some.inj h1
  have am:=List.mem_of_getElem? h2
  have la:=(List.mem_filter.mp am).2
  have mem:=(srtA_perm (orb xs a)).mem_iff.mpr (orb_self (xs:=xs) a)
  have le:=srtA_le (orb xs a)
  rw [e] at mem le
  cases L with
  | nil=>cases mem
  | cons y r =>
   show some y=some a
   have hy:y∈orb xs a:=(srtA_perm (orb xs a)).mem_iff.mp (by rw [e]; exact List.mem_cons_self)
   have h3:a≤y:=of_decide_eq_true (List.all_eq_true.mp la y hy)
   have h4:y≤a:=by
    rcases List.mem_cons.mp mem with z | z
    ·omega
    ·exact (List.pairwise_cons.mp le).1 a z
   have:y=a:=by omega
   rw [this]
 ·have nd:=rnd_nodup o
  have p1 : ∀ rs:List (List Int),(rs.map srtA).flatten.Perm rs.flatten:=by
   intro rs
   induction rs with
   | nil=>exact .refl _
   | cons r rs ih =>
    rw [List.map_cons,List.flatten_cons,List.flatten_cons]
    exact (srtA_perm r).append ih
  refine (p1 _).trans ((List.perm_ext_iff_of_nodup nd (ivl_nodup3 n)).mpr fun x=>?_)
  rw [ivl_mem3]
  constructor
  ·intro h
   obtain ⟨r,hr,hx⟩:=List.mem_flatten.mp h
   exact ((rnd_facts o).2.1 r hr).2.2 x hx
  ·rintro ⟨h1,h2⟩
   exact rnd_all o h1 h2
end Sw
namespace Sw
open PySem L2
def ShQ (H H':Hp) (q:Addr) (S:List (List Int)) : Prop:=∃ ws,H q=none∧H' q=some (.lst ws)∧Lsts H' ws S∧Fresh H ws∧V.ref q∉ws
def spShb:Sp:=fun vs H Q _=>∃ (t:Addr) (n:Int) (xs:List Int),vs=[.ref t]∧H t=some (.tup (xs.map V.int))∧Ord n xs∧n≤12∧∀ q H',ShQ H H' q (shM n xs)→Same H H'→Q (.ref q) H'
theorem hds_of {H:Hp} {vs:List V} {n:Int} {Ls:List (List Int)} {hs:List Int} (x:Lsts H vs Ls) (s:Shg n Ls hs) : Hds H vs hs:=by
 have wl:=x.length
 refine ⟨by rw [s.hl,wl],fun i a c h1 h2=>?_,fun i v a hv ha=>?_⟩
 ·obtain ⟨l1,e1⟩:=List.getElem?_eq_some_iff.mp h1
  obtain ⟨l2,e2⟩:=List.getElem?_eq_some_iff.mp h2
  have:=List.pairwise_iff_getElem.mp s.hup i (i+1) l1 l2 (by omega)
  rw [e1,e2] at this
  exact this
 ·obtain ⟨b,ns,rfl,hb,hn⟩:=x.get hv
  exact ⟨b,ns,rfl,hb,s.head i ns a hn ha⟩
structure TSb0 (P:Program) (w:World) (K:PySem.W.Frag) (mg:Str→Option Value) (base:Heap) : Prop extends T1 mg K where
 b_sorted:mg "sorted" = none
 f_rounds:FnAt P w K mg base "rounds" 3 ["order"] spRounds
section
variable {P:Program} {w:World} {K:PySem.W.Frag} {mg:Str→Option Value} {base:Heap}
theorem sc_shared_by:FnScope ["order"] ["order"] (defScope (top 35)):=⟨rfl,rfl,rfl,by decide +kernel,rfl,by decide +kernel,by decide +kernel⟩
theorem ok_shb {f:Addr} {fd:FuncData} (F:Fun K "shared_by" "shared_by" (top 35) f fd) (T:TSb0 P w K mg base) : FnOk P w K mg base CX0 4 f fd ["order"] spShb:=by
 refine F.ok sc_shared_by (fun vs H Q E h=>?_) (fun cdv A outer s H vs Q E hr h=>?_)
 ·obtain ⟨t,n,xs,rfl,_⟩:=h
  rfl
 ·obtain ⟨t,n,xs,rfl,ht,o,n12,k⟩:=h
  refine ⟨_,(pss_one (ps_ret (pe_callB (call_sortedR (K:=K) rfl hr.units) rfl T.b_sorted (by decide +kernel) (pa_cons (pe_comp (N:=(["found"] : List Str)) (ix:=([none] : List (Option Nat))) (comp_ok rfl rfl) rfl (pi_listK (K:=K) rfl (pe_callF T.f_rounds (hr.mono (by first | decide | omega)) rfl (pa_cons (pv 0) pa_nil))) (fun _ _ _ _=>(pg_name (i:=0) (show List.Nodup (["found"] : List Str) from by decide +kernel) rfl (Or.inl rfl))) (fun _ _ _ _=>pif_nil) (fun _ _ _ _=>(pe_callB (call_sorted (K:=K) rfl) rfl T.b_sorted (by decide +kernel) (pa_cons (pv 0) pa_nil)))) pa_nil)))),?_⟩
  have rf:=rnd_facts o
  have sf:=sh_facts o
  refine ⟨_,rfl,t,n,xs,rfl,ht,o,by omega,fun l ws H1 fl hl xl frl nl s1=>?_⟩
  have wl:=xl.length
  have rl:=rf.2.2
  refine ⟨l,rfl,⟨_,SqL.of hl⟩,compL (K:=K) (a:=l) (xs:=ws) (k:=0) (fun i ys σ' H'=>(∃ v,σ'=[v])∧Lsts H' ys ((shM n xs).take i)∧Fresh H ys∧Same H1 H') (by omega) ⟨⟨none,rfl⟩,.nil,Fresh.nil,Same.refl _⟩ (fun i ys σ' H' _ z=>SqL.of (z.2.2.2 _ _ hl)) (fun i ys σ' H' z=>by have:=z.2.1.length; rw [List.length_take] at this; omega) ?_ ?_⟩
  ·rintro i ys σ' H2 x R hx ⟨⟨v,rfl⟩,xy,fy,s2⟩ done
   obtain ⟨b,r,rfl,hb,hr2⟩:=(xl.keep s2).get hx
   have rb:=(rf.2.1 r (List.mem_of_getElem? hr2)).2.1
   refine ⟨_,rfl,b,r,rfl,SqL.of hb,by omega,fun lc r' flc pm pw=>done _ _ _ ⟨⟨_,rfl⟩,?_,fy.snoc xy flc ((s1.trans s2).free flc),s2.trans (Same.new flc)⟩⟩
   have e:=srtA_is pm pw
   have ht:(shM n xs)[i]?=some r':=by unfold shM; rw [List.getElem?_map,hr2,e]; rfl
   rw [take_snoc ht]
   exact (xy.keep (Same.new flc)).snoc upd_same
  ·rintro ys σ' H2 q ⟨_,xy,fy,s2⟩ fq
   have sl:(shM n xs).length=(rndM n xs).length:=by unfold shM; rw [List.length_map]
   rw [List.take_of_length_le (by omega)] at xy
   have yl:=xy.length
   have s3:Same H2 (upd H2 q (.lst ys)):=Same.new fq
   have h3:upd H2 q (.lst ys) q=some (.lst ys):=upd_same
   generalize upd H2 q (.lst ys)=H3 at s3 h3 ⊢
   have xy3:=xy.keep s3
   refine ⟨q,ys,_,rfl,SqL.of h3,by omega,hds_of xy3 sf,fun l2 f2=>?_⟩
   have S:=s1.trans (s2.trans s3)
   refine k l2 _ ⟨ys,S.free f2,upd_same,xy3.keep (Same.new f2),fy,fun z=>?_⟩ (S.trans (Same.new f2))
   obtain ⟨o',e⟩:=xy3.mem z
   rw [f2] at e; cases e
end
end Sw
namespace Sw
open PySem L2
def spGreat:Sp:=fun vs H Q _=>∃ (n:Int),vs=[.int n]∧1≤n∧n≤1000∧∀ t H',H t=none→H' t=some (.tup (((ivl 1 (n+1)).map (fun x=>x % n+1)).map V.int))→Same H H'→Q (.ref t) H'
section
variable {P:Program} {w:World} {K:PySem.W.Frag} {mg:Str→Option Value} {base:Heap}
theorem sc_great:FnScope ["n"] ["n"] (defScope (top 19)):=⟨rfl,rfl,rfl,by decide +kernel,rfl,by decide +kernel,by decide +kernel⟩
theorem ok_great {f:Addr} {fd:FuncData} (F:Fun K "great" "great" (top 19) f fd) (T:T1 mg K) : FnOk P w K mg base CX0 1 f fd ["n"] spGreat:=by
 refine F.ok sc_great (fun vs H Q E h=>?_) (fun cdv A outer s H vs Q E hr h=>?_)
 ·obtain ⟨n,rfl,_⟩:=h
  rfl
 ·obtain ⟨n,rfl,n1,n2,k⟩:=h
  refine ⟨_,(pss_one (ps_ret (pe_callTy (call_tuple_ofK (K:=K) rfl) rfl T.b_tuple (by decide +kernel) (pa_cons (pe_comp (N:=(["thing", "n"] : List Str)) (ix:=([none,some 0] : List (Option Nat))) (comp_ok rfl rfl) rfl (pi_range2 rfl T.b_range (pa_cons pe_int (pa_cons (pe_op op_add (pv 0) pe_int) pa_nil))) (fun _ _ _ _=>(pg_name (i:=0) (show List.Nodup (["thing", "n"] : List Str) from by decide +kernel) rfl (Or.inl rfl))) (fun _ _ _ _=>pif_nil) (fun _ _ _ _=>(pe_op op_add (pe_op op_mod (pv 0) (pv 1)) pe_int))) pa_nil)))),?_⟩
  refine ⟨_,rfl,_,_,rfl,rfl,1,n+1,rfl,⟨by decide,by decide,by omega,by omega⟩,compR (k:=0) (fun i ys σ' H''=>ys=((ivl 1 (n+1)).take i).map (fun x=>V.int (x % n+1))∧(∃ v,σ'=[v,some (.int n)])∧H''=H) (by omega) ⟨rfl,⟨none,rfl⟩,rfl⟩ (fun i ys σ' H'' q=>by rw [q.1,List.length_map,List.length_take]; omega) ?_ ?_⟩
  ·rintro i ys σ' H'' R hi ⟨rfl,⟨v,rfl⟩,rfl⟩ done
   have hx:(ivl 1 (n+1))[i]?=some (1+(i:Int)):=get_ivl (by omega)
   refine ⟨_,rfl,_,rfl,_,_,rfl,rfl,n1,_,_,rfl,rfl,done _ _ _ ⟨?_,⟨_,rfl⟩,rfl⟩⟩
   exact (take_succ_map (fun x=>V.int (x % n+1)) hx).symm
  ·rintro ys σ' H'' p ⟨rfl,_,rfl⟩ hp
   refine ⟨p,_,rfl,.inl ⟨SqL.of upd_same,fun r hr=>?_⟩⟩
   have s1:=Same.new (o:=.lst (((ivl 1 (n+1)).take (n+1 - 1).toNat).map (fun x=>V.int (x % n+1)))) hp
   refine k r _ (s1.free hr) ?_ (s1.trans (Same.new hr))
   rw [upd_same,List.take_of_length_le (by rw [ivl_length]; exact Nat.le_refl _),List.map_map]
   rfl
end
end Sw
namespace Sw
open PySem L2
def spLedA:Sp:=fun vs H Q _=>∃ (n:Int) (l:Addr) (es:List V) (row:List (Int × Int)),vs=[.int n,.ref l]∧0≤n∧n≤1000∧H l=some (.lst es)∧Exs H es row∧∀ t H',H t=none→H' t=some (.tup ((ledM n row).map V.int))→Same H H'→Q (.ref t) H'
def spChkGX (C:Addr) : Sp:=fun vs H Q E=>∃ (l:Addr) (es:List V) (row:List (Int × Int)),vs=[.ref l]∧H l=some (.lst es)∧Exs H es row∧row.length≤500∧(ledM ((row.length:Int)+1) row=grM ((row.length:Int)+1)→∀ H',Same H H'→Q .non H')∧(ledM ((row.length:Int)+1) row≠grM ((row.length:Int)+1)→∀ H',Same H H'→E (.ref C) none H')
structure T2 (P:Program) (w:World) (K:PySem.W.Frag) (mg:Str→Option Value) (base:Heap) : Prop extends T1 mg K where
 f_plain:FnAt P w K mg base "plain" 1 ["n"] spPlain
 f_exchanged:FnAt P w K mg base "exchanged" 1 ["exchange", "thing"] spEx
structure TCgX (P:Program) (w:World) (K:PySem.W.Frag) (mg:Str→Option Value) (base:Heap) (C:Addr) : Prop extends T1 mg K where
 f_led:FnAt P w K mg base "led" 3 ["n", "row"] spLedA
 f_great:FnAt P w K mg base "great" 1 ["n"] spGreat
 c_NotGreat:mg "NotGreat" = some (.ref C)
 x_NotGreat:ExcC K C
section
variable {P:Program} {w:World} {K:PySem.W.Frag} {mg:Str→Option Value} {base:Heap} {C:Addr}
theorem sc_led:FnScope ["n", "row", "leads", "exchange"] ["n", "row"] (defScope (top 28)):=⟨rfl,rfl,rfl,by decide +kernel,rfl,by decide +kernel,by decide +kernel⟩
theorem ok_ledA {f:Addr} {fd:FuncData} (F:Fun K "led" "led" (top 28) f fd) (T:T2 P w K mg base) : FnOk P w K mg base CX0 3 f fd ["n", "row"] spLedA:=by
 refine F.ok sc_led (fun vs H Q E h=>?_) (fun cdv A outer s H vs Q E hr h=>?_)
 ·obtain ⟨n,l,es,row,rfl,_⟩:=h
  rfl
 ·obtain ⟨n,l0,es,row,rfl,hn0,hn1,hl0,hx,k⟩:=h
  refine ⟨_,(pss_cons (ps_set (i:=2) sc_led.nd rfl (Or.inl rfl) (pe_callTy (call_list_ofK (K:=K) rfl) rfl T.b_list (by decide +kernel) (pa_cons (pe_callF T.f_plain (hr.mono (by first | decide | omega)) rfl (pa_cons (pv 0) pa_nil)) pa_nil)))
   (pss_cons (ps_for PassesOwn.never rfl (pi_listK (K:=K) rfl (pv 1)) (pg_name (i:=3) sc_led.nd rfl (Or.inr rfl)) (pss_one (ps_comp (i:=2) sc_led.nd rfl rfl (N:=(["thing", "exchange"] : List Str)) (ix:=([none,some 3] : List (Option Nat))) (comp_ok rfl rfl) rfl (pi_listK (K:=K) rfl (pv 2)) (fun _ _ _ _=>(pg_name (i:=0) (show List.Nodup (["thing", "exchange"] : List Str) from by decide +kernel) rfl (Or.inl rfl))) (fun _ _ _ _=>pif_nil) (fun _ _ _ _=>(pe_callF T.f_exchanged (hr.mono (by first | decide | omega)) rfl (pa_cons (pv 1) (pa_cons (pv 0) pa_nil)))))))
   (pss_one (ps_ret (pe_callTy (call_tuple_ofK (K:=K) rfl) rfl T.b_tuple (by decide +kernel) (pa_cons (pv 2) pa_nil)))))),?_⟩
  refine ⟨_,rfl,n,rfl,hn0,hn1,fun t H1 ht ht1 s1=>⟨t,_,rfl,.inr (SqT.of ht1),fun l hl=>?_⟩⟩
  have s2:Same H (upd H1 l (.lst ((ivl 1 (n+1)).map V.int))):=s1.trans (Same.new hl)
  refine ⟨_,rfl,l0,rfl,⟨_,SqL.of (s2 _ _ hl0)⟩,for_list (K:=K) (a:=l0) (xs:=es) (fun i σ H'=>∃ (l:Addr) (v3:Option V),σ=[some (.int n),some (.ref l0),some (.ref l),v3]∧Same H H'∧H' l=some (.lst (((ivl 1 (n+1)).map (go (row.take i))).map V.int)))
   ⟨l,none,rfl,s2,by rw [upd_same,List.take_zero]; rw [show (ivl 1 (n+1)).map (go [])=ivl 1 (n+1) from ledM_nil n]⟩ (fun i σ H' _ ⟨_,_,_,s3,_⟩=>SqL.of (s3 _ _ hl0)) ?_ ?_⟩
  ·rintro i y σ H' hi ⟨l,v3,rfl,s3,hl⟩
   obtain ⟨te,a,b,rfl,hte,hrow⟩:=hx.get hi
   have hte':=s3 _ _ hte
   refine ⟨_,rfl,l,rfl,⟨_,SqL.of hl⟩,comp_list (K:=K) (xs:=((ivl 1 (n+1)).map (go (row.take i))).map V.int) (k:=0)
    (fun j ys σ' H''=>ys=((((ivl 1 (n+1)).map (go (row.take i))).take j).map fun x=>V.int (swp x (a,b)))∧(∃ v,σ'=[v,some (.ref te)])∧H''=H') ?_ ⟨rfl,⟨none,rfl⟩,rfl⟩
    (fun j ys σ' H'' _ p=>by rw [p.2.2]; exact SqL.of hl) (fun j ys σ' H'' p=>by rw [p.1,List.length_map,List.length_take]; omega) ?_ ?_ ?_⟩
   ·rw [List.length_map,List.length_map,ivl_length]; omega
   ·rintro j ys σ' H'' x hj ⟨rfl,⟨v,rfl⟩,rfl⟩
    rw [List.getElem?_map] at hj
    cases hz:((ivl 1 (n+1)).map (go (row.take i)))[j]? with
    | none=>rw [hz] at hj; cases hj
    | some z =>
     rw [hz] at hj
     cases hj
     refine ⟨_,rfl,_,rfl,te,a,b,z,rfl,hte',?_,⟨_,rfl⟩,rfl⟩
     exact (take_succ_map (fun x=>V.int (swp x (a,b))) hz).symm
   ·intro σ' H'' R R' m q
    obtain ⟨v,e1,v',e2,t,a,b,x,e3,e4,q⟩:=q
    exact ⟨v,e1,v',e2,t,a,b,x,e3,e4,m _ _ q⟩
   ·rintro ys σ' H'' p ⟨rfl,_,rfl⟩ hp
    refine ⟨p,_,rfl,s3.trans (Same.new hp),?_⟩
    rw [upd_same,List.take_of_length_le (by simp),List.map_map,List.map_map]
    congr 2
    apply List.map_congr_left
    intro x _
    show V.int (swp (go (row.take i) x) (a,b))=V.int (go (row.take (i+1)) x)
    rw [go_take hrow]
  ·rintro σ H' ⟨l,v3,rfl,s3,hl⟩
   rw [hx.length,List.take_length] at hl
   refine ⟨_,rfl,l,_,rfl,.inl ⟨SqL.of hl,fun t ht=>?_⟩⟩
   exact k t _ (s3.free ht) upd_same (s3.trans (Same.new ht))
theorem sc_check_great:FnScope ["row", "n"] ["row"] (defScope (top 29)):=⟨rfl,rfl,rfl,by decide +kernel,rfl,by decide +kernel,by decide +kernel⟩
theorem ok_chkGX {f:Addr} {fd:FuncData} (F:Fun K "check_great" "check_great" (top 29) f fd) (T:TCgX P w K mg base C) : FnOk P w K mg base (CX1 P w) 4 f fd ["row"] (spChkGX C):=by
 refine F.okX sc_check_great (fun vs H Q E h=>?_) (fun cdv A outer s H vs Q E hr h=>?_)
 ·obtain ⟨l,es,row,rfl,_⟩:=h
  rfl
 ·obtain ⟨l,es,row,rfl,hl,hx,h100,kQ,kE⟩:=h
  refine ⟨_,(pss_cons (ps_set (i:=1) sc_check_great.nd rfl (Or.inl rfl) (pe_op op_add (pe_callB (call_lenK (K:=K) rfl) rfl T.b_len (by decide +kernel) (pa_cons (pv 0) pa_nil)) pe_int))
   (pss_one (ps_if (pt_cmpR (op_neD hr.units) (pe_callF T.f_led (hr.mono (by first | decide | omega)) rfl (pa_cons (pv 1) (pa_cons (pv 0) pa_nil))) (pe_callF T.f_great (hr.mono (by first | decide | omega)) rfl (pa_cons (pv 1) pa_nil)) (nomark _)) (pss_one (ps_raise lvs1 T.x_NotGreat rfl rfl T.c_NotGreat (pa_cons pe_str pa_nil))) pss_nil))),?_⟩
  have el:=hx.length
  refine ⟨_,rfl,l,_,rfl,.inl (SqL.of hl),_,_,rfl,rfl,?_⟩
  rw [el]
  refine ⟨_,rfl,_,rfl,_,l,es,row,rfl,by omega,by omega,hl,hx,fun t H1 ft ht s1=>?_⟩
  refine ⟨_,rfl,_,rfl,by omega,by omega,fun t2 H2 ft2 ht2 s2=>?_⟩
  by_cases hgr:ledM ((row.length:Int)+1) row=grM ((row.length:Int)+1)
  ·refine eqT (s2 _ _ ht) ht2 ⟨_,rfl,iteE ?_ (kQ hgr H2 (s1.trans s2))⟩
   rw [hgr]
   unfold grM
   rw [decide_eq_true rfl]
   rfl
  ·refine eqT (s2 _ _ ht) ht2 ⟨_,rfl,iteP ?_ ⟨(by show 1≤sizeLine; decide),kE hgr H2 (s1.trans s2)⟩⟩
   unfold grM at hgr
   rw [decide_eq_false hgr]
   rfl
end
end Sw
namespace Sw
open PySem L2
def Shs (H:Hp) (as:List Addr) (uss:List (List V)) (SS:List (List (List Int))) : Prop:=as.length=SS.length∧uss.length=SS.length∧∀ (i:Nat) (a:Addr) (us:List V) (S:List (List Int)),as[i]?=some a→uss[i]?=some us→SS[i]?=some S→H a=some (.lst us)∧Lsts H us S
theorem Shs.keep {H H':Hp} {as:List Addr} {uss:List (List V)} {SS:List (List (List Int))} (x:Shs H as uss SS) (s:Same H H') : Shs H' as uss SS:=⟨x.1,x.2.1,fun i a us S h1 h2 h3=>by
 obtain ⟨e1,e2⟩:=x.2.2 i a us S h1 h2 h3
 exact ⟨s _ _ e1,e2.keep s⟩⟩
theorem Shs.nil {H:Hp} : Shs H [] [] []:=⟨rfl,rfl,fun i a us S h1=>by simp at h1⟩
theorem Shs.snoc {H:Hp} {as:List Addr} {uss:List (List V)} {SS:List (List (List Int))} {a:Addr} {us:List V} {S:List (List Int)} (x:Shs H as uss SS) (h1:H a=some (.lst us)) (h2:Lsts H us S) : Shs H (as++[a]) (uss++[us]) (SS++[S]):=by
 obtain ⟨x1,x2,x3⟩:=x
 refine ⟨by simp [x1],by simp [x2],fun i b vs T e1 e2 e3=>?_⟩
 by_cases c:i<SS.length
 ·rw [List.getElem?_append_left (by omega)] at e1 e2 e3
  exact x3 i b vs T e1 e2 e3
 ·have:i=SS.length:=by
   have:=(List.getElem?_eq_some_iff.mp e3).1
   simp at this
   omega
  subst this
  rw [List.getElem?_append_right (by omega),x1,Nat.sub_self] at e1
  rw [List.getElem?_append_right (by omega),x2,Nat.sub_self] at e2
  rw [List.getElem?_append_right (by omega),Nat.sub_self] at e3
  cases e1; cases e2; cases e3
  exact ⟨h1,h2⟩
theorem Shs.mem {H:Hp} {as:List Addr} {uss:List (List V)} {SS:List (List (List Int))} (x:Shs H as uss SS) {b:Addr} (h:V.ref b∈uss.flatten) : ∃ zs,H b=some (.lst zs):=by
 obtain ⟨us,hu,hb⟩:=List.mem_flatten.mp h
 obtain ⟨i,hi,e⟩:=List.getElem_of_mem hu
 have h1:i<as.length:=by rw [x.1,← x.2.1]; exact hi
 have h2:i<SS.length:=by rw [← x.2.1]; exact hi
 obtain ⟨_,l⟩:=x.2.2 i _ us _ (List.getElem?_eq_getElem h1) (by rw [List.getElem?_eq_getElem hi,e]) (List.getElem?_eq_getElem h2)
 obtain ⟨o,e⟩:=l.mem hb
 exact ⟨_,e⟩
end Sw
namespace Sw
open PySem L2
def begM (R:List (Int × Int)) : List (List (List Int)):=(List.range (R.length+1)).map fun i=>shM ((R.length:Int)+1) (ledM ((R.length:Int)+1) (R.take i))
def spBegX (C:Addr) : Sp:=fun vs H Q E=>∃ (l:Addr) (es:List V) (R:List (Int × Int)),vs=[.ref l]∧H l=some (.lst es)∧Exs H es R∧(∀ e∈R,1≤e.1∧e.1<e.2)∧R.length≤11∧(ledM ((R.length:Int)+1) R=grM ((R.length:Int)+1)→∀ q H',Same H H'→Q (.ref q) H')∧(ledM ((R.length:Int)+1) R≠grM ((R.length:Int)+1)→∀ H',Same H H'→E (.ref C) none H')
structure TBgX (P:Program) (w:World) (K:PySem.W.Frag) (mg:Str→Option Value) (base:Heap) (C:Addr) : Prop extends T1 mg K where
 f_check_great:FnAtX P w K mg base "check_great" 4 ["row"] (spChkGX C)
 f_shared_by:FnAt P w K mg base "shared_by" 4 ["order"] spShb
 f_led:FnAt P w K mg base "led" 3 ["n", "row"] spLedA
theorem Exs.takeB {H:Hp} : ∀ {vs:List V} {r:List (Int × Int)} (k:Nat),Exs H vs r→Exs H (vs.take k) (r.take k)
 | _,_,_,.nil=>by rw [List.take_nil,List.take_nil]; exact .nil
 | _,_,0,.cons _ _=>.nil
 | _,_,k+1,.cons h x=>.cons h (x.takeB k)
section
variable {P:Program} {w:World} {K:PySem.W.Frag} {mg:Str→Option Value} {base:Heap} {C:Addr}
theorem sc_beginnings:FnScope ["row", "n"] ["row"] (defScope (top 36)):=⟨rfl,rfl,rfl,by decide +kernel,rfl,by decide +kernel,by decide +kernel⟩
theorem ok_begX {f:Addr} {fd:FuncData} (F:Fun K "beginnings" "beginnings" (top 36) f fd) (T:TBgX P w K mg base C) : FnOk P w K mg base (CX1 P w) 5 f fd ["row"] (spBegX C):=by
 refine F.okX sc_beginnings (fun vs H Q E h=>?_) (fun cdv A outer s H vs Q E hr h=>?_)
 ·obtain ⟨l,es,R,rfl,_⟩:=h
  rfl
 ·obtain ⟨l,es,R,rfl,hl,xr,hpos,r11,kQ,kE⟩:=h
  refine ⟨_,(pss_cons (ps_expr (pe_callX1 T.f_check_great pass1 (hr.mono (by decide)) rfl (pa_cons (pv 0) pa_nil)))
   (pss_cons (ps_set (i:=1) sc_beginnings.nd rfl (Or.inr rfl) (pe_op op_add (pe_callB (call_lenK (K:=K) rfl) rfl T.b_len (by decide +kernel) (pa_cons (pv 0) pa_nil)) pe_int))
   (pss_one (ps_ret (pe_comp (N:=(["many", "n", "row"] : List Str)) (ix:=([none,some 1,some 0] : List (Option Nat))) (comp_ok rfl rfl) rfl (pi_range1 rfl T.b_range (pa_cons (pv 1) pa_nil)) (fun _ _ _ _=>(pg_name (i:=0) (show List.Nodup (["many", "n", "row"] : List Str) from by decide +kernel) rfl (Or.inl rfl))) (fun _ _ _ _=>pif_nil) (fun _ _ _ _=>(pe_callF T.f_shared_by (hr.mono (by first | decide | omega)) rfl (pa_cons (pe_callF T.f_led (hr.mono (by first | decide | omega)) rfl (pa_cons (pv 1) (pa_cons (pe_slice (sl_listK (K:=K) rfl) (pv 2) po_none (po_some (pv 0))) pa_nil))) pa_nil)))))))),?_⟩
  have el:=xr.length
  refine ⟨_,rfl,l,es,R,rfl,hl,xr,by omega,fun gr H1 s1=>?_,kE⟩
  have hg:=great_good hpos gr
  have k:=kQ gr
  have hl1:=s1 _ _ hl
  have xr1:=xr.keep (Same.tups s1)
  refine ⟨_,rfl,l,_,rfl,.inl (SqL.of hl1),_,_,rfl,rfl,?_⟩
  rw [el]
  have bl:(begM R).length=R.length+1:=by unfold begM; rw [List.length_map,List.length_range]
  refine ⟨_,rfl,_,rfl,by omega,by omega,compR (k:=0) (fun i ys σ' H'=>(∃ as uss,ys=as.map V.ref∧Shs H' as uss ((begM R).take i)∧uss.flatten.Nodup∧∀ v∈uss.flatten,∃ b,v=.ref b∧H b=none)∧(∃ v,σ'=[v,some (.int ((R.length:Int)+1)),some (.ref l)])∧Same H1 H') (by omega) ⟨⟨[],[],rfl,Shs.nil,List.nodup_nil,fun v hv=>nomatch hv⟩,⟨none,rfl⟩,Same.refl _⟩ (fun i ys σ' H' z=>by obtain ⟨⟨as,uss,e,x,_⟩,_⟩:=z; have:=x.1; rw [e,List.length_map,this,List.length_take]; omega) ?_ ?_⟩
  ·rintro i ys σ' H2 RR hi ⟨⟨as,uss,rfl,x2,nd2,fr2⟩,⟨v,rfl⟩,s2⟩ done
   have hl2:=s2 _ _ hl1
   have hi':i<R.length+1:=by omega
   have ci:cutV es none (some (0+(i:Int)))=es.take i:=by rw [cutT9 (by omega) (by omega),show (0+(i:Int)).toNat=i by omega]
   refine ⟨_,rfl,_,rfl,?_⟩
   dsimp only [tNoPart]
   refine ⟨_,rfl,_,rfl,l,es,rfl,SqL.of hl2,fun l3 f3=>?_⟩
   have s3:Same H2 (upd H2 l3 (.lst (cutV es none (some (0+(i:Int)))))):=Same.new f3
   have g3:upd H2 l3 (.lst (cutV es none (some (0+(i:Int))))) l3=some (.lst (es.take i)):=by rw [upd_same,ci]
   generalize upd H2 l3 (.lst (cutV es none (some (0+(i:Int)))))=H3 at s3 g3 ⊢
   have x3:Exs H3 (es.take i) (R.take i):=(xr1.keep (Same.tups (s2.trans s3))).takeB i
   have hg':Good ((R.length:Int)+1) (R.take i):=fun e he=>hg e (List.mem_of_mem_take he)
   refine ⟨_,l3,_,_,rfl,by omega,by omega,g3,x3,fun t H4 ft ht s4=>?_⟩
   refine ⟨t,(R.length:Int)+1,_,rfl,ht,ord_led hg',by omega,fun q H5 sq s5=>?_⟩
   obtain ⟨us,fq,hq,xq,frq,nq⟩:=sq
   have a5:=s3.trans (s4.trans s5)
   have a4:=s1.trans (s2.trans (s3.trans s4))
   have ht2:(begM R)[i]?=some (shM ((R.length:Int)+1) (ledM ((R.length:Int)+1) (R.take i))):=by unfold begM; rw [List.getElem?_map,List.getElem?_range hi']; rfl
   refine done _ _ _ ⟨⟨as++[q],uss++[us],by rw [List.map_append]; rfl,?_,?_,?_⟩,⟨_,rfl⟩,s2.trans a5⟩
   ·rw [take_snoc ht2]
    exact (x2.keep a5).snoc hq xq
   ·rw [List.flatten_append]
    refine List.nodup_append.mpr ⟨nd2,by simpa using frq.1,fun u hu v hv=>?_⟩
    rintro rfl
    have hv:u∈us:=by simpa using hv
    obtain ⟨b,e,fb⟩:=frq.2 u hv
    subst e
    obtain ⟨zs,e⟩:=(x2.keep (s3.trans s4)).mem hu
    rw [fb] at e; cases e
   ·intro v hv
    rw [List.flatten_append] at hv
    rcases List.mem_append.mp hv with hv | hv
    ·exact fr2 v hv
    ·have hv:v∈us:=by simpa using hv
     obtain ⟨b,e,fb⟩:=frq.2 v hv
     exact ⟨b,e,a4.free fb⟩
  ·rintro ys σ' H2 q ⟨⟨as,uss,rfl,x2,nd2,fr2⟩,_,s2⟩ fq
   rw [List.take_of_length_le (by omega)] at x2
   exact k q _ (s1.trans (s2.trans (Same.new fq)))
end
end Sw
namespace L2
open PySem PySem.Spec PyProof.Rows
inductive One (x0:Str) : List (Str × NameKind)→Prop
 | here {r:List (Str × NameKind)} : (∀ y∈r,y.2≠.cell)→One x0 ((x0,.cell) :: r)
 | skip {n:Str} {k:NameKind} {r:List (Str × NameKind)} : k≠.cell→One x0 r→One x0 ((n,k) :: r)
theorem One.only {x0:Str} : ∀ {ns:List (Str × NameKind)},One x0 ns→∀ y∈ns,y.2=.cell→y.1=x0
 | _,.here h,y,hy,e=>by
  rcases List.mem_cons.mp hy with rfl | hy
  ·rfl
  ·exact absurd e (h y hy)
 | _,.skip h r,y,hy,e=>by
  rcases List.mem_cons.mp hy with rfl | hy
  ·exact absurd e h
  ·exact r.only y hy e
def cxK (X:Cx) (N:List Str) (scope:Scope) (x0:Str) (C:Addr) (fp:List Addr) (s:Shared) (H:Hp) : Cx :=
 { X with N:=N,s₀:=s,H₀:=H,env:=compEnvC scope ((x0,C+1) :: closL X.env.cells scope.names []) C X.env,outer:=X.stack,stack:=X.stack,ex:=fp,fn:=fun y=>y == x0,xe:=fun _ _=>False }
structure CompOkK (X:Cx) (scope:Scope) (N:List Str) (ix:List (Option Nat)) (x0:Str) : Prop where
 kind:scope.kind=.function
 own:One x0 scope.names
 nof:(x0,NameKind.free)∉scope.names
 len:ix.length=N.length
 names : ∀ y∈scope.names,y.2=.local→scope.names.lookup y.1=some .local
 fr : ∀ y∈scope.names,y.2=.free→X.env.kindOf y.1=some .cell∨X.env.kindOf y.1=some .free
 cap : ∀ (j i:Nat),ix[j]?=some (some i)→∃ x:Str,N[j]?=some x∧X.N[i]?=some x∧scope.names.lookup x=some .free∧(x,NameKind.free)∈scope.names
theorem nocells {s:Shared} {M:Model} {A:Around} {E:Value→Shared→Prop} {Q:List (Str × Addr)→Shared→Prop} : ∀ (ns:List (Str × NameKind)) (cells:List (Str × Addr)),(∀ y∈ns,y.2≠.cell)→Q cells s →
  wpAny M A (forIn ns cells fun x __s=>(match x with | (name,kind)=>if (kind == NameKind.cell)=true then (do let c ← alloc { cls:=.type "cell", data:=.cell none }; pure (ForInStep.yield ((name,c) :: __s))) else pure (ForInStep.yield __s)) : Sem (List (Str × Addr))) Q E s
 | [],cells,_,h=>by
  rw [List.forIn_nil]
  exact wpAny_pure h
 | (n,k) :: r,cells,hn,h=>by
  rw [List.forIn_cons]
  have hk:(k == NameKind.cell)=false:=by
   have:=hn (n,k) List.mem_cons_self
   cases k <;> first | rfl | exact absurd rfl this
  simp only [hk,Bool.false_eq_true,if_false,pure_bind]
  exact nocells r cells (fun y hy=>hn y (List.mem_cons_of_mem _ hy)) h
theorem onecell {x0:Str} {M:Model} {A:Around} {E:Value→Shared→Prop} {Q:List (Str × Addr)→Shared→Prop} : ∀ {s:Shared} (ns:List (Str × NameKind)) (cells:List (Str × Addr)),One x0 ns→Q ((x0,s.heap.objs.size) :: cells) { s with heap:=s.heap.push { cls:=.type "cell", data:=.cell none } } →
  wpAny M A (forIn ns cells fun x __s=>(match x with | (name,kind)=>if (kind == NameKind.cell)=true then (do let c ← alloc { cls:=.type "cell", data:=.cell none }; pure (ForInStep.yield ((name,c) :: __s))) else pure (ForInStep.yield __s)) : Sem (List (Str × Addr))) Q E s
 | s,_,cells,.here (r:=r) hn,h=>by
  rw [List.forIn_cons]
  simp only [show (NameKind.cell == NameKind.cell)=true from rfl,if_true,bind_assoc,pure_bind]
  exact wpAny_bind (wpAny_alloc (nocells r _ hn h))
 | s,_,cells,.skip (n:=n) (k:=k) (r:=r) hk o,h=>by
  rw [List.forIn_cons]
  have hk:(k == NameKind.cell)=false:=by cases k <;> first | rfl | exact absurd rfl hk
  simp only [hk,Bool.false_eq_true,if_false,pure_bind]
  exact onecell r cells o h
theorem newEnvK {M:Model} {A:Around} {E:Value→Shared→Prop} {s:Shared} {scope:Scope} {x0:Str} {globals:Addr} {cl:List (Str × Addr)} {qual:Str} {oe:Env} {Q:Env→Shared→Prop} (o:One x0 scope.names)
  (h:Q { scope:=scope,locals:=s.heap.objs.size,globals:=globals,cells:=(x0,s.heap.objs.size+1) :: cl,qual:=qual,func:=none,code:=oe.code,frame:=oe.frame,builtins:=oe.builtins } { s with heap:=(s.heap.push { cls:=.type "dict", data:=.dict #[] }).push { cls:=.type "cell", data:=.cell none } }) :
  wpAny M A (newFunctionEnv scope globals cl [] qual none .none (some oe)) Q E s:=by
 rw [newFunctionEnv.eq_1]
 refine wpAny_bind (wpAny_alloc ?_)
 refine wpAny_bind (onecell _ _ o ?_)
 simp only [List.forIn_nil,pure_bind]
 refine wpAny_pure ?_
 rw [← show (s.heap.push { cls:=.type "dict", data:=.dict #[] }).objs.size=s.heap.objs.size+1 from Heap.size_push _ _] at h
 exact h
theorem of_relabelK {env:Env} {x0:Str} : ∀ {names:List (Str × NameKind)} {x:Str} {q:NameKind},(names.map fun (n,k)=>if (k == NameKind.free && env.scope.kind == .function && env.kindOf n == some .cell) then (n,NameKind.cell) else (n,k)).lookup x=some q →
  (∀ y∈names,y.2=.cell→y.1=x0)→q=.cell∨q=.free→x=x0∨(x,NameKind.free)∈names
 | [],_,_,h,_,_=>by simp at h
 | (n,k) :: r,x,q,h,hn,hq=>by
  have ih:=@of_relabelK env x0 r x q
  have h:List.lookup x ((if (k == NameKind.free && env.scope.kind == .function && env.kindOf n == some .cell)=true then (n,NameKind.cell) else (n,k)) :: r.map fun (n,k)=>if (k == NameKind.free && env.scope.kind == .function && env.kindOf n == some .cell) then (n,NameKind.cell) else (n,k))=some q:=h
  have nk:k=.cell→n=x0:=hn (n,k) List.mem_cons_self
  have hn' : ∀ y∈r,y.2=.cell→y.1=x0:=fun y hy=>hn y (List.mem_cons_of_mem _ hy)
  cases hx:x == n with
  | true =>
   have e:x=n:=by simpa using hx
   subst e
   by_cases hc:(k == NameKind.free && env.scope.kind == .function && env.kindOf x == some .cell)=true
   ·have:k=.free:=by
     simp only [Bool.and_eq_true] at hc
     simpa using hc.1.1
    subst this
    exact .inr List.mem_cons_self
   ·rw [if_neg hc] at h
    simp only [List.lookup_cons,hx] at h
    cases h
    rcases hq with z | z
    ·exact .inl (nk z)
    ·rw [z]; exact .inr List.mem_cons_self
  | false =>
   by_cases hc:(k == NameKind.free && env.scope.kind == .function && env.kindOf n == some .cell)=true
   ·rw [if_pos hc] at h; simp only [List.lookup_cons,hx] at h; exact (ih h hn' hq).imp id fun z=>List.mem_cons_of_mem _ z
   ·rw [if_neg hc] at h; simp only [List.lookup_cons,hx] at h; exact (ih h hn' hq).imp id fun z=>List.mem_cons_of_mem _ z
theorem subK {cells:List (Str × Addr)} {ns:List (Str × NameKind)} {x0 x:Str} {a d:Addr} (e:List.lookup x ((x0,a) :: closL cells ns [])=some d) : (x=x0∧d=a)∨cells.lookup x=some d:=by
 rw [List.lookup_cons] at e
 cases h:x == x0 with
 | true =>
  rw [h] at e
  have:a=d:=by simpa using e
  exact .inl ⟨by simpa using h,this.symm⟩
 | false =>
  rw [h] at e
  rcases closL_sub e with z | z
  ·simp at z
  ·exact .inr z
theorem hasK {L:List (Str × Addr)} {x0 x:Str} {a d:Addr} (n:x≠x0) (e:L.lookup x=some d) : List.lookup x ((x0,a) :: L)=some d:=by
 rw [List.lookup_cons,show (x == x0)=false by simpa using n]
 exact e
section
variable {X:Cx} {pins:List (Addr × Obj)} {σ : St} {H:Hp} {s:Shared} {scope:Scope} {N:List Str} {ix:List (Option Nat)} {fp:List Addr} {x0:Str}
theorem CompOkK.ok (c:CompOkK X scope N ix x0) (I:Inv X pins σ H s) (hf : ∀ b∈fp,FpOk X pins H b) (hlt : ∀ b∈fp,b<s.heap.objs.size) {C:Nat} (hC:s.heap.objs.size≤C) : (cxK X N scope x0 C fp s H).Ok where
 mod:=I.ok.mod
 kind:=c.kind
 glob:=I.ok.glob
 blt:=I.ok.blt
 above:=hC
 inj:=fun x y d h1 h2=>by
  have h1:=subK h1
  have h2:=subK h2
  have lt : ∀ z,X.env.cells.lookup z=some d→d≠C+1:=fun z e=>by
   obtain ⟨v,o,ho,_⟩:=I.cell z d e
   have : @LT.lt Nat _ d s.heap.objs.size:=Heap.lt_size ho
   exact Nat.ne_of_lt (Nat.lt_of_lt_of_le this (Nat.le_succ_of_le hC))
  rcases h1 with ⟨e1,e2⟩ | z
  ·rcases h2 with ⟨e3,e4⟩ | z'
   ·rw [e1,e3]
   ·exact absurd e2 (lt y z')
  ·rcases h2 with ⟨e3,e4⟩ | z'
   ·exact absurd e4 (lt x z)
   ·exact I.ok.inj x y d z z'
 has:=fun x h=>by
  have hm:x=x0∨(x,NameKind.free)∈scope.names:=by
   rcases h with h | h
   ·exact of_relabelK h c.own.only (.inl rfl)
   ·exact of_relabelK h c.own.only (.inr rfl)
  rcases hm with rfl | hm
  ·exact ⟨C+1,by show List.lookup x ((x,C+1) :: _)=_; simp [List.lookup_cons]⟩
  ·obtain ⟨d,hd⟩:=I.ok.has x (c.fr _ hm rfl)
   exact ⟨d,hasK (fun z=>c.nof (z ▸ hm)) (closL_has hd (.inl hm))⟩
 cab:=fun x d h e=>by
  have h:x=x0:=by simpa [cxK] using h
  rcases subK e with ⟨_,e2⟩ | z
  ·rw [e2]; exact Nat.le_succ_of_le hC
  ·subst h
   have e:List.lookup x ((x,C+1) :: closL X.env.cells scope.names [])=some d:=e
   rw [List.lookup_cons,show (x == x)=true by simp] at e
   have e:C+1=d:=by simpa using e
   rw [← e]; exact Nat.le_succ_of_le hC
 hd:=I.ok.hd
 frames:=I.ok.frames
 stk:=.inl rfl
 exf:=fun b hb=>by
  refine ⟨fun z=>?_,fun x d e z=>?_⟩
  ·have z:b=C:=z
   have:=hlt b hb
   rw [z] at this
   exact absurd (Nat.lt_of_lt_of_le this hC) (Nat.lt_irrefl _)
  ·rcases subK e with ⟨_,q⟩ | q
   ·have:=hlt b hb
    rw [← z,q] at this
    exact absurd (Nat.lt_of_lt_of_le this (Nat.le_succ_of_le hC)) (Nat.lt_irrefl _)
   ·exact (hf b hb).2.2.2.2.1 x d q z
 bs:=fun b o e=>I.bs b o e
 bsz:=Nat.le_trans I.ok.bsz I.sz
 noex:=fun b o e hb=>by
  rcases (hf b hb).2.2.2.1 with z | z
  ·exact I.ok.noex b o e z
  ·exact absurd (Nat.lt_of_lt_of_le (Heap.lt_size (I.ok.bs b o e).1) z) (Nat.lt_irrefl _)
 exfs:=fun b hb z=>by
  rcases List.mem_cons.mp (I.stkSub b z) with e | e
  ·exact (hf b hb).2.1 e
  ·exact (hf b hb).2.2.1 e
 funs:=I.stack
 frf:=I.stkFree
theorem CompOkK.enter (c:CompOkK X scope N ix x0) (I:Inv X pins σ H s) (hf : ∀ b∈fp,FpOk X pins H b) (ho : ∀ b∈fp,∃ o,s.heap.get? b=some o∧∀ v,o.data≠.cell v) {C D:Nat} {h':Heap} {t':Nat} {m:Str→Option Value} {oD:Obj} (hC:C=s.heap.objs.size+1) (hD:D=s.heap.objs.size)
  (k : ∀ b o,s.heap.get? b=some o→h'.get? b=some o) (hn:h'.Ns C m) (hcl:h'.IsCell (C+1) none) (hoD:h'.get? D=some oD) (hdD : ∀ v,oD.data≠.cell v) :
  Inv (cxK X N scope x0 C fp s H) (pins++[(D,oD)]) (startC ix σ) H { s with heap:=h',toks:=t' }:=by
 have hlt : ∀ b∈fp,b<s.heap.objs.size:=fun b hb=>let ⟨o,e,_⟩:=ho b hb; Heap.lt_size e
 refine ⟨c.ok I hf hlt (by omega),rfl,I.bare,Un.kept k,⟨m,hn,fun j x v e1 e2 e3=>?_⟩,fun x d e=>?_,I.hok.fresh (by show s.heap.objs.size≤C; omega),fun x d e=>?_,fun p hp=>?_,I.hok.kept k,?_⟩
 ·have e2:(ix.map fun o=>o.bind fun i=>(σ[i]?).join)[j]?=some (some v):=e2
  rw [List.getElem?_map] at e2
  cases hj:ix[j]? with
  | none=>rw [hj] at e2; cases e2
  | some o =>
   rw [hj] at e2
   cases o with
   | none=>cases e2
   | some i =>
    have e2:some ((σ[i]?).join)=some (some v):=e2
    obtain ⟨x',a1,a2,a3,a4⟩:=c.cap j i hj
    have e1:N[j]?=some x:=e1
    rw [e1] at a1
    cases a1
    have hs : σ[i]?=some (some v):=by
     have z:=Option.some.inj e2
     cases q : σ[i]? with
     | none=>rw [q] at z; cases z
     | some w=>rw [q] at z; have z:w=some v:=z; rw [z]
    have kx:=c.fr _ a4 rfl
    obtain ⟨m0,hn0,hl0⟩:=I.loc
    obtain ⟨u,r,l⟩:=hl0 i x v a2 hs (kx.elim (fun z=>.inr (.inl z)) fun z=>.inr (.inr z))
    refine ⟨u,r,.inr ⟨?_,?_⟩⟩
    ·exact lookup_relabel_free (env:=X.env) a3
    ·rcases l with ⟨z,_⟩ | ⟨_,d,hd,hcell⟩
     ·rcases kx with q | q <;> rw [q] at z <;> cases z
     ·refine ⟨d,hasK (fun z=>c.nof (z ▸ a4)) (closL_has hd (.inl a4)),?_⟩
      obtain ⟨o,ho,hdt⟩:=hcell
      exact ⟨o,k d o ho,hdt⟩
 ·rcases subK e with ⟨_,rfl⟩ | e
  ·exact ⟨none,hcl⟩
  ·obtain ⟨v,o,ho,hdt⟩:=I.cell x d e
   exact ⟨v,o,k d o ho,hdt⟩
 ·rcases subK e with ⟨_,rfl⟩ | e
  ·exact I.hok.fresh (by show s.heap.objs.size≤C+1; omega)
  ·exact I.freeC x d e
 ·have nstk : ∀ b,b≠X.env.locals→b∉X.fs→b∉frs X.stack:=fun b h1 h2 z=>by
   rcases List.mem_cons.mp (I.stkSub b z) with e | e
   ·exact h1 e
   ·exact h2 e
  have old : ∀ p∈X.pn++pins,h'.get? p.1=some p.2∧H p.1=none∧p.1≠C∧p.1∉frs X.stack∧∀ v,p.2.data≠.cell v:=fun p hp=>by
   obtain ⟨a1,a2,a3,a4,a5⟩:=I.pin p hp
   have : @LT.lt Nat _ p.1 s.heap.objs.size:=Heap.lt_size a1
   exact ⟨k _ _ a1,a2,Nat.ne_of_lt (by rw [hC]; exact Nat.lt_succ_of_lt this),nstk _ a3 a4,a5⟩
  have hp:p∈X.pn++(pins++[(D,oD)]):=hp
  rcases List.mem_append.mp hp with z | z
  ·exact old p (List.mem_append_left _ z)
  ·rcases List.mem_append.mp z with z | z
   ·exact old p (List.mem_append_right _ z)
   ·have e:p=(D,oD):=by simpa using z
    subst e
    have lt : @LT.lt Nat _ X.env.locals s.heap.objs.size:=I.lt
    refine ⟨hoD,I.hok.fresh (by show s.heap.objs.size≤D; omega),(by show (D:Nat)≠C; omega),nstk D (Nat.ne_of_gt (by rw [hD]; exact lt)) (I.nofs (by omega)),hdD⟩
 ·show (ix.map _).length=N.length
  rw [List.length_map,c.len]
theorem CompOkK.leave (c:CompOkK X scope N ix x0) (I:Inv X pins σ H s) (hf : ∀ b∈fp,FpOk X pins H b) {C D:Nat} {σ':St} {H':Hp} {s':Shared} {ys:List V} {its:List Value} {n:Nat} {pl:List (Addr × Obj)} (hC:C=s.heap.objs.size+1) (hD:D=s.heap.objs.size)
  (I':Inv (cxK X N scope x0 C fp s H) (pl++[(D,{ cls:=.type "list", data:=.seq its.toArray n })]) σ' H' s') (rv:Vals ys its) (hz:ys.length≤sizeLine) :
  Inv X pins σ (upd H' D (.lst ys)) s':=by
 have pD:=I'.pin (D,_) (List.mem_append_right _ (List.mem_append_right _ List.mem_cons_self))
 have hDn:H' D=none:=pD.2.1
 have u:Un (frs X.stack) fp H H' s.heap s'.heap:=I'.base
 have hlt : ∀ b o,s.heap.get? b=some o→b≠D:=fun b o e=>Nat.ne_of_lt (by have : @LT.lt Nat _ b s.heap.objs.size:=Heap.lt_size e; rw [hD]; exact this)
 refine I.call' (ch:=fp) I'.os ?_ ?_ I'.bare fun b hb=>?_
 ·refine ⟨u.keep,u.slot,fun b o e n hx=>by rw [upd_ne (hlt b o e)]; exact u.free b o e n hx,u.there,fun b xs e=>?_,fun b o w e=>?_,fun b ps e=>?_⟩
  ·have e':=u.tups b xs e
   rw [upd_ne (ne_of_none e' hDn)]; exact e'
  ·have e':=u.frzs b o w e
   rw [upd_ne (ne_of_none e' hDn)]; exact e'
  ·obtain ⟨more,e'⟩:=u.tbls b ps e
   exact ⟨more,by rw [upd_ne (ne_of_none e' hDn)]; exact e'⟩
 ·intro b o e
  by_cases hb:b=D
  ·subst hb
   rw [upd_same] at e
   cases e
   exact ⟨hz,its,n,rv,pD.1⟩
  ·rw [upd_ne hb] at e
   refine (I'.hok b o e).stay (fun _ _ _ q=>q) (fun a q=>?_) fun a xs q=>?_
   ·rw [upd_ne (ne_of_none q hDn)]; exact q
   ·rw [upd_ne (ne_of_none q hDn)]; exact q
 ·obtain ⟨f0,f1,f2,f3,f4,f5⟩:=hf b hb
  exact ⟨f3,f1,f4,f5⟩
end
section
variable {X:Cx} {scope:Scope} {N:List Str} {ix:List (Option Nat)} {x0:Str} {elt tg iter:Expr} {ifs:List Expr} {g:TG} {tc:TT} {te:TE} {pos:Pos}
theorem comp_blockK {pins:List (Addr × Obj)} {σ : St} {s2:Shared} {Q:VK} {itv:Value} {RR:Value→Addr→Result→Shared→Prop} {E:Value→Shared→Prop} (c:CompOkK X scope N ix x0) (hc:X.calm=true)
  (hg : ∀ C fp s H,PG (cxK X N scope x0 C fp s H) tg g) (ht : ∀ C fp s H,PIf (cxK X N scope x0 C fp s H) ifs tc) (he : ∀ C fp s H,PE (cxK X N scope x0 C fp s H) elt te)
  (h2:PIE X pins σ tg (rComp ix g tc te σ Q) itv s2)
  (hR : ∀ (D C:Addr) (s':Shared) (H':Hp) (m:Str→Option Value),Inv X pins σ H' s'→s'.heap.Ns C m→H' C=none→X.s₀.heap.objs.size≤C→(∀ p∈X.pn++pins,p.1≠C)→C≠X.env.locals→(∀ x c,X.env.cells.lookup x=some c→c≠C)→Q (.ref D) H'→RR (.ref D) C (.ok .next) s') :
  wpAny (model X.prog X.w) X.A (newList []) (fun acc s₃=>wpAny (model X.prog X.w) X.A (newFunctionEnv scope X.env.globals (closL X.env.cells scope.names []) [] X.env.qual none .none (some X.env)) (fun cenv s₄ =>
   codeAny (model X.prog X.w) X.A (.compStart (.ListComp elt [⟨tg,iter,ifs,0⟩] scope pos) 0 itv acc { cenv with scope:=relabel scope X.env }) (RR acc cenv.locals) s₄) E s₃) E s2:=by
 obtain ⟨it,fp,tn,J,H2,rfl,I2,T,st2,f2,W,⟨m0,w0⟩,turn⟩:=h2
 refine wpAny_newObj_type (newEnvK c.own ?_)
 dsimp only
 generalize hH2:s2.heap.push { cls:=.type "list", dict:=none,data:=.seq ([] : List Value).toArray }=G2
 have hCs:G2.objs.size=s2.heap.objs.size+1:=by rw [← hH2,Heap.size_push]
 have hns₁ : ((G2.push { cls:=.type "dict", data:=.dict #[] }).push { cls:=.type "cell", data:=.cell none }).Ns G2.objs.size (fun _=>none):=(Heap.Ns.new G2 _).push _
 have oldG : ∀ b o,G2.get? b=some o→((G2.push { cls:=.type "dict", data:=.dict #[] }).push { cls:=.type "cell", data:=.cell none }).get? b=some o:=fun b o e=>Heap.get?_push_of_some _ (Heap.get?_push_of_some _ e)
 have hcl:((G2.push { cls:=.type "dict", data:=.dict #[] }).push { cls:=.type "cell", data:=.cell none }).IsCell (G2.objs.size+1) none:=⟨_,by rw [← Heap.size_push G2 { cls:=.type "dict", data:=.dict #[] }]; exact Heap.get?_push_size _ rfl,rfl⟩
 generalize (G2.push { cls:=.type "dict", data:=.dict #[] }).push { cls:=.type "cell", data:=.cell none }=h₁ at hns₁ oldG hcl ⊢
 generalize hCe:G2.objs.size=C at hns₁ hcl hCs ⊢
 generalize hDe:s2.heap.objs.size=D at hCs ⊢
 have ltC : ∀ b,@LT.lt Nat _ b D→b≠C:=fun b hb=>Nat.ne_of_lt (by rw [hCs]; exact Nat.lt_succ_of_lt hb)
 have ltS : ∀ b o,s2.heap.get? b=some o→@LT.lt Nat _ b D:=fun b o e=>by rw [← hDe]; exact Heap.lt_size e
 have hDC:D≠C:=Nat.ne_of_lt (by rw [hCs]; exact Nat.lt_succ_self _)
 have old : ∀ b o,s2.heap.get? b=some o→h₁.get? b=some o:=fun b o e=>oldG b o (hH2 ▸ Heap.get?_push_of_some _ e)
 have hoD:h₁.get? D=some { cls:=.type "list", dict:=none,data:=.seq ([] : List Value).toArray }:=by
  refine oldG _ _ ?_
  rw [← hH2,← hDe]
  exact Heap.get?_push_size _ rfl
 have I4:Inv (cxK X N scope x0 C fp s2 H2) (pins++[(D,{ cls:=.type "list", data:=.seq ([] : List Value).toArray })]) (startC ix σ) H2 { s2 with heap:=h₁ } :=
  c.enter (t':=s2.toks) I2 f2 (T.obj _ _ st2) (by rw [hCs,hDe]) hDe.symm old hns₁ hcl hoD fun v z=>by cases z
 have st4:tn 0 h₁:=T.keep _ _ _ st2 fun b _ o e=>old b o e
 have pinD : ∀ p∈X.pn++pins,p.1≠D:=fun p hp=>Nat.ne_of_lt (ltS _ _ (I2.pin p hp).1)
 have pinC : ∀ p∈X.pn++pins,p.1≠C:=fun p hp=>ltC _ (ltS _ _ (I2.pin p hp).1)
 have celD : ∀ x d,X.env.cells.lookup x=some d→@LT.lt Nat _ d D:=fun x d e=>by
  obtain ⟨v,o,ho,_⟩:=I2.cell x d e
  exact ltS d o ho
 have fpD : ∀ b∈fp,@LT.lt Nat _ b D:=fun b hb=>by
  obtain ⟨o,e,_⟩:=T.obj _ _ st2 b hb
  exact ltS b o e
 have stat : ∀ {H':Hp} {oD:Obj},(∀ b∈fp,H' b=none)→∀ b∈fp,FpOk (cxK X N scope x0 C fp s2 H2) (pins++[(D,oD)]) H' b:=fun {H' oD} hn b hb=>by
  obtain ⟨f0,f1,f2,f3,f4,f5⟩:=f2 b hb
  refine ⟨hn b hb,ltC b (fpD b hb),fun z=>?_,.inl hb,fun x d e=>?cc,fun p hp=>?_⟩
  case cc =>
   rcases subK e with ⟨_,q⟩ | e
   ·rw [q]
    have:=fpD b hb
    exact Nat.ne_of_gt (by rw [hCs]; exact Nat.lt_succ_of_lt (Nat.lt_succ_of_lt this))
   ·exact f4 x d e
  ·rcases List.mem_cons.mp (I2.stkSub b z) with e | e
   ·exact f1 e
   ·exact f2 e
  ·have hp:p∈X.pn++(pins++[(D,oD)]):=hp
   rw [← List.append_assoc] at hp
   rcases List.mem_append.mp hp with z | z
   ·exact f5 p z
   ·have e:p=(D,oD):=by simpa using z
    subst e
    exact Nat.ne_of_gt (fpD b hb)
 have loop : ∀ s3:Shared,s3={ s2 with heap:=h₁ } →
   codeAny (model X.prog X.w) X.A (.compLoop (.ListComp elt [⟨tg,iter,ifs,0⟩] scope pos) 0 (.ref it) (.ref D) (cxK X N scope x0 C fp s2 H2).env) (RR (.ref D) C) s3:=by
  rintro s3 rfl
  refine compLoop_any (fun n s'=>∃ i σ' H' ys its k,Inv (cxK X N scope x0 C fp s2 H2) (pins++[(D,{ cls:=.type "list", data:=.seq (List.toArray its) k })]) σ' H' s'∧tn i s'.heap∧(∀ b∈fp,H' b=none)∧Vals ys its∧W i n ys σ' H') ?_ m0
   ⟨0,_,H2,[],[],_,I4,st4,fun b hb=>(f2 b hb).1,.nil,w0⟩
  rintro n s3 ⟨i,σ3,H3,ys,its,k,I3,st3,fr3,rv,w3⟩
  rcases turn i n ys σ3 H3 w3 with ⟨stop,hz,qn⟩ | ⟨go,hz,step⟩
  ·refine thn (T.done (cxK X N scope x0 C fp s2 H2) rfl rfl rfl hc i _ s3 σ3 H3 _ I3 (stat fr3) st3 stop) fun r s4 ⟨hr,I4⟩=>?_
   subst hr
   have hDn:H3 D=none:=(I3.pin (D,_) (List.mem_append_right _ (List.mem_append_right _ List.mem_cons_self))).2.1
   obtain ⟨m4,hn4,_⟩:=id I4.loc
   refine hR D C s4 _ m4 (c.leave I2 f2 (by rw [hCs,hDe]) hDe.symm I4 rv hz) hn4 ?_ ?_ pinC ?_ (fun x d e=>ltC d (celD x d e)) (qn D hDn)
   ·rw [upd_ne hDC.symm]; exact I4.free
   ·refine Nat.le_trans I2.sz ?_
    rw [hDe,hCs]; exact Nat.le_succ _
   ·refine Nat.ne_of_gt (Nat.lt_of_lt_of_le I2.lt ?_)
    rw [hDe,hCs]; exact Nat.le_succ _
  ·refine thn (T.item (cxK X N scope x0 C fp s2 H2) rfl rfl rfl hc i _ s3 σ3 H3 _ I3 (stat fr3) st3 go) fun r s4 ⟨u,hr,h4⟩=>?_
   subst hr
   refine thn h4 fun _ s5 ⟨x,H5,I5,r5,y5,st5,fr5⟩=>?_
   have I5':=I5.pinned (stat fr5) (T.obj _ _ st5)
   refine thn (hg C fp s2 H2 _ s5 σ3 H5 x u _ I5' r5 (step x H5 y5)) fun _ s6 ⟨σ6,H6,I6,q6⟩=>?_
   refine thn (ht C fp s2 H2 _ s6 σ6 H6 _ I6 q6) fun ok s7 ⟨H7,I7,q7⟩=>?_
   have keep : ∀ {s':Shared} {σ':St} {H':Hp},Inv (cxK X N scope x0 C fp s2 H2) ((pins++[(D,{ cls:=.type "list", data:=.seq its.toArray k })])++pinsAt fp s5.heap) σ' H' s'→tn (i+1) s'.heap∧∀ b∈fp,H' b=none:=fun {s' σ' H'} I'=>by
    refine ⟨T.keep _ _ _ st5 fun b hb o e=>(I'.pin (b,o) (List.mem_append_right _ (List.mem_append_right _ (mem_pinsAt hb e)))).1,fun b hb=>?_⟩
    obtain ⟨o,e,d⟩:=T.obj _ _ st5 b hb
    exact (I'.pin (b,o) (List.mem_append_right _ (List.mem_append_right _ (mem_pinsAt hb e)))).2.1
   cases ok with
   | false =>
    rw [if_neg Bool.false_ne_true]
    rw [if_neg Bool.false_ne_true] at q7
    obtain ⟨m',hm,w7⟩:=q7
    obtain ⟨k1,k2⟩:=keep I7
    exact ⟨m',hm,i+1,σ6,H7,ys,its,k,I7.unpinned,k1,k2,rv,w7⟩
   | true =>
    rw [if_pos rfl]
    rw [if_pos rfl] at q7
    refine thn (he C fp s2 H2 _ s7 σ6 H7 _ I7 q7) fun y s8 ⟨v,H8,I8,r8,m',hm,w8⟩=>?_
    obtain ⟨k1,k2⟩:=keep I8
    have pD:=I8.pin (D,_) (List.mem_append_right _ (List.mem_append_left _ (List.mem_append_right _ List.mem_cons_self)))
    have I8u:=I8.unpinned
    have I8v:Inv (cxK X N scope x0 C fp s2 H2) pins σ6 H8 s8:=I8u.unpinned
    have len:=rv.length
    refine wpAny_list_append_plain (items:=its.toArray) (hsz:=by simp; omega) ⟨k,pD.1⟩ fun h9 hl9 hs9=>?_
    obtain ⟨k9,e9⟩:=hl9
    have I9:Inv (cxK X N scope x0 C fp s2 H2) pins σ6 H8 { s8 with heap:=h9 }:=by
     refine I8v.turned (t':=s8.toks) (it:=D) (fun b o hb e=>hs9.extBut b o hb e) pD.2.1 hDC (.inr ?_) (fun x d e=>by
      rcases subK e with ⟨_,q⟩ | e
      ·rw [q,hCs]; exact Nat.ne_of_gt (Nat.lt_succ_of_lt (Nat.lt_succ_self _))
      ·exact Nat.ne_of_lt (celD x d e)) fun p hp=>?_
     ·show s2.heap.objs.size≤D
      rw [hDe]; exact Nat.le_refl _
     ·exact pinD p hp
    have e9':h9.get? D=some { cls:=.type "list", data:=.seq (its++[y]).toArray k9 }:=by
     rw [e9]; simp
    refine ⟨m',hm,i+1,σ6,H8,ys++[v],its++[y],k9,I9.pins_of fun p hp=>?_,T.keep _ _ _ k1 fun b hb o e=>hs9.extBut b o (Nat.ne_of_lt (fpD b hb)) e,k2,rv.append (.cons r8 .nil),w8⟩
    rcases List.mem_append.mp hp with z | z
    ·exact I9.pin p (List.mem_append_right _ z)
    ·have e:p=(D,{ cls:=.type "list", data:=.seq (its++[y]).toArray k9 }):=by simpa using z
     subst e
     exact ⟨e9',pD.2.1,pD.2.2.1,pD.2.2.2.1,fun v z=>by cases z⟩
 exact codeAny_compStart_list (loop _ rfl) (T.self _ 0 _ _ _ st4 (loop _ rfl))
variable {wi:TI}
theorem pe_compK (c:CompOkK X scope N ix x0) (hc:X.calm=true) (hi:PI X tg iter wi) (hg : ∀ C fp s H,PG (cxK X N scope x0 C fp s H) tg g) (ht : ∀ C fp s H,PIf (cxK X N scope x0 C fp s H) ifs tc) (he : ∀ C fp s H,PE (cxK X N scope x0 C fp s H) elt te)
  (hs : ∀ x,foldedSetIterable iter X.env x=pure x:=by intro _; rfl) : PE X (.ListComp elt [⟨tg,iter,ifs,0⟩] scope pos) (tComp ix wi g tc te):=by
 intro pins s σ H Q I h
 rw [eval_ListComp]
 have hcl : ∀ y∈scope.names,y.2=NameKind.free→∃ d,X.env.cells.lookup y.1=some d:=fun y hy e=>I.ok.has _ (c.fr y hy e)
 refine wpAny_comprehension_free (use:=none) rfl hs (closureFor_eq hcl) c.kind c.names (thn (hi pins s σ H _ I h) fun v s1 h1=>thn h1 fun itv s2 h2=>?_)
 refine comp_blockK (RR:=fun acc C=>compPost (model X.prog X.w) X.A X.xe none (EP X pins σ Q) acc C) c hc hg ht he h2 ?_
 intro D C s' H' m I' hn hC hz hp hL hcells q
 exact ⟨m,hn,fun h' hs'=>⟨.ref D,H',I'.turned (t':=s'.toks) (fun b o hb e=>hs'.extBut b o hb e) hC hL (.inr hz) hcells hp,rfl,q⟩⟩
end
def compBK (XS:List (Str × NameKind)) (XN:List Str) (names:List (Str × NameKind)) (N:List Str) (ix:List (Option Nat)) : Bool :=
 names.all (fun y=>match y.2 with
  | .cell=>true
  | .local=>(match names.lookup y.1 with | some .local=>true | _=>false)
  | .free=>(match XS.lookup y.1 with | some .cell=>true | some .free=>true | _=>false)
  | _=>true) && decide (ix.length=N.length) && capB XN N ix names
theorem comp_okK {X:Cx} {scope:Scope} {N:List Str} {ix:List (Option Nat)} {x0:Str} (hk:scope.kind=.function) (ho:One x0 scope.names) (hf:(x0,NameKind.free)∉scope.names) (h:compBK X.env.scope.names X.N scope.names N ix=true) : CompOkK X scope N ix x0:=by
 unfold compBK at h
 obtain ⟨h,h3⟩:=Bool.and_eq_true_iff.mp h
 obtain ⟨h1,h2⟩:=Bool.and_eq_true_iff.mp h
 have all : ∀ y∈scope.names,_:=fun y hy=>List.all_eq_true.mp h1 y hy
 refine ⟨hk,ho,hf,of_decide_eq_true h2,fun y hy e=>?_,fun y hy e=>?_,cap_ok h3⟩
 ·have q:=all y hy
  rw [e] at q
  dsimp only at q
  cases hl:scope.names.lookup y.1 with
  | none=>rw [hl] at q; cases q
  | some k=>rw [hl] at q; cases k <;> first | rfl | cases q
 ·have q:=all y hy
  rw [e] at q
  dsimp only at q
  show X.env.scope.names.lookup y.1=_∨X.env.scope.names.lookup y.1=_
  cases hl:X.env.scope.names.lookup y.1 with
  | none=>rw [hl] at q; cases q
  | some k=>rw [hl] at q; cases k <;> first | exact .inl rfl | exact .inr rfl | cases q
end L2
namespace Sw
open PySem L2
def manyM (Ls:List (List Int)) : Int:=(Ls.map fun L=>(L.length:Int)).sum
def insB (p q:List Int) : Bool:=p.all fun x=>decide (x∈q)
def withB (Ls Ms:List (List Int)) : Bool:=Ls.all fun p=>Ms.any fun q=>insB p q
def spMany:Sp:=fun vs H Q _=>∃ (l:Addr) (ws:List V) (Ls:List (List Int)),vs=[.ref l]∧H l=some (.lst ws)∧Lsts H ws Ls∧Ls.length≤1000∧∀ H',Same H H'→Q (.int (manyM Ls)) H'
def spInside:Sp:=fun vs H Q _=>∃ (l m:Addr) (p q:List Int),vs=[.ref l,.ref m]∧H l=some (.lst (p.map V.int))∧H m=some (.lst (q.map V.int))∧p.length≤1000∧∀ H',Same H H'→Q (.bl (insB p q)) H'
def spWithin:Sp:=fun vs H Q _=>∃ (l m:Addr) (ws us:List V) (Ls Ms:List (List Int)),vs=[.ref l,.ref m]∧H l=some (.lst ws)∧Lsts H ws Ls∧H m=some (.lst us)∧Lsts H us Ms∧Ls.length≤1000∧Ms.length≤1000∧(∀ L∈Ls,L.length≤1000)∧manyM Ls=manyM Ms∧∀ H',Same H H'→Q (.bl (withB Ls Ms)) H'
structure TSh (mg:Str→Option Value) (K:PySem.W.Frag) : Prop extends T1 mg K where
 b_sum:mg "sum" = none
structure TWi (P:Program) (w:World) (K:PySem.W.Frag) (mg:Str→Option Value) (base:Heap) : Prop extends T1 mg K where
 b_any:mg "any" = none
 f_many_things:FnAt P w K mg base "many_things" 1 ["sharing"] spMany
 f_is_inside:FnAt P w K mg base "is_inside" 1 ["part", "other"] spInside
section
variable {P:Program} {w:World} {K:PySem.W.Frag} {mg:Str→Option Value} {base:Heap}
theorem sc_many_things:FnScope ["sharing"] ["sharing"] (defScope (top 31)):=⟨rfl,rfl,rfl,by decide +kernel,rfl,by decide +kernel,by decide +kernel⟩
theorem ok_many {f:Addr} {fd:FuncData} (F:Fun K "many_things" "many_things" (top 31) f fd) (T:TSh mg K) : FnOk P w K mg base CX0 1 f fd ["sharing"] spMany:=by
 refine F.ok sc_many_things (fun vs H Q E h=>?_) (fun cdv A outer s H vs Q E hr h=>?_)
 ·obtain ⟨l,ws,Ls,rfl,_⟩:=h
  rfl
 ·obtain ⟨l,ws,Ls,rfl,hl,xl,ll,k⟩:=h
  refine ⟨_,(pss_one (ps_ret (pe_callB (call_sum (K:=K) rfl rfl) rfl T.b_sum (by decide +kernel) (pa_cons (pe_comp (N:=(["part"] : List Str)) (ix:=([none] : List (Option Nat))) (comp_ok rfl rfl) rfl (pi_listK (K:=K) rfl (pv 0)) (fun _ _ _ _=>(pg_name (i:=0) (show List.Nodup (["part"] : List Str) from by decide +kernel) rfl (Or.inl rfl))) (fun _ _ _ _=>pif_nil) (fun _ _ _ _=>(pe_callB (call_lenK (K:=K) rfl) rfl T.b_len (by decide +kernel) (pa_cons (pv 0) pa_nil)))) pa_nil)))),?_⟩
  have wl:=xl.length
  refine ⟨_,rfl,l,rfl,⟨_,SqL.of hl⟩,compL (K:=K) (a:=l) (xs:=ws) (k:=0) (fun i ys σ' H'=>ys=((Ls.take i).map fun L=>(L.length:Int)).map V.int∧(∃ v,σ'=[v])∧H'=H) (by omega) ⟨rfl,⟨none,rfl⟩,rfl⟩ (fun i ys σ' H' _ q=>by rw [q.2.2]; exact SqL.of hl) (fun i ys σ' H' q=>by rw [q.1,List.length_map,List.length_map,List.length_take]; omega) ?_ ?_⟩
  ·rintro i ys σ' H' z R hz ⟨rfl,⟨v,rfl⟩,rfl⟩ done
   obtain ⟨b,ns,rfl,hb,hns⟩:=xl.get hz
   refine ⟨_,rfl,b,_,rfl,.inl (SqL.of hb),done _ _ _ ⟨?_,⟨_,rfl⟩,rfl⟩⟩
   rw [take_succ_map (fun L:List Int=>(L.length:Int)) hns,List.map_append,List.length_map]
   rfl
  ·rintro ys σ' H' q ⟨rfl,_,rfl⟩ fq
   rw [List.take_of_length_le (by omega)]
   exact ⟨q,_,rfl,SqL.of upd_same,k _ (Same.new fq)⟩
theorem sc_is_inside:FnScope ["part", "other"] ["part", "other"] (defScope (top 33)):=⟨rfl,rfl,rfl,by decide +kernel,rfl,by decide +kernel,by decide +kernel⟩
theorem ok_inside {f:Addr} {fd:FuncData} (F:Fun K "is_inside" "is_inside" (top 33) f fd) (T:T1 mg K) : FnOk P w K mg base CX0 1 f fd ["part", "other"] spInside:=by
 refine F.ok sc_is_inside (fun vs H Q E h=>?_) (fun cdv A outer s H vs Q E hr h=>?_)
 ·obtain ⟨l,m,p,q,rfl,_⟩:=h
  rfl
 ·obtain ⟨l,m,p,q,rfl,hl,hm,pl,k⟩:=h
  refine ⟨_,(pss_one (ps_ret (pe_callB (call_allK (K:=K) rfl rfl) rfl T.b_all (by decide +kernel) (pa_cons (pe_comp (N:=(["thing", "other"] : List Str)) (ix:=([none,some 1] : List (Option Nat))) (comp_ok rfl rfl) rfl (pi_listK (K:=K) rfl (pv 0)) (fun _ _ _ _=>(pg_name (i:=0) (show List.Nodup (["thing", "other"] : List Str) from by decide +kernel) rfl (Or.inl rfl))) (fun _ _ _ _=>pif_nil) (fun _ _ _ _=>(pe_cmpR (op_inK (K:=K) rfl) (pv 0) (pv 1) rfl))) pa_nil)))),?_⟩
  refine ⟨_,rfl,l,rfl,⟨_,SqL.of hl⟩,compL (K:=K) (a:=l) (xs:=p.map V.int) (k:=0) (fun i ys σ' H'=>ys=((p.take i).map fun x=>decide (x∈q)).map V.bl∧(∃ v,σ'=[v,some (.ref m)])∧H'=H) (by rw [List.length_map]; omega) ⟨rfl,⟨none,rfl⟩,rfl⟩ (fun i ys σ' H' _ q=>by rw [q.2.2]; exact SqL.of hl) (fun i ys σ' H' q=>by rw [q.1,List.length_map,List.length_map,List.length_take]; omega) ?_ ?_⟩
  ·rintro i ys σ' H' z R hz ⟨rfl,⟨v,rfl⟩,rfl⟩ done
   obtain ⟨x,rfl,hx⟩:=mem_int hz
   refine ⟨_,rfl,_,rfl,m,_,rfl,.inl (SqL.of hm),rfl,flat_ints _,done _ _ _ ⟨?_,⟨_,rfl⟩,rfl⟩⟩
   rw [take_succ_map (fun x=>decide (x∈q)) hx,List.map_append]
   show _++[V.bl (inV (V.int x) (q.map V.int))]=_
   rw [inV_int]
   rfl
  ·rintro ys σ' H' r ⟨rfl,_,rfl⟩ fr
   rw [List.length_map,List.take_length]
   refine ⟨r,p.map fun x=>decide (x∈q),rfl,SqL.of upd_same,?_⟩
   have:(p.map fun x=>decide (x∈q)).all id=insB p q:=by rw [List.all_map]; rfl
   rw [this]
   exact k _ (Same.new fr)
theorem sc_within:FnScope ["one", "other"] ["one", "other"] (defScope (top 34)):=⟨rfl,rfl,rfl,by decide +kernel,rfl,by decide +kernel,by decide +kernel⟩
theorem ok_within {f:Addr} {fd:FuncData} (F:Fun K "within" "within" (top 34) f fd) (T:TWi P w K mg base) : FnOk P w K mg base CX0 2 f fd ["one", "other"] spWithin:=by
 refine F.ok sc_within (fun vs H Q E h=>?_) (fun cdv A outer s H vs Q E hr h=>?_)
 ·obtain ⟨l,m,ws,us,Ls,Ms,rfl,_⟩:=h
  rfl
 ·obtain ⟨l,m,ws,us,Ls,Ms,rfl,hl,xl,hm,xm,ll,lm,lb,e,k⟩:=h
  refine ⟨_,(pss_cons (ps_if (pt_cmpR op_ne (pe_callF T.f_many_things (hr.mono (by first | decide | omega)) rfl (pa_cons (pv 0) pa_nil)) (pe_callF T.f_many_things (hr.mono (by first | decide | omega)) rfl (pa_cons (pv 1) pa_nil)) (nomark _)) (pss_one ps_never) pss_nil)
   (pss_one (ps_ret (pe_callB (call_allK (K:=K) rfl rfl) rfl T.b_all (by decide +kernel) (pa_cons (pe_compK (N:=(["part", "other"] : List Str)) (ix:=([none,some 1] : List (Option Nat))) (x0 := "part") (comp_okK rfl (by repeat (first | exact One.here (by decide +kernel) | refine One.skip (by decide) ?_)) (by decide +kernel) rfl) rfl (pi_listK (K:=K) rfl (pv 0)) (fun _ _ _ _=>(pg_name (i:=0) (show List.Nodup (["part", "other"] : List Str) from by decide +kernel) rfl (Or.inr rfl))) (fun _ _ _ _=>pif_nil) (fun _ _ _ _=>(pe_callB (call_any (K:=K) rfl rfl) rfl T.b_any (by decide +kernel) (pa_cons (pe_comp (N:=(["greater", "part"] : List Str)) (ix:=([none,some 0] : List (Option Nat))) (comp_ok rfl rfl) rfl (pi_listK (K:=K) rfl (pv 1)) (fun _ _ _ _=>(pg_name (i:=0) (show List.Nodup (["greater", "part"] : List Str) from by decide +kernel) rfl (Or.inl rfl))) (fun _ _ _ _=>pif_nil) (fun _ _ _ _=>(pe_callF T.f_is_inside (hr.mono (by first | decide | omega)) rfl (pa_cons (pv 1) (pa_cons (pv 0) pa_nil))))) pa_nil)))) pa_nil))))),?_⟩
  have wl:=xl.length
  have ul:=xm.length
  refine ⟨_,rfl,l,ws,Ls,rfl,hl,xl,ll,fun H1 s1=>?_⟩
  refine ⟨_,rfl,m,us,Ms,rfl,s1 _ _ hm,xm.keep s1,lm,fun H2 s2=>?_⟩
  have a2:=s1.trans s2
  refine ⟨rfl,_,rfl,iteE (by rw [e,decide_eq_true rfl]; rfl) ?_⟩
  have hl2:=a2 _ _ hl
  have hm2:=a2 _ _ hm
  have xl2:=xl.keep a2
  have xm2:=xm.keep a2
  refine ⟨_,rfl,l,rfl,⟨_,SqL.of hl2⟩,compL (K:=K) (a:=l) (xs:=ws) (k:=0) (fun i ys σ' H'=>ys=((Ls.take i).map fun p=>Ms.any fun q=>insB p q).map V.bl∧(∃ v,σ'=[v,some (.ref m)])∧Same H2 H') (by omega) ⟨rfl,⟨none,rfl⟩,Same.refl _⟩ (fun i ys σ' H' _ q=>SqL.of (q.2.2 _ _ hl2)) (fun i ys σ' H' q=>by rw [q.1,List.length_map,List.length_map,List.length_take]; omega) ?_ ?_⟩
  ·rintro i ys σ' H3 z R hz ⟨rfl,⟨v,rfl⟩,s3⟩ done
   obtain ⟨b,p,rfl,hb,hp⟩:=xl2.get hz
   have hm3:=s3 _ _ hm2
   have xm3:=xm2.keep s3
   have pb:=lb p (List.mem_of_getElem? hp)
   refine ⟨_,rfl,m,rfl,⟨_,SqL.of hm3⟩,compL (K:=K) (a:=m) (xs:=us) (k:=0) (fun j ys σ' H'=>ys=((Ms.take j).map fun q=>insB p q).map V.bl∧(∃ v,σ'=[v,some (.ref b)])∧Same H3 H') (by omega) ⟨rfl,⟨none,rfl⟩,Same.refl _⟩ (fun j ys σ' H' _ q=>SqL.of (q.2.2 _ _ hm3)) (fun j ys σ' H' q=>by rw [q.1,List.length_map,List.length_map,List.length_take]; omega) ?_ ?_⟩
   ·rintro j ys σ' H4 z' R' hz' ⟨rfl,⟨v,rfl⟩,s4⟩ done'
    obtain ⟨c,q,rfl,hc,hq⟩:=xm3.get hz'
    refine ⟨_,rfl,_,rfl,b,c,p,q,rfl,s4 _ _ (s3 _ _ hb),s4 _ _ hc,pb,fun H5 s5=>done' _ _ _ ⟨?_,⟨_,rfl⟩,s4.trans s5⟩⟩
    rw [take_succ_map (fun q=>insB p q) hq,List.map_append]
    rfl
   ·rintro ys σ' H4 r ⟨rfl,_,s4⟩ fr
    rw [List.take_of_length_le (by omega)]
    refine ⟨r,Ms.map fun q=>insB p q,rfl,SqL.of upd_same,done _ _ _ ⟨?_,⟨_,rfl⟩,s3.trans (s4.trans (Same.new fr))⟩⟩
    rw [take_succ_map (fun p=>Ms.any fun q=>insB p q) hp,List.map_append]
    have:(Ms.map fun q=>insB p q).any id=Ms.any fun q=>insB p q:=by rw [List.any_map]; rfl
    rw [this]
    rfl
  ·rintro ys σ' H3 r ⟨rfl,_,s3⟩ fr
   rw [List.take_of_length_le (by omega)]
   refine ⟨r,Ls.map fun p=>Ms.any fun q=>insB p q,rfl,SqL.of upd_same,?_⟩
   have:(Ls.map fun p=>Ms.any fun q=>insB p q).all id=withB Ls Ms:=by rw [List.all_map]; rfl
   rw [this]
   exact k _ (a2.trans (s3.trans (Same.new fr)))
end
end Sw
namespace Sw
open PySem L2
structure TB (P:Program) (w:World) (K:PySem.W.Frag) (mg:Str→Option Value) (base:Heap) : Prop extends T1 mg K where
 f_is_whole:FnAt P w K mg base "is_whole" 1 ["thing"] spIw
section
variable {P:Program} {w:World} {K:PySem.W.Frag} {mg:Str→Option Value} {base:Heap}
theorem sc_is_whole:FnScope ["thing"] ["thing"] (defScope (top 15)):=⟨rfl,rfl,rfl,by decide +kernel,rfl,by decide +kernel,by decide +kernel⟩
theorem ok_iw {f:Addr} {fd:FuncData} (F:Fun K "is_whole" "is_whole" (top 15) f fd) (T:T1 mg K) : FnOk P w K mg base CX0 1 f fd ["thing"] spIw:=by
 refine F.ok sc_is_whole (fun vs H Q E h=>?_) (fun cdv A outer s H vs Q E hr h=>?_)
 ·obtain ⟨x,rfl,_⟩:=h
  rfl
 ·obtain ⟨x,rfl,k⟩:=h
  refine ⟨_,(pss_one (ps_ret (pe_and (pe_callB (call_isiK (K:=K) rfl) rfl T.b_isinstance (by decide +kernel) (pa_cons (pv 0) (pa_cons (pe_bltn (v:=.ty "int") rfl T.b_int (by decide +kernel) rfl) pa_nil))) (pe_one (pe_not (pe_callB (call_isiK (K:=K) rfl) rfl T.b_isinstance (by decide +kernel) (pa_cons (pv 0) (pa_cons (pe_bltn (v:=.ty "bool") rfl T.b_bool (by decide +kernel) rfl) pa_nil)))))))),?_⟩
  refine ⟨_,rfl,_, "int", "int", _,rfl,TyOf.int x,kit_self _ _,true,rfl,iteT ?_⟩
  exact ⟨_,rfl,_, "int", "bool", _,rfl,TyOf.int x,T.k_ib,false,rfl,k⟩
theorem sc_is_between:FnScope ["thing", "low", "high"] ["thing", "low", "high"] (defScope (top 16)):=⟨rfl,rfl,rfl,by decide +kernel,rfl,by decide +kernel,by decide +kernel⟩
theorem ok_bt {f:Addr} {fd:FuncData} (F:Fun K "is_between" "is_between" (top 16) f fd) (T:TB P w K mg base) : FnOk P w K mg base CX0 2 f fd ["thing", "low", "high"] spBt:=by
 refine F.ok sc_is_between (fun vs H Q E h=>?_) (fun cdv A outer s H vs Q E hr h=>?_)
 ·obtain ⟨x,lo,hi,rfl,_⟩:=h
  rfl
 ·obtain ⟨x,lo,hi,rfl,k⟩:=h
  refine ⟨_,(pss_one (ps_ret (pe_and (pe_callF T.f_is_whole (hr.mono (by first | decide | omega)) rfl (pa_cons (pv 0) pa_nil)) (pe_one (pe_chain op_le op_le (pv 1) (pv 0) (pv 2)))))),?_⟩
  refine ⟨_,rfl,x,rfl,true,rfl,iteT ?_⟩
  refine ⟨_,rfl,_,rfl,_,_,rfl,rfl,_,rfl,ite2 (fun c=>?_) (fun c=>?_)⟩
  ·have c:lo≤x:=of_decide_eq_true c
   have e:decide (lo≤x∧x≤hi)=decide (x≤hi):=by rw [Bool.eq_iff_iff]; simp [c]
   rw [e] at k
   exact ⟨_,rfl,_,_,rfl,rfl,k⟩
  ·have c : ¬ lo≤x:=of_decide_eq_false (by simpa using c)
   have e:decide (lo≤x∧x≤hi)=false:=by simp [c]
   rw [e] at k
   exact k
end
end Sw
namespace Sw
open PySem L2
structure TC (P:Program) (w:World) (K:PySem.W.Frag) (mg:Str→Option Value) (base:Heap) : Prop extends T1 mg K where
 f_is_between:FnAt P w K mg base "is_between" 2 ["thing", "low", "high"] spBt
structure TM (P:Program) (w:World) (K:PySem.W.Frag) (mg:Str→Option Value) (base:Heap) : Prop extends T1 mg K where
 b_enumerate:mg "enumerate" = none
 f_plain:FnAt P w K mg base "plain" 1 ["n"] spPlain
 f_check_rounds:FnAt P w K mg base "check_rounds" 3 ["n", "lists"] spCheck
section
variable {P:Program} {w:World} {K:PySem.W.Frag} {mg:Str→Option Value} {base:Heap}
theorem sc_check_rounds:FnScope ["n", "lists", "seen", "things", "thing"] ["n", "lists"] (defScope (top 24)):=⟨rfl,rfl,rfl,by decide +kernel,rfl,by decide +kernel,by decide +kernel⟩
theorem ok_check {f:Addr} {fd:FuncData} (F:Fun K "check_rounds" "check_rounds" (top 24) f fd) (T:TC P w K mg base) : FnOk P w K mg base CX0 3 f fd ["n", "lists"] spCheck:=by
 refine F.ok sc_check_rounds (fun vs H Q E h=>?_) (fun cdv A outer s H vs Q E hr h=>?_)
 ·obtain ⟨n,l,ws,rs,rfl,_⟩:=h
  rfl
 ·obtain ⟨n,l,ws,rs,rfl,hl,hx,hwl,hr1,hnd,k⟩:=h
  refine ⟨_,(pss_cons (ps_set (i:=2) sc_check_rounds.nd rfl (Or.inl rfl) (pe_lst pa_nil))
   (pss_one (ps_for PassesOwn.never rfl (pi_listK (K:=K) rfl (pv 1)) (pg_name (i:=3) sc_check_rounds.nd rfl (Or.inl rfl)) (pss_cons (ps_if (pt_cmpR op_eq (pe_callB (call_lenK (K:=K) rfl) rfl T.b_len (by decide +kernel) (pa_cons (pv 3) pa_nil)) pe_int (nomark _)) (pss_one ps_never) pss_nil)
   (pss_one (ps_for PassesOwn.never rfl (pi_listK (K:=K) rfl (pv 3)) (pg_name (i:=4) sc_check_rounds.nd rfl (Or.inl rfl)) (pss_cons (ps_if (pt_not (pt_val (pe_callF T.f_is_between (hr.mono (by first | decide | omega)) rfl (@pa_cons _ _ _ _ _ (pv 4) (@pa_cons _ _ _ _ _ pe_int (@pa_cons _ _ _ _ _ (pv 0) pa_nil st_name) st_con) st_name)))) (pss_one ps_never) pss_nil)
   (pss_cons (ps_if (pt_cmpR (op_inK (K:=K) rfl) (pv 4) (pv 2) rfl) (pss_one ps_never) pss_nil)
   (pss_one (ps_expr (pe_bmK (K:=K) rfl PySem.F.plainAttrs_list PySem.F.slot_list_append PySem.F.type_list_append mt_append (pv 2) (pa_cons (pv 4) pa_nil)))))))))))),?_⟩
  have big:(10000000:Nat)≤sizeLine:=by decide
  refine ⟨Nat.zero_le _,fun ls hls=>?_⟩
  have wl:=hx.length
  have s1:Same H (upd H ls (.lst [])):=Same.new hls
  refine ⟨_,rfl,l,rfl,⟨_,SqL.of (s1 _ _ hl)⟩,for_list (K:=K) (a:=l) (xs:=ws) (fun i σ H'=>(∃ v3 v4,σ=[some (.int n),some (.ref l),some (.ref ls),v3,v4])∧Same H H'∧H' ls=some (.lst ((rs.take i).flatten.map V.int))∧(rs.take i).flatten.length≤1000 * i)
   ⟨⟨_,_,rfl⟩,s1,upd_same,Nat.zero_le _⟩ (fun i σ H' _ q=>SqL.of (q.2.1 _ _ hl)) ?_ ?_⟩
  ·rintro i x σ H' hi ⟨⟨v3,v4,rfl⟩,s2,h2,l2⟩
   obtain ⟨a,r,rfl,ha,hrr⟩:=hx.get hi
   obtain ⟨rn,rl,rb⟩:=hr1 r (List.mem_of_getElem? hrr)
   have rpos : 0<r.length:=List.length_pos_iff.mpr rn
   have ilt:i<ws.length:=(List.getElem?_eq_some_iff.mp hi).1
   have et:rs.take (i+1)=rs.take i++[r]:=by rw [List.take_succ,hrr]; rfl
   have nd2:((rs.take i).flatten++r).Nodup:=by
    have:=hnd
    rw [← List.take_append_drop (i+1) rs,List.flatten_append] at this
    have:=this.sublist (List.sublist_append_left _ _)
    rw [et,List.flatten_append,List.flatten_cons,List.flatten_nil,List.append_nil] at this
    exact this
   refine ⟨_,rfl,a,_,rfl,.inl (SqL.of (s2 _ _ ha)),rfl,_,rfl,iteE (decide_eq_false (by rw [List.length_map]; intro z; have:=V.int.inj z; omega)) ?_⟩
   refine ⟨_,rfl,a,rfl,⟨_,SqL.of (s2 _ _ ha)⟩,for_list (K:=K) (a:=a) (xs:=r.map V.int) (fun j σ H'=>(∃ v4,σ=[some (.int n),some (.ref l),some (.ref ls),some (.ref a),v4])∧Same H H'∧H' ls=some (.lst (((rs.take i).flatten++r.take j).map V.int)))
    ⟨⟨_,rfl⟩,s2,by rw [List.take_zero,List.append_nil]; exact h2⟩ (fun j σ H' _ q=>SqL.of (q.2.1 _ _ ha)) ?_ ?_⟩
   ·rintro j x σ H3 hj ⟨⟨v4,rfl⟩,s3,h3⟩
    obtain ⟨z,rfl,hz⟩:=mem_int hj
    have zb:=rb z (List.mem_of_getElem? hz)
    have jlt:j<r.length:=(List.getElem?_eq_some_iff.mp hz).1
    have etj:r.take (j+1)=r.take j++[z]:=by rw [List.take_succ,hz]; rfl
    refine ⟨_,rfl,_,rfl,z,1,n,rfl,_,rfl,iteE (by rw [decide_eq_true ⟨zb.1,zb.2⟩]; rfl) ?_⟩
    have nin:z∉(rs.take i).flatten++r.take j:=by
     have:((rs.take i).flatten++r.take (j+1)).Nodup:=nd2.sublist (List.Sublist.append (List.Sublist.refl _) (List.take_sublist _ _))
     rw [etj,← List.append_assoc] at this
     have:=(List.nodup_append.mp this).2.2
     intro hz2
     exact this z hz2 z (List.mem_singleton.mpr rfl) rfl
    refine ⟨_,rfl,_,rfl,ls,_,rfl,.inl (SqL.of h3),rfl,flat_ints _,_,rfl,iteE (by show inV _ _=false; rw [inV_int]; exact decide_eq_false nin) ?_⟩
    refine ⟨_,rfl,.inl ⟨rfl,_,SqL.of h3⟩,_,rfl,ls,_,_,rfl,rfl,h3,?_,⟨_,rfl⟩,Same.put s3 hls,?_⟩
    ·rw [List.length_map,List.length_append,List.length_take]
     have : 1000 * i≤1000 * 1000:=Nat.mul_le_mul_left _ (by omega)
     omega
    ·rw [upd_same,etj,← List.append_assoc,List.map_append (l₂:=[z])]
     rfl
   ·rintro σ H3 ⟨⟨v4,rfl⟩,s3,h3⟩
    rw [List.length_map,List.take_length] at h3
    refine ⟨⟨_,_,rfl⟩,s3,?_,?_⟩
    ·rw [et,List.flatten_append,List.flatten_cons,List.flatten_nil,List.append_nil]; exact h3
    ·rw [et,List.flatten_append,List.flatten_cons,List.flatten_nil,List.append_nil,List.length_append]; omega
  ·rintro σ H' ⟨⟨v3,v4,rfl⟩,s2,h2,_⟩
   exact k H' s2
theorem sc_made:FnScope ["n", "lists", "leads", "things", "at", "thing"] ["n", "lists"] (defScope (top 25)):=⟨rfl,rfl,rfl,by decide +kernel,rfl,by decide +kernel,by decide +kernel⟩
theorem ok_made {f:Addr} {fd:FuncData} (F:Fun K "made" "made" (top 25) f fd) (T:TM P w K mg base) : FnOk P w K mg base CX0 4 f fd ["n", "lists"] spMade:=by
 refine F.ok sc_made (fun vs H Q E h=>?_) (fun cdv A outer s H vs Q E hr h=>?_)
 ·obtain ⟨n,l,ws,rs,xs,rfl,_⟩:=h
  rfl
 ·obtain ⟨n,l,ws,rs,xs,rfl,n0,n1,hl,hx,hwl,hrl,hxl,hR,k⟩:=h
  refine ⟨_,(pss_cons (ps_expr (pe_callF T.f_check_rounds (hr.mono (by first | decide | omega)) rfl (pa_cons (pv 0) (pa_cons (pv 1) pa_nil))))
   (pss_cons (ps_set (i:=2) sc_made.nd rfl (Or.inl rfl) (pe_callTy (call_list_ofK (K:=K) rfl) rfl T.b_list (by decide +kernel) (pa_cons (pe_callF T.f_plain (hr.mono (by first | decide | omega)) rfl (pa_cons (pv 0) pa_nil)) pa_nil)))
   (pss_cons (ps_for PassesOwn.never rfl (pi_listK (K:=K) rfl (pv 1)) (pg_name (i:=3) sc_made.nd rfl (Or.inl rfl)) (pss_one (ps_for PassesOwn.never rfl (pi_enum0 (K:=K) rfl rfl T.b_enumerate (pa_cons (pv 3) pa_nil)) (pg_tupK (K:=K) (n:=2) rfl rfl (pgs_cons (pg_name (i:=4) sc_made.nd rfl (Or.inl rfl)) (pgs_cons (pg_name (i:=5) sc_made.nd rfl (Or.inl rfl)) pgs_nil))) (pss_one (ps_asg (pe_ix (ix_listK (K:=K) rfl) (pv 3) (pe_op op_mod (pe_op op_add (pv 4) pe_int) (pe_callB (call_lenK (K:=K) rfl) rfl T.b_len (by decide +kernel) (pa_cons (pv 3) pa_nil))) (fun _ _=>rfl)) (pg_sub (pv 2) (pe_op op_sub (pv 5) pe_int) set_list))))))
   (pss_one (ps_ret (pe_callTy (call_tuple_ofK (K:=K) rfl) rfl T.b_tuple (by decide +kernel) (pa_cons (pv 2) pa_nil))))))),?_⟩
  have big:(10000000:Nat)≤sizeLine:=by decide
  have rin : ∀ r∈rs,∀ x∈r,1≤x∧x≤n:=fun r hr x hx=>by
   obtain ⟨j,hj,e⟩:=List.mem_iff_getElem.mp hx
   have:=(hR.cyc r hr).2 j x (by rw [List.getElem?_eq_getElem hj,e])
   exact ⟨this.1,this.2.1⟩
  refine ⟨_,rfl,_,rfl,n,l,ws,rs,rfl,hl,hx,hwl,fun r hr=>⟨(hR.cyc r hr).1,hrl r hr,rin r hr⟩,hR.nd,fun H1 s1=>?_⟩
  refine ⟨_,rfl,n,rfl,n0,n1,fun t H2 ft ht s2=>⟨t,_,rfl,.inr (SqT.of ht),fun lv hlv=>?_⟩⟩
  have s3:=(s1.trans s2).trans (Same.new (o:=.lst ((ivl 1 (n+1)).map V.int)) hlv)
  have flv:H lv=none:=(s1.trans s2).free hlv
  have pl0 : ∀ x,1≤x→x≤n→ld (ivl 1 (n+1)) x=x:=fun x a b=>(nil_rnds n).rest x a b (by simp)
  refine ⟨_,rfl,l,rfl,⟨_,SqL.of (s3 _ _ hl)⟩,for_list (K:=K) (a:=l) (xs:=ws) (fun i σ H'=>(∃ v3 v4 v5,σ=[some (.int n),some (.ref l),some (.ref lv),v3,v4,v5])∧Same H H'∧∃ ls,H' lv=some (.lst (ls.map V.int))∧ls.length=n.toNat∧∀ x,1≤x→x≤n→ld ls x=if x∈(rs.take i).flatten then ld xs x else x)
   ⟨⟨_,_,_,rfl⟩,s3,ivl 1 (n+1),upd_same,by rw [ivl_length]; omega,fun x a b=>by simp [pl0 x a b]⟩ (fun i σ H' _ q=>SqL.of (q.2.1 _ _ hl)) ?_ ?_⟩
  ·rintro i x σ H' hi ⟨⟨v3,v4,v5,rfl⟩,s4,ls,h4,l4,e4⟩
   obtain ⟨a,r,rfl,ha,hrr⟩:=hx.get hi
   have cyc:=hR.cyc r (List.mem_of_getElem? hrr)
   have rl:=hrl r (List.mem_of_getElem? hrr)
   have et:rs.take (i+1)=rs.take i++[r]:=by rw [List.take_succ,hrr]; rfl
   refine ⟨_,rfl,a,_,rfl,SqL.of (s4 _ _ ha),for_enum0 (K:=K) (a:=a) (xs:=r.map V.int) (fun j σ H'=>(∃ v4 v5,σ=[some (.int n),some (.ref l),some (.ref lv),some (.ref a),v4,v5])∧Same H H'∧∃ ls,H' lv=some (.lst (ls.map V.int))∧ls.length=n.toNat∧∀ x,1≤x→x≤n→ld ls x=if x∈(rs.take i).flatten++r.take j then ld xs x else x)
    ⟨⟨_,_,rfl⟩,s4,ls,h4,l4,by rw [List.take_zero,List.append_nil]; exact e4⟩ (fun j σ H' _ q=>SqL.of (q.2.1 _ _ ha)) ?_ ?_⟩
   ·rintro j σ H5 tt v hv ⟨⟨v4,v5,rfl⟩,s5,ls,h5,l5,e5⟩ ftt
    obtain ⟨z,rfl,hz⟩:=mem_int hv
    obtain ⟨z1,z2,z3⟩:=cyc.2 j z hz
    have jlt:j<r.length:=(List.getElem?_eq_some_iff.mp hz).1
    have etj:r.take (j+1)=r.take j++[z]:=by rw [List.take_succ,hz]; rfl
    have st:Same H5 (upd H5 tt (.tup [.int (j:Int),.int z])):=Same.new ftt
    have lpos:(0:Int)<((r.map V.int).length:Int):=by rw [List.length_map]; omega
    have em:((j:Int)+1) % ((r.map V.int).length:Int)=(((j+1) % r.length:Nat) : Int):=by rw [List.length_map]; rfl
    have hat:atI (r.map V.int) (((j:Int)+1) % ((r.map V.int).length:Int))=some (.int (ld xs z)):=by
     rw [em]
     exact atI_nat (by rw [List.getElem?_map,z3]; rfl)
    refine ⟨tt,_,rfl,SqT.of upd_same,rfl,_,_,rfl,_,_,rfl,rfl,?_⟩
    refine ⟨_,rfl,_,rfl,_,_,rfl,rfl,_,rfl,a,_,rfl,.inl (SqL.of (st _ _ (s5 _ _ ha))),_,_,rfl,rfl,lpos,a,_,_,_,rfl,rfl,SqL.of (st _ _ (s5 _ _ ha)),hat,?_⟩
    refine ⟨_,rfl,_,rfl,_,_,rfl,rfl,lv,_,_,(z - 1).toNat,rfl,rfl,st _ _ h5,ixN_lt (by omega) (by rw [List.length_map]; omega),?_⟩
    refine ⟨⟨_,_,rfl⟩,Same.put (s5.trans st) flv,ls.set (z - 1).toNat (ld xs z),by rw [upd_same,List.map_set],by rw [List.length_set]; exact l5,fun y y1 y2=>?_⟩
    rw [etj,← List.append_assoc]
    unfold ld at e5 ⊢
    rw [List.getD_eq_getElem?_getD (l:=ls.set _ _)]
    by_cases ey:y=z
    ·subst ey
     rw [List.getElem?_set_self (by omega),if_pos (by simp)]
     rfl
    ·rw [List.getElem?_set_ne (by omega),← List.getD_eq_getElem?_getD,e5 y y1 y2]
     have:(y∈(rs.take i).flatten++r.take j++[z])↔(y∈(rs.take i).flatten++r.take j):=by
      rw [List.mem_append (t:=[z])]
      simp [ey]
     simp only [this]
   ·rintro σ H5 ⟨⟨v4,v5,rfl⟩,s5,ls,h5,l5,e5⟩
    rw [List.length_map,List.take_length] at e5
    refine ⟨⟨_,_,_,rfl⟩,s5,ls,h5,l5,?_⟩
    rw [et,List.flatten_append,List.flatten_cons,List.flatten_nil,List.append_nil]
    exact e5
  ·rintro σ H' ⟨⟨v3,v4,v5,rfl⟩,s4,ls,h4,l4,e4⟩
   rw [List.take_of_length_le (by rw [hx.length]; exact Nat.le_refl _)] at e4
   have e:ls=xs:=ord_ext l4 hxl fun x a b=>by
    rw [e4 x a b]
    split
    ·rfl
    ·rename_i h; exact (hR.rest x a b h).symm
   subst e
   refine ⟨_,rfl,lv,_,rfl,.inl ⟨SqL.of h4,fun t2 ft2=>?_⟩⟩
   exact k t2 _ (s4.free ft2) upd_same (s4.trans (Same.new ft2))
end
end Sw
namespace Sw
open PySem L2
def Half (n:Int) (Ls:List (List Int)) (xs:List Int) : Prop:=∀ L∈Ls,∀ x∈L,(∃ p∈L,p<x∧(∀ y∈L,¬ (p<y∧y<x))∧ld xs x=p+1)∨((∀ y∈L,x≤y)∧∃ M∈L,(∀ y∈L,y≤M)∧ld xs x=M % n+1)
end Sw
namespace Sw
open PySem L2
theorem perm_all : ∀ {as bs:List Int},as.Nodup→(∀ x∈as,x∈bs)→bs.length=as.length→bs.Perm as
 | [],bs,_,_,l=>by rw [List.length_eq_zero_iff.mp l]
 | a :: as,bs,nd,h,l=>by
  rw [List.nodup_cons] at nd
  have ha:=h a List.mem_cons_self
  refine (List.perm_cons_erase ha).trans (List.Perm.cons a (perm_all nd.2 (fun x hx=>?_) ?_))
  ·exact (List.mem_erase_of_ne (by rintro rfl; exact nd.1 hx)).mpr (h x (List.mem_cons_of_mem _ hx))
  ·rw [List.length_erase_of_mem ha,l,List.length_cons]; omega
theorem ord_sur {n:Int} {xs:List Int} (l:xs.length=n.toNat) (h : ∀ y,1≤y→y≤n→y∈xs) : Ord n xs:=by
 refine perm_all (ivl_nodup3 n) (fun x hx=>?_) (by rw [ivl_length,l]; omega)
 have:=ivl_mem3.mp hx
 exact h x this.1 this.2
theorem at_prev {L:List Int} {i:Nat} (h:i<L.length) : ∃ j p,L[j]?=some p∧(j+1) % L.length=i∧(i≠0→j+1=i)∧(i=0→j+1=L.length):=by
 by_cases c:i=0
 ·exact ⟨L.length - 1,_,List.getElem?_eq_getElem (by omega),by rw [show L.length - 1+1=L.length by omega,Nat.mod_self,c],fun z=>absurd c z,fun _=>by omega⟩
 ·exact ⟨i - 1,_,List.getElem?_eq_getElem (by omega),by rw [show i - 1+1=i by omega,Nat.mod_eq_of_lt h],fun _=>by omega,fun z=>absurd z c⟩
section
variable {n:Int} {Ls:List (List Int)}
theorem made_ord (c:Cov n Ls) : Ord n (madeM n Ls):=by
 refine ord_sur (madeM_length n Ls) fun y h1 h2=>?_
 obtain ⟨L,hL,hy⟩:=List.mem_flatten.mp (c.all h1 h2)
 obtain ⟨i,hi,rfl⟩:=List.getElem_of_mem hy
 obtain ⟨j,p,hp,e,_⟩:=at_prev hi
 have cy:=(fine_rnds c.fine).cyc L hL
 obtain ⟨p1,p2,p3⟩:=cy.2 j p hp
 rw [e,List.getElem?_eq_getElem hi] at p3
 rw [Option.some.inj p3]
 have:(p - 1).toNat<(madeM n Ls).length:=by rw [madeM_length]; omega
 unfold ld
 rw [List.getD_eq_getElem?_getD,List.getElem?_eq_getElem this]
 exact List.getElem_mem _
end
end Sw
namespace Sw
open PySem L2
theorem manyM_flat : ∀ (Ls:List (List Int)),manyM Ls=(Ls.flatten.length:Int)
 | []=>rfl
 | L :: r=>by
  have ih:=manyM_flat r
  unfold manyM at ih ⊢
  rw [List.map_cons,List.sum_cons,ih,List.flatten_cons,List.length_append]
  omega
theorem Cov.many {n:Int} {Ls:List (List Int)} (h:Cov n Ls) (n0 : 0≤n) : manyM Ls=n:=by
 rw [manyM_flat,h.flen n0]; omega
def spOby:Sp:=fun vs H Q _=>∃ (l:Addr) (ws:List V) (Ls:List (List Int)) (n:Int),vs=[.ref l]∧H l=some (.lst ws)∧Lsts H ws Ls∧Cov n Ls∧1≤n∧n≤12∧∀ t H',H t=none→H' t=some (.tup ((madeM n Ls).map V.int))→Same H H'→Q (.ref t) H'
structure TOby (P:Program) (w:World) (K:PySem.W.Frag) (mg:Str→Option Value) (base:Heap) : Prop extends T1 mg K where
 f_many_things:FnAt P w K mg base "many_things" 1 ["sharing"] spMany
 f_made:FnAt P w K mg base "made" 4 ["n", "lists"] spMade
section
variable {P:Program} {w:World} {K:PySem.W.Frag} {mg:Str→Option Value} {base:Heap}
theorem sc_order_by:FnScope ["sharing"] ["sharing"] (defScope (top 32)):=⟨rfl,rfl,rfl,by decide +kernel,rfl,by decide +kernel,by decide +kernel⟩
theorem ok_oby {f:Addr} {fd:FuncData} (F:Fun K "order_by" "order_by" (top 32) f fd) (T:TOby P w K mg base) : FnOk P w K mg base CX0 5 f fd ["sharing"] spOby:=by
 refine F.ok sc_order_by (fun vs H Q E h=>?_) (fun cdv A outer s H vs Q E hr h=>?_)
 ·obtain ⟨l,ws,Ls,n,rfl,_⟩:=h
  rfl
 ·obtain ⟨l,ws,Ls,n,rfl,hl,xl,cv,n1,n12,k⟩:=h
  refine ⟨_,(pss_one (ps_ret (pe_callF T.f_made (hr.mono (by first | decide | omega)) rfl (pa_cons (pe_callF T.f_many_things (hr.mono (by first | decide | omega)) rfl (pa_cons (pv 0) pa_nil)) (pa_cons (pv 0) pa_nil))))),?_⟩
  have wl:=xl.length
  have sz:=cv.sizes (by omega)
  refine ⟨_,rfl,l,ws,Ls,rfl,hl,xl,by omega,fun H1 s1=>?_⟩
  rw [cv.many (by omega)]
  refine ⟨_,rfl,_,l,ws,Ls,madeM n Ls,rfl,by omega,by omega,s1 _ _ hl,xl.keep s1,by omega,fun r hr=>by have:=sz.2 r hr; omega,madeM_length n Ls,fine_rnds cv.fine,fun t H2 ft ht s2=>k t H2 (s1.free ft) ht (s1.trans s2)⟩
end
end Sw
namespace Sw
open PySem L2
def spBack (K:PySem.W.Frag) : Sp:=fun vs H Q _=>∃ (t:Addr) (xs:List Int),vs=[.ref t]∧SqT K H t (xs.map V.int)∧xs.length≤1000∧(∀ x∈xs,1≤x∧x≤xs.length) ∧
 ∀ r H',H r=none→H' r=some (.tup ((backM xs).map V.int))→Same H H'→Q (.ref r) H'
structure TBk (mg:Str→Option Value) (K:PySem.W.Frag) : Prop extends T1 mg K where
 b_enumerate:mg "enumerate" = none
section
variable {P:Program} {w:World} {K:PySem.W.Frag} {mg:Str→Option Value} {base:Heap}
theorem sc_back:FnScope ["order", "homes", "thing", "led_to"] ["order"] (defScope (top 21)):=⟨rfl,rfl,rfl,by decide +kernel,rfl,by decide +kernel,by decide +kernel⟩
theorem ok_back {f:Addr} {fd:FuncData} (F:Fun K "back" "back" (top 21) f fd) (T:TBk mg K) : FnOk P w K mg base CX0 1 f fd ["order"] (spBack K):=by
 refine F.ok sc_back (fun vs H Q E h=>?_) (fun cdv A outer s H vs Q E hr h=>?_)
 ·obtain ⟨t,xs,rfl,_⟩:=h
  rfl
 ·obtain ⟨t,xs,rfl,ht,hl,hb,k⟩:=h
  refine ⟨_,(pss_cons (ps_set (i:=1) sc_back.nd rfl (Or.inl rfl) (pe_op op_rep (pe_lst (pa_cons pe_int pa_nil)) (pe_callB (call_lenK (K:=K) rfl) rfl T.b_len (by decide +kernel) (pa_cons (pv 0) pa_nil))))
   (pss_cons (ps_for PassesOwn.never rfl (pi_enum1 rfl T.b_enumerate (pa_cons (pv 0) pa_nil)) (pg_tupK (K:=K) (n:=2) rfl rfl (pgs_cons (pg_name (i:=2) sc_back.nd rfl (Or.inl rfl)) (pgs_cons (pg_name (i:=3) sc_back.nd rfl (Or.inl rfl)) pgs_nil))) (pss_one (ps_asg (pv 2) (pg_sub (pv 1) (pe_op op_sub (pv 3) pe_int) set_list))))
   (pss_one (ps_ret (pe_callTy (call_tuple_ofK (K:=K) rfl) rfl T.b_tuple (by decide +kernel) (pa_cons (pv 1) pa_nil)))))),?_⟩
  refine ⟨(by show 1≤sizeLine; decide),fun l0 hl0=>?_⟩
  have s0:Same H (upd H l0 (.lst [V.int 0])):=Same.new hl0
  have big:(100000:Nat)≤sizeLine:=by decide
  refine ⟨_,rfl,t,_,rfl,.inr ((s0.seqT ht)),l0,_,_,rfl,rfl,upd_same,by omega,(by rw [List.length_map]; omega),(by rw [List.length_map]; simp; omega),fun l hl1=>?_⟩
  have e0:(List.replicate (((xs.map V.int).length:Int)).toNat [V.int 0]).flatten=(homes xs (List.replicate xs.length 0) 0).map V.int:=by
   show _=(List.replicate xs.length (0:Int)).map V.int
   rw [List.length_map,Int.toNat_natCast,List.map_replicate,List.flatten_replicate_singleton]
  have s1:=s0.trans (Same.new (o:=.lst (List.replicate (((xs.map V.int).length:Int)).toNat [V.int 0]).flatten) hl1)
  have nl:H l=none:=s0.free hl1
  refine ⟨_,rfl,t,_,rfl,(s1.seqT ht),?_⟩
  refine ⟨fun i m σ H'=>m=xs.length - i∧i≤xs.length∧∃ (v2 v3:Option V),σ=[some (.ref t),some (.ref l),v2,v3]∧Same H H'∧H' l=some (.lst ((homes xs (List.replicate xs.length 0) i).map V.int)),⟨xs.length,rfl,Nat.zero_le _,none,none,rfl,s1,by rw [upd_same,e0]⟩,?_⟩
  rintro i m σ H' ⟨rfl,hi,v2,v3,rfl,s2,h2⟩
  by_cases hlt:i<xs.length
  ·refine .inr ⟨⟨by rw [List.length_map]; exact hlt,(s2.seqT ht)⟩,fun σ' H'=>∃ (v2 v3:Option V),σ'=[some (.ref t),some (.ref l),v2,v3]∧Same H H'∧H' l=some (.lst ((homes xs (List.replicate xs.length 0) (i+1)).map V.int)),fun σ' H' ⟨a,b,e1,e2,e3⟩=>⟨xs.length - (i+1),by omega,rfl,hlt,a,b,e1,e2,e3⟩,?_⟩
   rintro x H3 ⟨u,v,hu,rfl,hv,rfl⟩
   obtain ⟨z,rfl,hz⟩:=mem_int hv
   have bz:=hb z (List.mem_of_getElem? hz)
   have nu:l≠u:=ne_of_none h2 hu
   refine ⟨u,_,rfl,SqT.of upd_same,rfl,_,_,rfl,_,_,rfl,rfl,?_⟩
   refine ⟨_,rfl,_,rfl,_,rfl,_,_,rfl,rfl,l,_,_,(z - 1).toNat,rfl,rfl,(by rw [upd_ne nu]; exact h2),?_,?_⟩
   ·unfold ixN
    rw [if_pos (by omega),if_pos (by rw [List.length_map,homes_length,List.length_replicate]; omega)]
   ·refine ⟨_,_,rfl,fun b o e=>?_,?_⟩
    ·rw [upd_ne (ne_of_none e nl),upd_ne (ne_of_none (s2 _ _ e) hu)]
     exact s2 _ _ e
    ·rw [upd_same]
     conv=>rhs; unfold homes
     rw [hz]
     dsimp only
     rw [List.map_set]
  ·have e:i=xs.length:=by omega
   subst e
   refine .inl ⟨⟨by rw [List.length_map],(s2.seqT ht)⟩,?_⟩
   refine ⟨_,rfl,l,_,rfl,.inl ⟨SqL.of h2,fun r hr=>?_⟩⟩
   exact k r _ (s2.free hr) upd_same (s2.trans (Same.new hr))
end
end Sw
namespace Sw
open PySem L2
def spThen:Sp:=fun vs H Q _=>∃ (t u:Addr) (xs ys:List Int),vs=[.ref t,.ref u]∧H t=some (.tup (xs.map V.int))∧H u=some (.tup (ys.map V.int))∧xs.length=ys.length∧ys.length≤1000∧(∀ x∈xs,1≤x∧x≤ys.length) ∧
 ∀ r H',H r=none→H' r=some (.tup ((thenM xs ys).map V.int))→Same H H'→Q (.ref r) H'
section
variable {P:Program} {w:World} {K:PySem.W.Frag} {mg:Str→Option Value} {base:Heap}
theorem sc_then:FnScope ["one", "other"] ["one", "other"] (defScope (top 20)):=⟨rfl,rfl,rfl,by decide +kernel,rfl,by decide +kernel,by decide +kernel⟩
theorem ok_then {f:Addr} {fd:FuncData} (F:Fun K "then" "then" (top 20) f fd) (T:T1 mg K) : FnOk P w K mg base CX0 1 f fd ["one", "other"] spThen:=by
 refine F.ok sc_then (fun vs H Q E h=>?_) (fun cdv A outer s H vs Q E hr h=>?_)
 ·obtain ⟨t,u,xs,ys,rfl,_⟩:=h
  rfl
 ·obtain ⟨t,u,xs,ys,rfl,ht,hu,hl,hl2,hb,k⟩:=h
  refine ⟨_,(pss_cons (ps_if (pt_cmpR op_ne (pe_callB (call_lenK (K:=K) rfl) rfl T.b_len (by decide +kernel) (pa_cons (pv 0) pa_nil)) (pe_callB (call_lenK (K:=K) rfl) rfl T.b_len (by decide +kernel) (pa_cons (pv 1) pa_nil)) (nomark _)) (pss_one ps_never) pss_nil)
   (pss_one (ps_ret (pe_callTy (call_tuple_ofK (K:=K) rfl) rfl T.b_tuple (by decide +kernel) (pa_cons (pe_comp (N:=(["thing", "other"] : List Str)) (ix:=([none,some 1] : List (Option Nat))) (comp_ok rfl rfl) rfl (pi_tupK (K:=K) rfl (pv 0)) (fun _ _ _ _=>(pg_name (i:=0) (show List.Nodup (["thing", "other"] : List Str) from by decide +kernel) rfl (Or.inl rfl))) (fun _ _ _ _=>pif_nil) (fun _ _ _ _=>(pe_ix (ix_tupK (K:=K) rfl) (pv 1) (pe_op op_sub (pv 0) pe_int) (fun _ _=>rfl)))) pa_nil))))),?_⟩
  refine ⟨_,rfl,t,_,rfl,.inr (SqT.of ht),_,rfl,u,_,rfl,.inr (SqT.of hu),rfl,_,rfl,iteNS (by rw [List.length_map,List.length_map,hl]) ?_⟩
  refine ⟨_,rfl,t,rfl,⟨_,SqT.of ht⟩,comp_tup (K:=K) (xs:=xs.map V.int) (k:=0) (fun j zs σ' H''=>zs=(xs.take j).map (fun x=>V.int (ys.getD (x - 1).toNat 0))∧(∃ v,σ'=[v,some (.ref u)])∧H''=H) (by rw [List.length_map]; omega) ⟨rfl,⟨none,rfl⟩,rfl⟩
   (fun j zs σ' H'' _ p=>by rw [p.2.2]; exact SqT.of ht) (fun j zs σ' H'' p=>by rw [p.1,List.length_map,List.length_take]; omega) ?_ ?_ ?_⟩
  ·rintro j zs σ' H'' x hj ⟨rfl,⟨v,rfl⟩,rfl⟩
   obtain ⟨z,rfl,hz⟩:=mem_int hj
   have bz:=hb z (List.mem_of_getElem? hz)
   have hy:ys[(z - 1).toNat]?=some (ys.getD (z - 1).toNat 0):=by
    rw [List.getD_eq_getElem?_getD,List.getElem?_eq_getElem (by omega)]
    rfl
   refine ⟨_,rfl,_,rfl,_,_,rfl,rfl,u,_,_,_,rfl,rfl,SqT.of hu,at_int (by omega) hy,?_,⟨_,rfl⟩,rfl⟩
   exact (take_succ_map (fun x=>V.int (ys.getD (x - 1).toNat 0)) hz).symm
  ·intro σ' H'' R R' m q
   obtain ⟨v,e1,v2,e2,i,j,e3,e4,p,xs,i',v',e5,e6,e7,e8,q⟩:=q
   exact ⟨v,e1,v2,e2,i,j,e3,e4,p,xs,i',v',e5,e6,e7,e8,m _ _ q⟩
  ·rintro zs σ' H'' p ⟨rfl,_,rfl⟩ hp
   refine ⟨p,_,rfl,.inl ⟨SqL.of upd_same,fun r hr=>?_⟩⟩
   have s1:Same H'' (upd H'' p (.lst ((xs.take (xs.map V.int).length).map (fun x=>V.int (ys.getD (x - 1).toNat 0))))):=Same.new hp
   refine k r _ (s1.free hr) ?_ (s1.trans (Same.new hr))
   rw [upd_same,List.length_map,List.take_length]
   unfold thenM
   rw [List.map_map]
   rfl
end
end Sw
namespace L2
open PySem PySem.Spec PyProof.Rows
theorem zip_apart (n a b:Nat) (h1:a<n) (h2:b<n) : ZipApart (n+4) (n+2) (n+3) n (n+1) a b:=by
 constructor <;> (intro e; have e : @Eq Nat _ _:=e; omega)
def Itz (K:PySem.W.Frag) (a b:Addr) (xs ys:List V) : It :=
 ⟨fun i H=>i<min xs.length ys.length∧SqL K H a xs∧SqL K H b ys,fun i H x H'=>∃ t v u,H t=none∧x=.ref t∧xs[i]?=some v∧ys[i]?=some u∧H'=upd H t (.tup [v,u]),fun i H=>i=min xs.length ys.length∧SqL K H a xs∧SqL K H b ys⟩
theorem turn_zip {P:Program} {w:World} {K:PySem.W.Frag} {elts:List Expr} {k:Nat} {pos:Pos} (a b z TI TO i1 i2:Addr) (xs ys:List V) (D:ZipApart z TI TO i1 i2 a b) :
  Turn P w K (.Tuple elts k pos) (Itz K a b xs ys) [z,TI,TO,i1,i2] z (fun i h=>IsZip h z TI TO .none∧IsPair h TI (.ref i1) (.ref i2)∧(∃ x y,IsPair h TO x y)∧h.IsListIter i1 a i∧h.IsListIter i2 b i) where
 mem:=by simp
 obj:=fun i h st c hc=>by
  obtain ⟨hz,hTI,⟨x,y,hTO⟩,⟨o1,e1,c1,d1⟩,⟨o2,e2,c2,d2⟩⟩:=st
  simp only [List.mem_cons,List.not_mem_nil,or_false] at hc
  rcases hc with rfl | rfl | rfl | rfl | rfl
  ·exact ⟨_,hz,fun v z=>by cases z⟩
  ·exact ⟨_,hTI,fun v z=>by cases z⟩
  ·exact ⟨_,hTO,fun v z=>by cases z⟩
  ·exact ⟨o1,e1,fun v z=>by rw [d1] at z; cases z⟩
  ·exact ⟨o2,e2,fun v z=>by rw [d2] at z; cases z⟩
 keep:=fun i h h' st kk=>by
  obtain ⟨hz,hTI,⟨x,y,hTO⟩,h1,h2⟩:=st
  exact ⟨kk z (by simp) _ hz,kk TI (by simp) _ hTI,⟨x,y,kk TO (by simp) _ hTO⟩,h1.at fun o q=>kk i1 (by simp) o q,h2.at fun o q=>kk i2 (by simp) o q⟩
 item:=by
  intro X hP hw hK hc i pins s σ H E I hf st hg
  subst hP hw hK
  obtain ⟨hi,hq1,hq2⟩:=hg
  obtain ⟨its,rv,pl,_⟩:=I.list hq1
  obtain ⟨jts,rv2,pl2,_⟩:=I.list hq2
  have hl:=rv.length
  have hl2:=rv2.length
  obtain ⟨hz,hTI,hTO,h1,h2⟩:=st
  have W:=WalksT.zip2 (prog:=X.prog) (w:=X.w) (A:=X.A) (show X.A.handled=none from I.ok.hd hc) z TI TO i1 i2 a b D its.toArray jts.toArray
  refine W.item i s _ _ (by simp; omega) ⟨hz,hTI,hTO,h1,h2,pl.isList,pl2.isList⟩ fun T vals h' tk hPt hsz hT hMid hk=>?_
  obtain ⟨x,y,hx,hy,rfl⟩:=hPt
  obtain ⟨v,hv,rvx⟩ : ∃ v,xs[i]?=some v∧RelV v x:=by
   have hi':i<xs.length:=by omega
   rw [List.getElem?_eq_getElem hi']
   obtain ⟨u,hu,ru⟩:=rv.get (List.getElem?_eq_getElem hi')
   have:its[i]?=some x:=by simpa using hx
   rw [this] at hu
   cases hu
   exact ⟨_,rfl,ru⟩
  obtain ⟨v2,hv2,rvy⟩ : ∃ v,ys[i]?=some v∧RelV v y:=by
   have hi':i<ys.length:=by omega
   rw [List.getElem?_eq_getElem hi']
   obtain ⟨u,hu,ru⟩:=rv2.get (List.getElem?_eq_getElem hi')
   have:jts[i]?=some y:=by simpa using hy
   rw [this] at hu
   cases hu
   exact ⟨_,rfl,ru⟩
  refine ⟨.ref T,rfl,W.go elts k pos i T _ _ _ hMid fun h'' hSt hk''=>?_⟩
  have ap:=W.apart i T h' hMid
  have sub : ∀ c,c∉[z,TI,TO,i1,i2]→c∉[z,TO,i1,i2]:=fun c hc z'=>hc (by simp at z' ⊢; rcases z' with e | e | e | e <;> simp [e])
  have I1:Inv X pins σ H { s with heap:=h'',toks:=tk }:=I.turnedL (fp:=[z,TI,TO,i1,i2]) (fun b o hb q=>hk'' b o (sub b hb) (hk b o (sub b hb) q)) hf
  have fT:FpOk X pins H T:=I.fpOk hsz (I.hok.fresh hsz)
  have hT':IsTup h'' T #[x,y]:=by
   obtain ⟨o,e1,e2,e3⟩:=hT
   exact ⟨o,hk'' T o ap e1,e2,e3⟩
  obtain ⟨hz2,hTI2,hTO2,h12,h22,_,_⟩:=hSt
  refine ⟨.ref T,upd H T (.tup [v,v2]),I1.track fT ⟨(by show 2≤sizeLine; decide),[x,y],.cons rvx (.cons rvy .nil),hT'⟩,rfl,⟨T,v,v2,fT.1,rfl,hv,hv2,rfl⟩,⟨hz2,hTI2,hTO2,h12,h22⟩,fun c hc=>?_⟩
  have hcT:c≠T:=fun e=>by
   subst e
   have lt : ∀ {o},s.heap.get? c=some o→False:=fun e=>Nat.lt_irrefl _ (Nat.lt_of_lt_of_le (Heap.lt_size e) hsz)
   simp only [List.mem_cons,List.not_mem_nil,or_false] at hc
   rcases hc with e | e | e | e | e
   ·rw [← e] at hz; exact lt hz
   ·rw [← e] at hTI; exact lt hTI
   ·obtain ⟨_,_,hTO⟩:=hTO; rw [← e] at hTO; exact lt hTO
   ·obtain ⟨o,e1,_⟩:=h1; rw [← e] at e1; exact lt e1
   ·obtain ⟨o,e1,_⟩:=h2; rw [← e] at e1; exact lt e1
  rw [upd_ne hcT]
  exact (hf c hc).1
 done:=by
  intro X hP hw hK hc i pins s σ H E I hf st hg
  subst hP hw hK
  obtain ⟨hi,hq1,hq2⟩:=hg
  obtain ⟨its,rv,pl,_⟩:=I.list hq1
  obtain ⟨jts,rv2,pl2,_⟩:=I.list hq2
  have hl:=rv.length
  have hl2:=rv2.length
  obtain ⟨hz,hTI,hTO,h1,h2⟩:=st
  have W:=WalksT.zip2 (prog:=X.prog) (w:=X.w) (A:=X.A) (show X.A.handled=none from I.ok.hd hc) z TI TO i1 i2 a b D its.toArray jts.toArray
  have en:i=min its.toArray.size jts.toArray.size:=by simp; omega
  rw [en] at h1 h2
  have sub : ∀ c,c∉[z,TI,TO,i1,i2]→c∉[z,TO,i1,i2]:=fun c hc z'=>hc (by simp at z' ⊢; rcases z' with e | e | e | e <;> simp [e])
  exact W.done s _ _ ⟨hz,hTI,hTO,h1,h2,pl.isList,pl2.isList⟩ fun h' tk hk=>⟨rfl,I.turnedL (fp:=[z,TI,TO,i1,i2]) (fun b o hb q=>hk b o (sub b hb) q) hf⟩
 self:=fun A i s Q E st hQ=>wpAny_pyIter_zip st.1 hQ
def iZip (K:PySem.W.Frag) (ta:TA) : TI:=fun σ H R=>ta σ H fun vs H1=>∃ (a b:Addr) (xs ys:List V),vs=[.ref a,.ref b]∧SqL K H1 a xs∧SqL K H1 b ys∧R (Itz K a b xs ys) H1
theorem pi_zip {X:Cx} {K:PySem.W.Frag} {e e2:Expr} {ta:TA} {p pos:Pos} {kk:Nat} {elts:List Expr} {tp:Pos} (hK:X.K=K) (hg:Gl X "zip") (hm:X.mg "zip" = none) (ha:PA X [e,e2] ta)
  (hs:starEach [e,e2] X.env=(false,eval e X.env) :: starEach [e2] X.env:=by rfl) (hpl:(backTo pos (starEach [e2] X.env)).any (·.1)=false:=by rfl) :
  PI X (.Tuple elts kk tp) (.Call (.Name "zip" p) [e,e2] [] pos) (iZip K ta):=by
 subst hK
 intro pins s σ H R I h
 refine Call_ (ld_blt I hg hm (by decide +kernel:bootBuiltins "zip" = some (.type "zip")) (PyProof.Rows.callWith_type1 (thn (ha pos pins s σ H _ I h) fun us s2 ⟨vs,H2,I2,r1,a,b,xs,ys,e1,hq1,hq2,hR⟩=>?_) hs hpl) (by decide +kernel) (by decide +kernel))
 subst e1
 obtain ⟨u,u2,rfl,ru,ru2⟩:=vals2 r1
 cases ru
 cases ru2
 obtain ⟨its,rv,pl,_⟩:=I2.list hq1
 obtain ⟨jts,rv2,pl2,_⟩:=I2.list hq2
 refine call_zip_2 pl.isList pl2.isList fun h' z0 t0 o0 i10 i20 sz k0=>?_
 have lta : @LT.lt Nat _ a s2.heap.objs.size:=by obtain ⟨o,n,e,_⟩:=pl; exact Heap.lt_size e
 have ltb : @LT.lt Nat _ b s2.heap.objs.size:=by obtain ⟨o,n,e,_⟩:=pl2; exact Heap.lt_size e
 refine wpAny_pyIter_zip z0 ?_
 have D:ZipApart (s2.heap.objs.size+4) (s2.heap.objs.size+2) (s2.heap.objs.size+3) s2.heap.objs.size (s2.heap.objs.size+1) a b:=zip_apart _ _ _ lta ltb
 refine ⟨s2.heap.objs.size+4,[s2.heap.objs.size+4,s2.heap.objs.size+2,s2.heap.objs.size+3,s2.heap.objs.size,s2.heap.objs.size+1],_,_,H2,rfl,I2.kept (t':=s2.toks) k0,turn_zip a b _ _ _ _ _ xs ys D,⟨z0,t0,⟨_,_,o0⟩,i10,i20⟩,fun c hc=>?_,hR⟩
 have le : @LE.le Nat _ s2.heap.objs.size c:=by
  simp only [List.mem_cons,List.not_mem_nil,or_false] at hc
  rcases hc with e | e | e | e | e <;> rw [e]
  ·exact Nat.le_add_right _ _
  ·exact Nat.le_add_right _ _
  ·exact Nat.le_add_right _ _
  ·exact Nat.le_refl _
  ·exact Nat.le_add_right _ _
 exact I2.fpOk le (I2.hok.fresh le)
end L2
namespace L2
open PySem PySem.Spec PyProof.Rows
theorem compZ {K:PySem.W.Frag} {ix:List (Option Nat)} {g:TG} {te:TE} {σ : St} {Q:VK} {H:Hp} {a b:Addr} {xs ys:List V} (Pv:Nat→List V→St→Hp→Prop) (hn:min xs.length ys.length≤1000000) (h0:Pv 0 [] (startC ix σ) H)
  (hl : ∀ i zs σ H,i≤min xs.length ys.length→Pv i zs σ H→SqL K H a xs∧SqL K H b ys) (hlen : ∀ i zs σ H,Pv i zs σ H→zs.length≤i)
  (hs : ∀ i zs σ H t v u (R:St→List V→Hp→Prop),xs[i]?=some v→ys[i]?=some u→Pv i zs σ H→H t=none→(∀ σ2 ys2 H5,Pv (i+1) ys2 σ2 H5→R σ2 ys2 H5)→g (.ref t) σ (upd H t (.tup [v,u])) fun σ2 H3=>te σ2 H3 fun v H5=>R σ2 (zs++[v]) H5)
  (mg : ∀ x σ H R R',(∀ σ2 H2,R σ2 H2→R' σ2 H2)→g x σ H R→g x σ H R')
  (hd : ∀ zs σ' H' p,Pv (min xs.length ys.length) zs σ' H'→H' p=none→Q (.ref p) (upd H' p (.lst zs))) : rComp ix g tTrue te σ Q (Itz K a b xs ys) H:=by
 refine comp_by Pv hn h0 (fun i zs σ H hi p=>⟨hi,hl i zs σ H (Nat.le_of_lt hi) p⟩) (fun zs σ H p=>⟨rfl,hl _ zs σ H (Nat.le_refl _) p⟩) hlen (fun i zs σ H x H2 R hi p y r=>?_) hd
 obtain ⟨t,v,u,ht,rfl,hv,hu,rfl⟩:=y
 refine mg _ _ _ _ _ (fun σ2 H3 q=>?_) (hs i zs σ H t v u R hv hu p ht r)
 unfold tTrue
 simp only [if_true]
 exact q
end L2
namespace Sw
open PySem L2
def jbG (S S':List (List Int)) : Bool:=decide ((S'.length:Int)=(S.length:Int) - 1) && withB S S'
structure ChG (SS:List (List (List Int))) : Prop where
 ne:SS≠[]
 many : ∀ S∈SS,manyM S=manyM (SS.getD 0 [])
 first:((SS.getD 0 []).length:Int)=manyM (SS.getD 0 [])
 last:(SS.getD (SS.length - 1) []).length=1
 step : ∀ t,t+1<SS.length→jbG (SS.getD t []) (SS.getD (t+1) [])=true
def FewS (SS:List (List (List Int))) : Prop:=SS.length≤60∧∀ S∈SS,S.length≤60∧∀ L∈S,L.length≤60
def spJtG:Sp:=fun vs H Q _=>∃ (l m:Addr) (ws us:List V) (Ls Ms:List (List Int)),vs=[.ref l,.ref m]∧H l=some (.lst ws)∧Lsts H ws Ls∧H m=some (.lst us)∧Lsts H us Ms∧Ls.length≤60∧Ms.length≤60∧(∀ L∈Ls,L.length≤60)∧manyM Ls=manyM Ms∧∀ H',Same H H'→Q (.bl (jbG Ls Ms)) H'
def spIscG:Sp:=fun vs H Q _=>∃ (q:Addr) (as:List Addr) (uss:List (List V)) (SS:List (List (List Int))),vs=[.ref q]∧H q=some (.lst (as.map V.ref))∧Shs H as uss SS∧FewS SS∧∀ b H',(b=true↔ChG SS)→Same H H'→Q (.bl b) H'
structure TJtG (P:Program) (w:World) (K:PySem.W.Frag) (mg:Str→Option Value) (base:Heap) : Prop extends T1 mg K where
 f_within:FnAt P w K mg base "within" 2 ["one", "other"] spWithin
structure TIscG (P:Program) (w:World) (K:PySem.W.Frag) (mg:Str→Option Value) (base:Heap) : Prop extends T1 mg K where
 b_any:mg "any" = none
 b_zip:mg "zip" = none
 f_many_things:FnAt P w K mg base "many_things" 1 ["sharing"] spMany
 f_joins_two:FnAt P w K mg base "joins_two" 3 ["one", "other"] spJtG
theorem drop1_atG {α : Type} {L:List α} {i:Nat} : (L.drop 1)[i]?=L[i+1]?:=by rw [List.getElem?_drop,Nat.add_comm]
theorem getDG {α : Type} {L:List α} {i:Nat} {a d : α} (h:L[i]?=some a) : L.getD i d=a:=by rw [List.getD_eq_getElem?_getD,h]; rfl
section
variable {P:Program} {w:World} {K:PySem.W.Frag} {mg:Str→Option Value} {base:Heap}
theorem sc_joins_two:FnScope ["one", "other"] ["one", "other"] (defScope (top 37)):=⟨rfl,rfl,rfl,by decide +kernel,rfl,by decide +kernel,by decide +kernel⟩
theorem ok_jtG {f:Addr} {fd:FuncData} (F:Fun K "joins_two" "joins_two" (top 37) f fd) (T:TJtG P w K mg base) : FnOk P w K mg base CX0 3 f fd ["one", "other"] spJtG:=by
 refine F.ok sc_joins_two (fun vs H Q E h=>?_) (fun cdv A outer s H vs Q E hr h=>?_)
 ·obtain ⟨l,m,ws,us,Ls,Ms,rfl,_⟩:=h
  rfl
 ·obtain ⟨l,m,ws,us,Ls,Ms,rfl,hl,xl,hm,xm,lL,lM,lLs,mn,k⟩:=h
  refine ⟨_,(pss_one (ps_ret (pe_and (pe_cmpR op_eq (pe_callB (call_lenK (K:=K) rfl) rfl T.b_len (by decide +kernel) (pa_cons (pv 1) pa_nil)) (pe_op op_sub (pe_callB (call_lenK (K:=K) rfl) rfl T.b_len (by decide +kernel) (pa_cons (pv 0) pa_nil)) pe_int) (nomark _)) (pe_one (pe_callF T.f_within (hr.mono (by first | decide | omega)) rfl (pa_cons (pv 0) (pa_cons (pv 1) pa_nil))))))),?_⟩
  have wl:=xl.length
  have ul:=xm.length
  refine ⟨_,rfl,m,_,rfl,.inl (SqL.of hm),_,rfl,l,_,rfl,.inl (SqL.of hl),_,_,rfl,rfl,rfl,?_⟩
  by_cases c:(Ms.length:Int)=(Ls.length:Int) - 1
  ·have ev:V.int ((us.length:Nat) : Int)=(fun i j:Int=>V.int (i - j)) ((ws.length:Nat) : Int) 1:=congrArg V.int (show ((us.length:Nat) : Int)=((ws.length:Nat) : Int) - 1 by omega)
   refine ⟨true,by rw [decide_eq_true ev],iteT ?_⟩
   refine ⟨_,rfl,_,rfl,l,m,ws,us,Ls,Ms,rfl,hl,xl,hm,xm,by omega,by omega,fun L hL=>by have:=lLs L hL; omega,mn,fun H1 s1=>?_⟩
   have:=k H1 s1
   unfold jbG at this
   rw [decide_eq_true c,Bool.true_and] at this
   exact this
  ·have ev : ¬ V.int ((us.length:Nat) : Int)=(fun i j:Int=>V.int (i - j)) ((ws.length:Nat) : Int) 1:=fun z=>c (by have:((us.length:Nat) : Int)=((ws.length:Nat) : Int) - 1:=V.int.inj z; omega)
   refine ⟨false,by rw [decide_eq_false ev],iteF ?_⟩
   have:=k H (Same.refl H)
   unfold jbG at this
   rw [decide_eq_false c,Bool.false_and] at this
   exact this
theorem sc_is_chain:FnScope ["chain", "n"] ["chain"] (defScope (top 38)):=⟨rfl,rfl,rfl,by decide +kernel,rfl,by decide +kernel,by decide +kernel⟩
theorem ok_iscG {f:Addr} {fd:FuncData} (F:Fun K "is_chain" "is_chain" (top 38) f fd) (T:TIscG P w K mg base) : FnOk P w K mg base CX0 4 f fd ["chain"] spIscG:=by
 refine F.ok sc_is_chain (fun vs H Q E h=>?_) (fun cdv A outer s H vs Q E hr h=>?_)
 ·obtain ⟨q,as,uss,SS,rfl,_⟩:=h
  rfl
 ·obtain ⟨q,as,uss,SS,rfl,hq,x,⟨few,fews⟩,k⟩:=h
  refine ⟨_,(pss_cons (ps_if (pt_cmpR op_eq (pe_callB (call_lenK (K:=K) rfl) rfl T.b_len (by decide +kernel) (pa_cons (pv 0) pa_nil)) pe_int (nomark _)) (pss_one (ps_ret pe_bl)) pss_nil)
   (pss_cons (ps_set (i:=1) sc_is_chain.nd rfl (Or.inr rfl) (pe_callF T.f_many_things (hr.mono (by first | decide | omega)) rfl (pa_cons (pe_ix (ix_listK (K:=K) rfl) (pv 0) pe_int (fun _ _=>rfl)) pa_nil)))
   (pss_cons (ps_if (pt_val (pe_callB (call_any (K:=K) rfl rfl) rfl T.b_any (by decide +kernel) (pa_cons (pe_comp (N:=(["sharing", "n"] : List Str)) (ix:=([none,some 1] : List (Option Nat))) (comp_ok rfl rfl) rfl (pi_listK (K:=K) rfl (pv 0)) (fun _ _ _ _=>(pg_name (i:=0) (show List.Nodup (["sharing", "n"] : List Str) from by decide +kernel) rfl (Or.inl rfl))) (fun _ _ _ _=>pif_nil) (fun _ _ _ _=>(pe_cmpR op_ne (pe_callF T.f_many_things (hr.mono (by first | decide | omega)) rfl (pa_cons (pv 0) pa_nil)) (pv 1) (nomark _)))) pa_nil))) (pss_one (ps_ret pe_bl)) pss_nil)
   (pss_cons (ps_if (PW.pt (pw_or (pt_cmpR op_ne (pe_callB (call_lenK (K:=K) rfl) rfl T.b_len (by decide +kernel) (pa_cons (pe_ix (ix_listK (K:=K) rfl) (pv 0) pe_int (fun _ _=>rfl)) pa_nil)) (pv 1) (nomark _)) (pw_or1 (pt_cmpR op_ne (pe_callB (call_lenK (K:=K) rfl) rfl T.b_len (by decide +kernel) (pa_cons (pe_ix (ix_listK (K:=K) rfl) (pv 0) (pe_un un_neg pe_int) (fun _ _=>rfl)) pa_nil)) pe_int (nomark _))))) (pss_one (ps_ret pe_bl)) pss_nil)
   (pss_one (ps_ret (pe_callB (call_allK (K:=K) rfl rfl) rfl T.b_all (by decide +kernel) (pa_cons (pe_comp (N:=(["one", "other"] : List Str)) (ix:=([none,none] : List (Option Nat))) (comp_ok rfl rfl) rfl (pi_zip (K:=K) rfl rfl T.b_zip (pa_cons (pv 0) (pa_cons (pe_slice (sl_listK (K:=K) rfl) (pv 0) (po_some pe_int) po_none) pa_nil))) (fun _ _ _ _=>(pg_tupK (K:=K) (n:=2) rfl rfl (pgs_cons (pg_name (i:=0) (show List.Nodup (["one", "other"] : List Str) from by decide +kernel) rfl (Or.inl rfl)) (pgs_cons (pg_name (i:=1) (show List.Nodup (["one", "other"] : List Str) from by decide +kernel) rfl (Or.inl rfl)) pgs_nil)))) (fun _ _ _ _=>pif_nil) (fun _ _ _ _=>(pe_callF T.f_joins_two (hr.mono (by first | decide | omega)) rfl (pa_cons (pv 0) (pa_cons (pv 1) pa_nil))))) pa_nil)))))))),?_⟩
  have al:=x.1
  have ul:=x.2.1
  have asl:(as.map V.ref).length=SS.length:=by rw [List.length_map,al]
  have no : ∀ H',¬ ChG SS→Same H H'→Q (.bl false) H':=fun H' z s=>k false H' ⟨fun q=>(by cases q),fun q=>absurd q z⟩ s
  by_cases ne:SS=[]
  ·refine ⟨_,rfl,q,_,rfl,.inl (SqL.of hq),rfl,_,rfl,iteP (decide_eq_true (by rw [asl,ne]; rfl)) ?_⟩
   exact no H (fun z=>z.ne ne) (Same.refl H)
  have lp:=List.length_pos_iff.mpr ne
  have each : ∀ (H':Hp),Same H H'→∀ (i:Nat) (v:V),(as.map V.ref)[i]?=some v→∃ (a:Addr) (us:List V) (S:List (List Int)),v=.ref a∧H' a=some (.lst us)∧Lsts H' us S∧SS[i]?=some S:=fun H' s' i v hv=>by
   rw [List.getElem?_map] at hv
   obtain ⟨a,ha,rfl⟩:=Option.map_eq_some_iff.mp hv
   have hi:=(List.getElem?_eq_some_iff.mp ha).1
   obtain ⟨us,hus⟩ : ∃ us,uss[i]?=some us:=⟨_,List.getElem?_eq_getElem (by omega)⟩
   obtain ⟨S,hS⟩ : ∃ S,SS[i]?=some S:=⟨_,List.getElem?_eq_getElem (by omega)⟩
   obtain ⟨h1,h2⟩:=x.2.2 i a us S ha hus hS
   exact ⟨a,us,S,rfl,s' _ _ h1,h2.keep s',hS⟩
  obtain ⟨v0,hv0⟩ : ∃ v,(as.map V.ref)[0]?=some v:=⟨_,List.getElem?_eq_getElem (by omega)⟩
  obtain ⟨a0,u0,S0,rfl,ha0,x0,hS0⟩:=each H (Same.refl _) 0 v0 hv0
  have d0:SS.getD 0 []=S0:=getDG hS0
  have f0:=fews S0 (List.mem_of_getElem? hS0)
  have u0l:=x0.length
  refine ⟨_,rfl,q,_,rfl,.inl (SqL.of hq),rfl,_,rfl,iteE (decide_eq_false fun z=>by have:=V.int.inj z; omega) ?_⟩
  refine ⟨_,rfl,q,_,0,_,rfl,rfl,SqL.of hq,atI_nat hv0,?_⟩
  refine ⟨a0,u0,S0,rfl,ha0,x0,by omega,fun H1 s1=>?_⟩
  obtain ⟨n,hn⟩ : ∃ n,manyM S0=n:=⟨_,rfl⟩
  rw [hn]
  have hq1:=s1 _ _ hq
  refine ⟨_,rfl,q,rfl,⟨_,SqL.of hq1⟩,compL (K:=K) (a:=q) (xs:=as.map V.ref) (k:=0) (fun i ys σ' H'=>ys=((SS.take i).map fun S=>!decide (V.int (manyM S)=V.int n)).map V.bl∧(∃ v,σ'=[v,some (.int n)])∧Same H H') (by omega) ⟨rfl,⟨none,rfl⟩,s1⟩ (fun i ys σ' H' _ z=>SqL.of (z.2.2 _ _ hq)) (fun i ys σ' H' z=>by rw [z.1,List.length_map,List.length_map,List.length_take]; omega) ?_ ?_⟩
  ·rintro i ys σ' H2 v R hv ⟨rfl,⟨v1,rfl⟩,s2⟩ done
   obtain ⟨a,us,S,rfl,ha,xS,hS⟩:=each H2 s2 i v hv
   have fS:=(fews S (List.mem_of_getElem? hS)).1
   refine ⟨_,rfl,a,us,S,rfl,ha,xS,by omega,fun H3 s3=>?_⟩
   refine ⟨_,rfl,rfl,done _ _ _ ⟨?_,⟨_,rfl⟩,s2.trans s3⟩⟩
   rw [take_snoc hS,List.map_append,List.map_append]
   rfl
  rintro ys σ' H2 r ⟨rfl,_,s2⟩ fr
  rw [List.take_of_length_le (by omega)]
  refine ⟨r,SS.map fun S=>!decide (V.int (manyM S)=V.int n),rfl,SqL.of upd_same,_,rfl,?_⟩
  have s3:=s2.trans (Same.new (o:=.lst ((SS.map fun S=>!decide (V.int (manyM S)=V.int n)).map V.bl)) fr)
  generalize upd H2 r (.lst ((SS.map fun S=>!decide (V.int (manyM S)=V.int n)).map V.bl))=H3 at s3 ⊢
  cases an:(SS.map fun S=>!decide (V.int (manyM S)=V.int n)).any id with
  | true =>
   refine iteT (no H3 (fun z=>?_) s3)
   rw [List.any_map,List.any_eq_true] at an
   obtain ⟨S,hS,e⟩:=an
   have:=z.many S hS
   rw [d0,hn] at this
   have e:(!decide (V.int (manyM S)=V.int n))=true:=e
   rw [this,decide_eq_true rfl] at e
   cases e
  | false =>
   refine iteF ?_
   have all : ∀ S∈SS,manyM S=n:=fun S hS=>by
    rw [List.any_map,List.any_eq_false] at an
    have:=an S hS
    have e : ¬ (!decide (V.int (manyM S)=V.int n))=true:=this
    have e:decide (V.int (manyM S)=V.int n)=true:=by simpa using e
    exact V.int.inj (of_decide_eq_true e)
   have hq3:=s3 _ _ hq
   obtain ⟨a0',u0',S0',e0',ha3,x3,hS3⟩:=each H3 s3 0 _ hv0
   cases e0'
   rw [hS0] at hS3
   cases hS3
   have u3:=x3.length
   refine ⟨_,rfl,q,_,0,_,rfl,rfl,SqL.of hq3,atI_nat hv0,a0,_,rfl,.inl (SqL.of ha3),_,rfl,rfl,_,rfl,?_⟩
   by_cases cl:(S0.length:Int)=n
   ·have e1:V.int ((u0'.length:Nat) : Int)=V.int n:=congrArg V.int (by omega)
    refine iteE (by rw [decide_eq_true e1]; rfl) ?_
    obtain ⟨vl,hvl⟩ : ∃ v,(as.map V.ref)[SS.length - 1]?=some v:=⟨_,List.getElem?_eq_getElem (by omega)⟩
    obtain ⟨al',ulv,Sl,rfl,hal,xSl,hSl⟩:=each H3 s3 _ vl hvl
    have ull:=xSl.length
    have dl':SS.getD (SS.length - 1) []=Sl:=getDG hSl
    have atl:atI (as.map V.ref) (-1)=some (.ref al'):=by
     unfold atI ixN
     rw [if_neg (by decide),if_pos (by omega)]
     show (as.map V.ref)[(-1+((as.map V.ref).length:Int)).toNat]?=_
     rw [show (-1+((as.map V.ref).length:Int)).toNat=SS.length - 1 by omega]
     exact hvl
    refine ⟨_,rfl,_,rfl,q,_,_,_,rfl,rfl,SqL.of hq3,atl,al',_,rfl,.inl (SqL.of hal),rfl,_,rfl,?_⟩
    by_cases c1:Sl.length=1
    ·have e2:V.int ((ulv.length:Nat) : Int)=V.int 1:=congrArg V.int (by omega)
     refine iteE (by rw [decide_eq_true e2]; rfl) ?_
     refine ⟨_,rfl,_,rfl,?_⟩
     dsimp only [tNoPart]
     refine ⟨_,rfl,q,_,rfl,SqL.of hq3,fun qd fqd=>?_⟩
     have cd:cutV (as.map V.ref) (some 1) none=(as.map V.ref).drop 1:=cutD9 (by decide) (by omega)
     have s4:Same H3 (upd H3 qd (.lst (cutV (as.map V.ref) (some 1) none))):=Same.new fqd
     have hqd:upd H3 qd (.lst (cutV (as.map V.ref) (some 1) none)) qd=some (.lst ((as.map V.ref).drop 1)):=by rw [upd_same,cd]
     generalize upd H3 qd (.lst (cutV (as.map V.ref) (some 1) none))=H4 at s4 hqd ⊢
     have a4:=s3.trans s4
     have dl:((as.map V.ref).drop 1).length=SS.length - 1:=by rw [List.length_drop,asl]
     have mn:min (as.map V.ref).length ((as.map V.ref).drop 1).length=SS.length - 1:=by omega
     refine ⟨q,qd,_,_,rfl,SqL.of (a4 _ _ hq),SqL.of hqd,compZ (K:=K) (fun i zs σ' H'=>zs=((List.range i).map fun t=>jbG (SS.getD t []) (SS.getD (t+1) [])).map V.bl∧(∃ v0 v1,σ'=[v0,v1])∧Same H4 H') (by omega) ⟨rfl,⟨none,none,rfl⟩,Same.refl _⟩ (fun i zs σ' H' _ z=>⟨SqL.of ((a4.trans z.2.2) _ _ hq),SqL.of (z.2.2 _ _ hqd)⟩) (fun i zs σ' H' z=>by rw [z.1,List.length_map,List.length_map,List.length_range]; omega) ?_ ?_ ?_⟩
     ·rintro i zs σ' H5 t v u R hv hu ⟨rfl,⟨w0,w1,rfl⟩,s5⟩ ft done
      rw [drop1_atG] at hu
      have a5:=a4.trans s5
      obtain ⟨b1,us1,S1,rfl,hb1,xS1,hS1⟩:=each H5 a5 i v hv
      obtain ⟨b2,us2,S2,rfl,hb2,xS2,hS2⟩:=each H5 a5 (i+1) u hu
      have s6:Same H5 (upd H5 t (.tup [.ref b1,.ref b2])):=Same.new ft
      refine ⟨t,_,rfl,SqT.of upd_same,rfl,_,_,rfl,_,_,rfl,rfl,?_⟩
      generalize upd H5 t (.tup [.ref b1,.ref b2])=H6 at s6 ⊢
      have m1:=List.mem_of_getElem? hS1
      have m2:=List.mem_of_getElem? hS2
      refine ⟨_,rfl,_,rfl,b1,b2,us1,us2,S1,S2,rfl,s6 _ _ hb1,xS1.keep s6,s6 _ _ hb2,xS2.keep s6,(fews S1 m1).1,(fews S2 m2).1,(fews S1 m1).2,by rw [all S1 m1,all S2 m2],fun H7 s7=>done _ _ _ ⟨?_,⟨_,_,rfl⟩,s5.trans (s6.trans s7)⟩⟩
      rw [List.range_succ,List.map_append,List.map_append]
      show _=_++[V.bl (jbG (SS.getD i []) (SS.getD (i+1) []))]
      rw [getDG hS1,getDG hS2]
     ·intro x σ H R R' m q
      obtain ⟨a,xs,e1,h,hl,v,vs,e2,v',vs',e3,e4,q⟩:=q
      exact ⟨a,xs,e1,h,hl,v,vs,e2,v',vs',e3,e4,m _ _ q⟩
     ·rintro zs σ' H5 r2 ⟨rfl,_,s5⟩ fr2
      refine ⟨r2,_,rfl,SqL.of upd_same,?_⟩
      refine k _ _ ?_ (a4.trans (s5.trans (Same.new fr2)))
      rw [List.all_map,List.all_eq_true,mn]
      constructor
      ·intro h
       exact ⟨ne,fun S hS=>by rw [d0,hn]; exact all S hS,by rw [d0,hn]; exact cl,by rw [dl']; exact c1,fun t ht=>h t (List.mem_range.mpr (by omega))⟩
      ·intro z t ht
       exact z.step t (by have:=List.mem_range.mp ht; omega)
    ·have e2 : ¬ V.int ((ulv.length:Nat) : Int)=V.int 1:=fun z=>c1 (by have:=V.int.inj z; omega)
     refine iteP (by rw [decide_eq_false e2]; rfl) ?_
     exact no H3 (fun z=>c1 (by rw [← dl']; exact z.last)) s3
   ·have e1 : ¬ V.int ((u0'.length:Nat) : Int)=V.int n:=fun z=>cl (by have:=V.int.inj z; omega)
    refine iteP (by rw [decide_eq_false e1]; rfl) ?_
    exact no H3 (fun z=>cl (by have:=z.first; rw [d0,hn] at this; exact this)) s3
end
end Sw
namespace Sw
open PySem L2
structure HalfD (n:Int) (Ls:List (List Int)) (xs:List Int) : Prop where
 o:Ord n xs
 nd:Ls.flatten.Perm (ivl 1 (n+1))
 nx:NonX Ls
 hf:Half n Ls xs
end Sw
namespace Sw
open PySem L2
section
variable {n:Int} {Ls Ms:List (List Int)}
structure JoinD (n:Int) (Ls Ms:List (List Int)) (A B C:List Int) : Prop where
 cL:Cov n Ls
 rL : ∀ L∈Ls,L.Pairwise (· < ·)
 xL:NonX Ls
 cM:Cov n Ms
 rM : ∀ L∈Ms,L.Pairwise (· < ·)
 hA:A∈Ls
 hB:B∈Ls
 AB:A≠B
 hC:C∈Ms
 mC : ∀ x,x∈C↔x∈A∨x∈B
 rest : ∀ L∈Ls,L≠A→L≠B→L∈Ms
end
end Sw
namespace Sw
open PySem L2
structure Gsd (n:Int) (S:List (List Int)) : Prop where
 cv:Cov n S
 rise : ∀ L∈S,L.Pairwise (· < ·)
 nx:NonX S
 srt:S.Pairwise fun a b=>lexB b a=false
def alone (n:Int) : List (List Int):=(ivl 1 (n+1)).map fun x=>[x]
structure Chd (n:Int) (SS:List (List (List Int))) : Prop where
 first:SS[0]?=some (alone n)
 good : ∀ S∈SS,Gsd n S
 len : ∀ (t:Nat) (S:List (List Int)),SS[t]?=some S→S.length+t=n.toNat
 step : ∀ (t:Nat) (S S':List (List Int)),SS[t]?=some S→SS[t+1]?=some S'→∃ A B C,JoinD n S S' A B C
section
variable {n:Int}
theorem alone_flat:(alone n).flatten=ivl 1 (n+1):=by
 unfold alone
 generalize ivl 1 (n+1)=L
 induction L with
 | nil=>rfl
 | cons a L ih=>rw [List.map_cons,List.flatten_cons,ih]; rfl
end
end Sw
namespace L2
open PySem
theorem compE1if {K:PySem.W.Frag} {ix:List (Option Nat)} {g:TG} {tc:TT} {te:TE} {σ : St} {Q:VK} {H:Hp} {a:Addr} {xs:List V} (Pv:Nat→List V→St→Hp→Prop) (hn:xs.length≤1000000) (h0:Pv 0 [] (startC ix σ) H)
  (hl : ∀ i ys σ H,i≤xs.length→Pv i ys σ H→SqT K H a xs) (hlen : ∀ i ys σ H,Pv i ys σ H→ys.length≤i)
  (hs : ∀ i ys σ H t v (R:St→List V→Hp→Prop),xs[i]?=some v→Pv i ys σ H→H t=none→(∀ σ2 ys2 H5,Pv (i+1) ys2 σ2 H5→R σ2 ys2 H5)→g (.ref t) σ (upd H t (.tup [.int ((i:Int)+1),v])) fun σ2 H3=>tc σ2 H3 fun b H4=>if b=true then te σ2 H4 fun v H5=>R σ2 (ys++[v]) H5 else R σ2 ys H4)
  (hd : ∀ ys σ' H' p,Pv xs.length ys σ' H'→H' p=none→Q (.ref p) (upd H' p (.lst ys))) : rComp ix g tc te σ Q (Ite1 K a xs) H:=by
 refine comp_by Pv hn h0 (fun i ys σ H hi p=>⟨hi,hl i ys σ H (Nat.le_of_lt hi) p⟩) (fun ys σ H p=>⟨rfl,hl _ ys σ H (Nat.le_refl _) p⟩) hlen (fun i ys σ H x H2 R hi p y r=>?_) hd
 obtain ⟨t,v,ht,rfl,hv,rfl⟩:=y
 exact hs i ys σ H t v R hv p ht r
end L2
namespace Sw
open PySem L2
def spExbW:Sp:=fun vs H Q _=>∃ (l m:Addr) (ws us:List V) (Ls Ms:List (List Int)) (n:Int),vs=[.ref l,.ref m]∧H l=some (.lst ws)∧Lsts H ws Ls∧H m=some (.lst us)∧Lsts H us Ms∧Cov n Ls∧Cov n Ms∧1≤n∧n≤12∧∀ t H',Same H H'→Q (.ref t) H'
def spRocX (C:Addr) : Sp:=fun vs H Q E=>∃ (q:Addr) (as:List Addr) (uss:List (List V)) (SS:List (List (List Int))),vs=[.ref q]∧H q=some (.lst (as.map V.ref))∧Shs H as uss SS∧FewS SS∧(∀ S∈SS,∃ m:Int,1≤m∧m≤12∧Cov m S)∧(ChG SS→∀ l H',Same H H'→Q (.ref l) H')∧(¬ ChG SS→∀ H',Same H H'→E (.ref C) none H')
structure TExbW (P:Program) (w:World) (K:PySem.W.Frag) (mg:Str→Option Value) (base:Heap) : Prop extends T1 mg K where
 b_enumerate:mg "enumerate" = none
 f_order_by:FnAt P w K mg base "order_by" 5 ["sharing"] spOby
 f_back:FnAt P w K mg base "back" 1 ["order"] (spBack K)
 f_then:FnAt P w K mg base "then" 1 ["one", "other"] spThen
structure TRocX (P:Program) (w:World) (K:PySem.W.Frag) (mg:Str→Option Value) (base:Heap) (C:Addr) : Prop extends T1 mg K where
 b_zip:mg "zip" = none
 f_is_chain:FnAt P w K mg base "is_chain" 4 ["chain"] spIscG
 f_exchange_between:FnAt P w K mg base "exchange_between" 6 ["one", "other"] spExbW
 c_NoChain:mg "NoChain" = some (.ref C)
 x_NoChain:ExcC K C
section
variable {P:Program} {w:World} {K:PySem.W.Frag} {mg:Str→Option Value} {base:Heap} {C:Addr}
theorem sc_exchange_between:FnScope ["one", "other", "change"] ["one", "other"] (defScope (top 39)):=⟨rfl,rfl,rfl,by decide +kernel,rfl,by decide +kernel,by decide +kernel⟩
theorem ok_exbW {f:Addr} {fd:FuncData} (F:Fun K "exchange_between" "exchange_between" (top 39) f fd) (T:TExbW P w K mg base) : FnOk P w K mg base CX0 6 f fd ["one", "other"] spExbW:=by
 refine F.ok sc_exchange_between (fun vs H Q E h=>?_) (fun cdv A outer s H vs Q E hr h=>?_)
 ·obtain ⟨l,m,ws,us,Ls,Ms,n,rfl,_⟩:=h
  rfl
 ·obtain ⟨l,m,ws,us,Ls,Ms,n,rfl,hl,xl,hm,xm,cL,cM,n1,n12,k⟩:=h
  refine ⟨_,(pss_cons (ps_set (i:=2) sc_exchange_between.nd rfl (Or.inl rfl) (pe_callF T.f_then (hr.mono (by first | decide | omega)) rfl (pa_cons (pe_callF T.f_back (hr.mono (by first | decide | omega)) rfl (pa_cons (pe_callF T.f_order_by (hr.mono (by first | decide | omega)) rfl (pa_cons (pv 0) pa_nil)) pa_nil)) (pa_cons (pe_callF T.f_order_by (hr.mono (by first | decide | omega)) rfl (pa_cons (pv 1) pa_nil)) pa_nil))))
   (pss_one (ps_ret (pe_callTy (call_tuple_ofK (K:=K) rfl) rfl T.b_tuple (by decide +kernel) (pa_cons (pe_comp (N:=(["thing", "led_to"] : List Str)) (ix:=([none,none] : List (Option Nat))) (comp_ok rfl rfl) rfl (pi_enum1 rfl T.b_enumerate (pa_cons (pv 2) pa_nil)) (fun _ _ _ _=>(pg_tupK (K:=K) (n:=2) rfl rfl (pgs_cons (pg_name (i:=0) (show List.Nodup (["thing", "led_to"] : List Str) from by decide +kernel) rfl (Or.inl rfl)) (pgs_cons (pg_name (i:=1) (show List.Nodup (["thing", "led_to"] : List Str) from by decide +kernel) rfl (Or.inl rfl)) pgs_nil)))) (fun _ _ _ _=>(pif_one (pt_cmpR op_ne (pv 0) (pv 1) (nomark _)))) (fun _ _ _ _=>(pv 0))) pa_nil))))),?_⟩
  have oL:=made_ord cL
  have oM:=made_ord cM
  have olL:=oL.length
  have olM:=oM.length
  refine ⟨_,rfl,l,ws,Ls,n,rfl,hl,xl,cL,n1,n12,fun t1 H1 ft1 ht1 s1=>?_⟩
  refine ⟨t1,_,rfl,SqT.of ht1,by omega,fun x hx=>by have:=oL.mem.mp hx; omega,fun t2 H2 ft2 ht2 s2=>?_⟩
  have a2:=s1.trans s2
  refine ⟨_,rfl,m,us,Ms,n,rfl,a2 _ _ hm,xm.keep a2,cM,n1,n12,fun t3 H3 ft3 ht3 s3=>?_⟩
  refine ⟨t2,t3,_,_,rfl,s3 _ _ ht2,ht3,by rw [back_length]; omega,by omega,fun x hx=>by have:=back_mem oL x hx; omega,fun t4 H4 ft4 ht4 s4=>?_⟩
  have a4:=a2.trans (s3.trans s4)
  have tl:(thenM (backM (madeM n Ls)) (madeM n Ms)).length≤1000:=by unfold thenM; rw [List.length_map,back_length]; omega
  generalize thenM (backM (madeM n Ls)) (madeM n Ms)=zs at ht4 tl
  refine ⟨_,rfl,t4,_,rfl,SqT.of ht4,compE1if (K:=K) (a:=t4) (xs:=zs.map V.int) (fun i ys σ' H'=>ys.length≤i∧(∃ v0 v1,σ'=[v0,v1])∧Same H4 H') (by rw [List.length_map]; omega) ⟨Nat.zero_le _,⟨none,none,rfl⟩,Same.refl _⟩ (fun i ys σ' H' _ z=>SqT.of (z.2.2 _ _ ht4)) (fun i ys σ' H' z=>z.1) ?_ ?_⟩
  ·rintro i ys σ' H5 tt v R hv ⟨yl,⟨v0,v1,rfl⟩,s5⟩ ftt done
   obtain ⟨y,rfl,hy⟩:=mem_int hv
   have st:Same H5 (upd H5 tt (.tup [.int ((i:Int)+1),.int y])):=Same.new ftt
   refine ⟨tt,_,rfl,SqT.of upd_same,rfl,_,_,rfl,_,_,rfl,rfl,?_⟩
   generalize upd H5 tt (.tup [.int ((i:Int)+1),.int y])=H6 at st ⊢
   refine ⟨_,rfl,_,rfl,rfl,_,rfl,ite2 (fun c=>?_) (fun c=>?_)⟩
   ·exact ⟨_,rfl,done _ _ _ ⟨by rw [List.length_append]; show _+1≤_; omega,⟨_,_,rfl⟩,s5.trans st⟩⟩
   ·exact done _ _ _ ⟨by omega,⟨_,_,rfl⟩,s5.trans st⟩
  ·rintro ys σ' H5 q ⟨yl,_,s5⟩ fq
   refine ⟨q,_,rfl,.inl ⟨SqL.of upd_same,fun t ft=>?_⟩⟩
   exact k t _ (a4.trans (s5.trans ((Same.new fq).trans (Same.new ft))))
theorem sc_row_of_chain:FnScope ["sharings"] ["sharings"] (defScope (top 40)):=⟨rfl,rfl,rfl,by decide +kernel,rfl,by decide +kernel,by decide +kernel⟩
theorem ok_rocX {f:Addr} {fd:FuncData} (F:Fun K "row_of_chain" "row_of_chain" (top 40) f fd) (T:TRocX P w K mg base C) : FnOk P w K mg base (CX1 P w) 7 f fd ["sharings"] (spRocX C):=by
 refine F.okX sc_row_of_chain (fun vs H Q E h=>?_) (fun cdv A outer s H vs Q E hr h=>?_)
 ·obtain ⟨q,as,uss,SS,rfl,_⟩:=h
  rfl
 ·obtain ⟨q,as,uss,SS,rfl,hq,x,few,cvs,kQ,kE⟩:=h
  refine ⟨_,(pss_cons (ps_if (pt_not (pt_val (pe_callF T.f_is_chain (hr.mono (by first | decide | omega)) rfl (pa_cons (pv 0) pa_nil)))) (pss_one (ps_raise lvs1 T.x_NoChain rfl rfl T.c_NoChain (pa_cons pe_str pa_nil))) pss_nil)
   (pss_one (ps_ret (pe_comp (N:=(["one", "other"] : List Str)) (ix:=([none,none] : List (Option Nat))) (comp_ok rfl rfl) rfl (pi_zip (K:=K) rfl rfl T.b_zip (pa_cons (pv 0) (pa_cons (pe_slice (sl_listK (K:=K) rfl) (pv 0) (po_some pe_int) po_none) pa_nil))) (fun _ _ _ _=>(pg_tupK (K:=K) (n:=2) rfl rfl (pgs_cons (pg_name (i:=0) (show List.Nodup (["one", "other"] : List Str) from by decide +kernel) rfl (Or.inl rfl)) (pgs_cons (pg_name (i:=1) (show List.Nodup (["one", "other"] : List Str) from by decide +kernel) rfl (Or.inl rfl)) pgs_nil)))) (fun _ _ _ _=>pif_nil) (fun _ _ _ _=>(pe_callF T.f_exchange_between (hr.mono (by first | decide | omega)) rfl (pa_cons (pv 0) (pa_cons (pv 1) pa_nil)))))))),?_⟩
  have al:=x.1
  have ul:=x.2.1
  have fl:=few.1
  have asl:(as.map V.ref).length=SS.length:=by rw [List.length_map,al]
  refine ⟨_,rfl,q,as,uss,SS,rfl,hq,x,few,fun b H1 hb s1=>⟨_,rfl,?_⟩⟩
  cases b with
  | false=>exact iteT ⟨(by show 1≤sizeLine; decide),kE (fun z=>by rw [← hb] at z; cases z) H1 s1⟩
  | true =>
  refine iteF ?_
  have ch:=hb.mp rfl
  have k:=kQ ch
  have lp:=List.length_pos_iff.mpr ch.ne
  obtain ⟨n,n1,n12,cvn⟩ : ∃ n:Int,1≤n∧n≤12∧∀ S∈SS,Cov n S:=by
   have m0:SS.getD 0 []∈SS:=by rw [List.getD_eq_getElem?_getD,List.getElem?_eq_getElem lp]; exact List.getElem_mem lp
   obtain ⟨n,n1,n12,c0⟩:=cvs _ m0
   refine ⟨n,n1,n12,fun S hS=>?_⟩
   obtain ⟨m,m1,m12,c⟩:=cvs S hS
   have:=ch.many S hS
   rw [c.many (by omega),c0.many (by omega)] at this
   rw [← this]; exact c
  have hq1:=s1 _ _ hq
  refine ⟨_,rfl,_,rfl,?_⟩
  dsimp only [tNoPart]
  refine ⟨_,rfl,q,_,rfl,SqL.of hq1,fun qd fqd=>?_⟩
  have cd:cutV (as.map V.ref) (some 1) none=(as.map V.ref).drop 1:=cutD9 (by decide) (by omega)
  have s4:Same H1 (upd H1 qd (.lst (cutV (as.map V.ref) (some 1) none))):=Same.new fqd
  have hqd:upd H1 qd (.lst (cutV (as.map V.ref) (some 1) none)) qd=some (.lst ((as.map V.ref).drop 1)):=by rw [upd_same,cd]
  generalize upd H1 qd (.lst (cutV (as.map V.ref) (some 1) none))=H4 at s4 hqd ⊢
  have a4:=s1.trans s4
  have dl:((as.map V.ref).drop 1).length=SS.length - 1:=by rw [List.length_drop,asl]
  have x4:=x.keep a4
  refine ⟨q,qd,_,_,rfl,SqL.of (a4 _ _ hq),SqL.of hqd,compZ (K:=K) (fun i zs σ' H'=>zs.length≤i∧(∃ v0 v1,σ'=[v0,v1])∧Same H4 H') (by omega) ⟨Nat.zero_le _,⟨none,none,rfl⟩,Same.refl _⟩ (fun i zs σ' H' _ z=>⟨SqL.of ((a4.trans z.2.2) _ _ hq),SqL.of (z.2.2 _ _ hqd)⟩) (fun i zs σ' H' z=>z.1) ?_ ?_ ?_⟩
  ·rintro i zs σ' H5 t v u RR hv hu ⟨zl,⟨w0,w1,rfl⟩,s5⟩ ft done
   rw [drop1_atG] at hu
   rw [List.getElem?_map] at hv hu
   obtain ⟨b1,hb1,rfl⟩:=Option.map_eq_some_iff.mp hv
   obtain ⟨b2,hb2,rfl⟩:=Option.map_eq_some_iff.mp hu
   have hi:=(List.getElem?_eq_some_iff.mp hb2).1
   obtain ⟨us1,hu1⟩ : ∃ us,uss[i]?=some us:=⟨_,List.getElem?_eq_getElem (by omega)⟩
   obtain ⟨us2,hu2⟩ : ∃ us,uss[i+1]?=some us:=⟨_,List.getElem?_eq_getElem (by omega)⟩
   obtain ⟨S1,hS1⟩ : ∃ S,SS[i]?=some S:=⟨_,List.getElem?_eq_getElem (by omega)⟩
   obtain ⟨S2,hS2⟩ : ∃ S,SS[i+1]?=some S:=⟨_,List.getElem?_eq_getElem (by omega)⟩
   have s6:Same H5 (upd H5 t (.tup [.ref b1,.ref b2])):=Same.new ft
   refine ⟨t,_,rfl,SqT.of upd_same,rfl,_,_,rfl,_,_,rfl,rfl,?_⟩
   generalize upd H5 t (.tup [.ref b1,.ref b2])=H6 at s6 ⊢
   obtain ⟨g1,g2⟩:=(x4.keep (s5.trans s6)).2.2 i b1 us1 S1 hb1 hu1 hS1
   obtain ⟨g3,g4⟩:=(x4.keep (s5.trans s6)).2.2 (i+1) b2 us2 S2 hb2 hu2 hS2
   exact ⟨_,rfl,_,rfl,b1,b2,us1,us2,S1,S2,n,rfl,g1,g2,g3,g4,cvn S1 (List.mem_of_getElem? hS1),cvn S2 (List.mem_of_getElem? hS2),n1,n12,fun t7 H7 s7=>done _ _ _ ⟨by rw [List.length_append]; show _+1≤_; omega,⟨_,_,rfl⟩,s5.trans (s6.trans s7)⟩⟩
  ·intro x σ H R R' m q
   obtain ⟨a,xs,e1,h,hl,v,vs,e2,v',vs',e3,e4,q⟩:=q
   exact ⟨a,xs,e1,h,hl,v,vs,e2,v',vs',e3,e4,m _ _ q⟩
  ·rintro zs σ' H5 r2 ⟨zl,_,s5⟩ fr2
   exact k r2 _ (a4.trans (s5.trans (Same.new fr2)))
end
end Sw
namespace Sw
open PySem L2
theorem copySS {K:PySem.W.Frag} {σ : St} {H:Hp} {q:Addr} {as:List Addr} {uss:List (List V)} {SS:List (List (List Int))} {Q:VK} (hq:H q=some (.lst (as.map V.ref))) (xq:Shs H as uss SS) (sl:SS.length≤100) (sb : ∀ S∈SS,S.length≤100)
  (k : ∀ q' as' uss' H',H q'=none→H' q'=some (.lst (as'.map V.ref))→Shs H' as' uss' SS→(∀ a∈as',H a=none)→(∀ v∈uss'.flatten,∃ b,v=.ref b∧H b=none)→Same H H'→Q (.ref q') H') :
  rComp [none] (gName 0) tTrue (tComp [none] (iList K (tVar 0)) (gName 0) tTrue (tCB (fun xs H Q=>∃ p ys,xs=[V.ref p]∧(SqL K H p ys∨SqT K H p ys)∧∀ (l:Addr),H l=none→Q (V.ref l) (upd H l (HO.lst ys))) (tCons (tVar 0) tNil))) σ Q (Itl K q) H:=by
 have al:=xq.1
 refine compL (K:=K) (a:=q) (xs:=as.map V.ref) (k:=0) (fun i ys σ' H'=>(∃ as' uss',ys=as'.map V.ref∧Shs H' as' uss' (SS.take i)∧(∀ a∈as',H a=none)∧∀ v∈uss'.flatten,∃ b,v=.ref b∧H b=none)∧(∃ v,σ'=[v])∧Same H H') (by rw [List.length_map]; omega) ⟨⟨[],[],rfl,Shs.nil,(fun a h=>nomatch h),(fun v h=>nomatch h)⟩,⟨none,rfl⟩,Same.refl _⟩ (fun i ys σ' H' _ z=>SqL.of (z.2.2 _ _ hq)) (fun i ys σ' H' z=>by obtain ⟨⟨as',uss',e,x,_⟩,_⟩:=z; have:=x.1; rw [e,List.length_map,this,List.length_take]; omega) ?_ ?_
 ·rintro i ys σ' H1 x R hx ⟨⟨as',uss',rfl,x1,fa,fv⟩,⟨v,rfl⟩,s1⟩ done
  rw [List.getElem?_map] at hx
  obtain ⟨a,ha,rfl⟩:=Option.map_eq_some_iff.mp hx
  have hi:=(List.getElem?_eq_some_iff.mp ha).1
  obtain ⟨us,hus⟩ : ∃ us,uss[i]?=some us:=⟨_,List.getElem?_eq_getElem (by have:=xq.2.1; omega)⟩
  obtain ⟨S,hS⟩ : ∃ S,SS[i]?=some S:=⟨_,List.getElem?_eq_getElem (by omega)⟩
  obtain ⟨h1,h2⟩:=(xq.keep s1).2.2 i a us S ha hus hS
  have Sl:=sb S (List.mem_of_getElem? hS)
  have ul:=h2.length
  refine ⟨_,rfl,a,rfl,⟨_,SqL.of h1⟩,compL (K:=K) (a:=a) (xs:=us) (k:=0) (fun j zs σ' H'=>Lsts H' zs (S.take j)∧(∀ v∈zs,∃ b,v=.ref b∧H b=none)∧(∃ v,σ'=[v])∧Same H1 H') (by omega) ⟨.nil,(fun v h=>nomatch h),⟨none,rfl⟩,Same.refl _⟩ (fun j zs σ' H' _ z=>SqL.of (z.2.2.2 _ _ h1)) (fun j zs σ' H' z=>by have:=z.1.length; rw [List.length_take] at this; omega) ?_ ?_⟩
  ·rintro j zs σ' H2 y R' hy ⟨xz,fz,⟨v,rfl⟩,s2⟩ d2
   obtain ⟨b,L,rfl,hb,hL⟩:=(h2.keep s2).get hy
   refine ⟨_,rfl,b,_,rfl,.inl (SqL.of hb),fun lc flc=>d2 _ _ _ ⟨?_,fun v hv=>?_,⟨_,rfl⟩,s2.trans (Same.new flc)⟩⟩
   ·rw [take_snoc hL]
    exact (xz.keep (Same.new flc)).snoc upd_same
   ·rcases List.mem_append.mp hv with hv | hv
    ·exact fz v hv
    ·exact ⟨lc,List.mem_singleton.mp hv,(s1.trans s2).free flc⟩
  ·rintro zs σ' H2 q2 ⟨xz,fz,_,s2⟩ fq2
   rw [List.take_of_length_le (by omega)] at xz
   have s3:Same H2 (upd H2 q2 (.lst zs)):=Same.new fq2
   refine done _ _ _ ⟨⟨as'++[q2],uss'++[zs],by rw [List.map_append]; rfl,?_,fun a ha=>?_,fun v hv=>?_⟩,⟨_,rfl⟩,s1.trans (s2.trans s3)⟩
   ·rw [take_snoc hS]
    exact (x1.keep (s2.trans s3)).snoc upd_same (xz.keep s3)
   ·rcases List.mem_append.mp ha with ha | ha
    ·exact fa a ha
    ·rw [List.mem_singleton.mp ha]; exact (s1.trans s2).free fq2
   ·rw [List.flatten_append] at hv
    rcases List.mem_append.mp hv with hv | hv
    ·exact fv v hv
    ·exact fz v (by simpa using hv)
 ·rintro ys σ' H1 q2 ⟨⟨as',uss',rfl,x1,fa,fv⟩,_,s1⟩ fq2
  rw [List.length_map,List.take_of_length_le (by omega)] at x1
  exact k q2 as' uss' _ (s1.free fq2) upd_same (x1.keep (Same.new fq2)) fa fv (s1.trans (Same.new fq2))
end Sw
namespace Sw
open PySem L2
def spCell (K:PySem.W.Frag) : Sp:=fun vs H Q _=>∃ (a:Addr) (ns:List Int) (i:Int),vs=[.ref a,.int i]∧SqL K H a (ns.map V.int)∧0≤i∧i≤1000∧∀ z:Int,Q (.int z) H
def spNum (K:PySem.W.Frag) : Sp:=fun vs H Q _=>∃ (a:Addr) (ns:List Int) (i:Int),vs=[.ref a,.int i]∧SqL K H a (ns.map V.int)∧0≤i∧i≤1000∧∀ z:Int,0≤z→Q (.int z) H
def spSize:Sp:=fun vs H Q _=>∃ (z:Int),vs=[.int z]∧0≤z∧∀ n H',1≤n→n≤12→Same H H'→Q (.int n) H'
structure TNm (P:Program) (w:World) (K:PySem.W.Frag) (mg:Str→Option Value) (base:Heap) : Prop extends T1 mg K where
 f__law_cell:FnAt P w K mg base "_law_cell" 1 ["_law_script", "_law_k"] (spCell K)
section
variable {P:Program} {w:World} {K:PySem.W.Frag} {mg:Str→Option Value} {base:Heap}
theorem sc__law_cell:FnScope ["_law_script", "_law_k"] ["_law_script", "_law_k"] (defScope (top 42)):=⟨rfl,rfl,rfl,by decide +kernel,rfl,by decide +kernel,by decide +kernel⟩
theorem ok_cell {f:Addr} {fd:FuncData} (F:Fun K "_law_cell" "_law_cell" (top 42) f fd) (T:T1 mg K) : FnOk P w K mg base CX0 1 f fd ["_law_script", "_law_k"] (spCell K):=by
 refine F.ok sc__law_cell (fun vs H Q E h=>?_) (fun cdv A outer s H vs Q E hr h=>?_)
 ·obtain ⟨a,ns,i,rfl,_⟩:=h
  rfl
 ·obtain ⟨a,ns,i,rfl,hs,i0,i1,k⟩:=h
  refine ⟨_,(pss_cons (ps_if (pt_cmpR op_lt (pv 1) (pe_callB (call_lenK (K:=K) rfl) rfl T.b_len (by decide +kernel) (pa_cons (pv 0) pa_nil)) (nomark _)) (pss_one (ps_ret (pe_ix (ix_listK (K:=K) rfl) (pv 0) (pv 1) (fun _ _=>rfl)))) pss_nil)
   (pss_one (ps_ret pe_int))),?_⟩
  refine ⟨_,rfl,_,rfl,a,_,rfl,.inl hs,_,_,rfl,rfl,_,rfl,ite2 (fun c=>?_) (fun c=>?_)⟩
  ·have c:i<((ns.map V.int).length:Int):=of_decide_eq_true c
   rw [List.length_map] at c
   obtain ⟨z,hz⟩:=get_lt (ns:=ns) (k:=i.toNat) (by omega)
   exact ⟨_,rfl,_,rfl,a,_,_,_,rfl,rfl,hs,at_int i0 hz,k z⟩
  ·exact k 0
theorem sc__law_number:FnScope ["_law_script", "_law_k", "_law_cell_here", "_law_one"] ["_law_script", "_law_k"] (defScope (top 43)):=⟨rfl,rfl,rfl,by decide +kernel,rfl,by decide +kernel,by decide +kernel⟩
theorem ok_number {f:Addr} {fd:FuncData} (F:Fun K "_law_number" "_law_number" (top 43) f fd) (T:TNm P w K mg base) : FnOk P w K mg base CX0 2 f fd ["_law_script", "_law_k"] (spNum K):=by
 refine F.ok sc__law_number (fun vs H Q E h=>?_) (fun cdv A outer s H vs Q E hr h=>?_)
 ·obtain ⟨a,ns,i,rfl,_⟩:=h
  rfl
 ·obtain ⟨a,ns,i,rfl,hs,i0,i1,k⟩:=h
  refine ⟨_,(pss_cons (ps_set (i:=2) sc__law_number.nd rfl (Or.inl rfl) (pe_callF T.f__law_cell (hr.mono (by first | decide | omega)) rfl (pa_cons (pv 0) (pa_cons (pv 1) pa_nil))))
   (pss_cons (ps_if (pt_cmpR op_ge (pe_callB call_abs rfl T.b_abs (by decide +kernel) (pa_cons (pv 2) pa_nil)) (pe_op op_pow pe_int pe_int) (nomark _)) (pss_one (ps_ret (pe_callB call_abs rfl T.b_abs (by decide +kernel) (pa_cons (pv 2) pa_nil)))) pss_nil)
   (pss_cons (ps_set (i:=3) sc__law_number.nd rfl (Or.inl rfl) (pe_op op_add (pe_op op_mod (pv 2) (pe_op op_pow pe_int pe_int)) (pe_op op_mul pe_int (pe_op op_add (pe_op op_add (pe_op op_mul (pv 1) (pv 1)) (pv 1)) pe_int))))
   (pss_cons (ps_set (i:=3) sc__law_number.nd rfl (Or.inl rfl) (pe_op op_mod (pe_op op_mul (pv 3) pe_int) (pe_op op_pow pe_int pe_int)))
   (pss_one (ps_ret (pe_op op_fdivL (pe_op op_powB (pv 3) pe_int) (pe_op op_pow pe_int pe_int)))))))),?_⟩
  have p18:(0:Int)<10 ^ Int.toNat 18:=by decide
  have p37:(0:Int)<10 ^ Int.toNat 37:=by decide
  have p20:(0:Int)<10 ^ Int.toNat 20:=by decide
  have q20:(10:Int) ^ Int.toNat 20<2 ^ 200:=by decide
  refine ⟨_,rfl,_,rfl,a,ns,i,rfl,hs,i0,i1,fun x=>?_⟩
  refine ⟨_,rfl,x,rfl,_,_,rfl,rfl,⟨by decide,by decide,by decide⟩,_,_,rfl,rfl,_,rfl,ite2 (fun _=>?_) (fun _=>?_)⟩
  ·exact ⟨_,rfl,x,rfl,k _ (by split <;> omega)⟩
  ·have ii : 0≤i * i:=Int.mul_nonneg i0 i0
   refine ⟨_,rfl,_,_,rfl,rfl,⟨by decide,by decide,by decide⟩,_,_,rfl,rfl,p18,_,rfl,_,rfl,_,_,rfl,rfl,.inl ⟨by omega,by omega⟩,_,rfl,_,_,rfl,rfl,_,_,rfl,rfl,_,_,rfl,rfl,.inl ⟨by omega,by omega⟩,_,_,rfl,rfl,?_⟩
   refine ⟨_,rfl,_,_,rfl,rfl,.inr ⟨by omega,by omega⟩,_,_,rfl,rfl,⟨by decide,by decide,by decide⟩,_,_,rfl,rfl,p37,?_⟩
   have o0:=Int.emod_nonneg ((x % 10 ^ Int.toNat 18+1442695040888963407 * (i * i+i+1)) * 6364136223846793005) (Int.ne_of_gt p37)
   have o1:=Int.emod_lt_of_pos ((x % 10 ^ Int.toNat 18+1442695040888963407 * (i * i+i+1)) * 6364136223846793005) p37
   have bd : ∀ one:Int,0≤one→one<10 ^ Int.toNat 37→one.natAbs<2 ^ 400:=fun one h0 h1=>by
    have h1:one<10 ^ 37:=h1
    omega
   refine ⟨_,rfl,_,_,rfl,rfl,⟨by decide,by decide,bd _ o0 o1⟩,_,_,rfl,rfl,⟨by decide,by decide,by decide⟩,_,_,rfl,rfl,⟨p20,q20⟩,k _ ?_⟩
   exact Int.ediv_nonneg (Int.pow_nonneg o0) (by decide)
theorem sc__law_size:FnScope ["_law_number_here"] ["_law_number_here"] (defScope (top 48)):=⟨rfl,rfl,rfl,by decide +kernel,rfl,by decide +kernel,by decide +kernel⟩
theorem ok_size {f:Addr} {fd:FuncData} (F:Fun K "_law_size" "_law_size" (top 48) f fd) : FnOk P w K mg base CX0 1 f fd ["_law_number_here"] spSize:=by
 refine F.ok sc__law_size (fun vs H Q E h=>?_) (fun cdv A outer s H vs Q E hr h=>?_)
 ·obtain ⟨z,rfl,_⟩:=h
  rfl
 ·obtain ⟨z,rfl,z0,k⟩:=h
  refine ⟨_,(@pss_one _ _ _ (@ps_ret _ _ _ _ (@pe_ix _ _ _ _ _ _ _ (ix_listK (K:=K) rfl) (@pe_lst _ _ _ _ (@pa_consts _ _ ([1,2,3,4,5,6,7,8,9,10,11,12,12,11,10,9].map V.int) rfl)) (pe_op op_mod (pv 0) pe_int) (fun _ _=>rfl)))),?_⟩
  have p16:(0:Int)<16:=by decide
  have r0:=Int.emod_nonneg z (Int.ne_of_gt p16)
  have r1:=Int.emod_lt_of_pos z p16
  obtain ⟨x,hx⟩:=get_lt (ns:=[1,2,3,4,5,6,7,8,9,10,11,12,12,11,10,9]) (k:=(z % 16).toNat) (by show _<16; omega)
  have hb : 1≤x∧x≤12:=by
   have:=List.mem_of_getElem? hx
   have h : ∀ y∈([1,2,3,4,5,6,7,8,9,10,11,12,12,11,10,9] : List Int),1≤y∧y≤12:=by decide
   exact h x this
  refine ⟨(by show 16≤sizeLine; decide),fun l fl=>⟨_,rfl,_,_,rfl,rfl,p16,l,_,_,_,rfl,rfl,SqL.of upd_same,at_int (ns:=[1,2,3,4,5,6,7,8,9,10,11,12,12,11,10,9]) r0 hx,k x _ hb.1 hb.2 (Same.new fl)⟩⟩
end
end Sw
namespace Sw
open PySem L2
section
variable {P:Program} {w:World} {K:PySem.W.Frag} {mg:Str→Option Value} {base:Heap}
inductive Sgd:Nat→List (List Int)→List Nat→Prop
 | nil:Sgd 0 [] []
 | new {i:Nat} {Ls:List (List Int)} {op:List Nat} : Sgd i Ls op→Sgd (i+1) (Ls++[[(i:Int)+1]]) (op++[Ls.length])
 | add {i:Nat} {Ls:List (List Int)} {op:List Nat} {k j:Nat} {L:List Int} : Sgd i Ls op→op[k]?=some j→Ls[j]?=some L→Sgd (i+1) (Ls.set j (L++[(i:Int)+1])) (op.take (k+1))
theorem Sgd.lt {i:Nat} {Ls:List (List Int)} {op:List Nat} (h:Sgd i Ls op) : (∀ j∈op,j<Ls.length)∧op.length≤i∧Ls.length≤i:=by
 induction h with
 | nil=>exact ⟨by simp,Nat.le_refl _,Nat.le_refl _⟩
 | new h ih =>
  refine ⟨fun j hj=>?_,by rw [List.length_append,List.length_singleton]; omega,by rw [List.length_append,List.length_singleton]; omega⟩
  rw [List.length_append,List.length_singleton]
  rcases List.mem_append.mp hj with hj | hj
  ·have:=ih.1 j hj; omega
  ·rw [List.mem_singleton.mp hj]; omega
 | add h e q ih =>
  refine ⟨fun j hj=>?_,by rw [List.length_take]; omega,by rw [List.length_set]; omega⟩
  rw [List.length_set]
  exact ih.1 j (List.mem_of_mem_take hj)
theorem Sgd.len {i:Nat} {Ls:List (List Int)} {op:List Nat} (h:Sgd i Ls op) : ∀ L∈Ls,L.length≤i:=by
 induction h with
 | nil=>exact fun _ h=>(by cases h)
 | new h ih =>
  intro L hL
  rcases List.mem_append.mp hL with hL | hL
  ·have:=ih L hL; omega
  ·rw [List.mem_singleton.mp hL,List.length_singleton]; omega
 | add h e q ih =>
  intro L hL
  rcases List.mem_or_eq_of_mem_set hL with hL | hL
  ·have:=ih L hL; omega
  ·have:=ih _ (List.mem_of_getElem? q)
   rw [hL,List.length_append,List.length_singleton]; omega
def spSgd:Sp:=fun vs H Q _=>∃ (z n:Int),vs=[.int z,.int n]∧0≤z∧0≤n∧n≤100∧∀ l ws Ls op H',H l=none→H' l=some (.lst ws)→Lsts H' ws Ls→ws.Nodup→(∀ a,V.ref a∈ws→H a=none)→V.ref l∉ws→Sgd n.toNat Ls op→Same H H'→Q (.ref l) H'
theorem sc__law_sharing:FnScope ["_law_number_here", "_law_n", "_law_parts_told", "_law_open_ones", "_law_thing", "_law_way"] ["_law_number_here", "_law_n"] (defScope (top 50)):=⟨rfl,rfl,rfl,by decide +kernel,rfl,by decide +kernel,by decide +kernel⟩
theorem ok_lsharing {f:Addr} {fd:FuncData} (F:Fun K "_law_sharing" "_law_sharing" (top 50) f fd) (T:T1 mg K) : FnOk P w K mg base CX0 1 f fd ["_law_number_here", "_law_n"] spSgd:=by
 refine F.ok sc__law_sharing (fun vs H Q E h=>?_) (fun cdv A outer s H vs Q E hr h=>?_)
 ·obtain ⟨z,n,rfl,_⟩:=h
  rfl
 ·obtain ⟨z,n,rfl,z0,n0,n1,k⟩:=h
  refine ⟨_,(pss_cons (ps_set (i:=2) sc__law_sharing.nd rfl (Or.inl rfl) (pe_lst pa_nil))
   (pss_cons (ps_set (i:=3) sc__law_sharing.nd rfl (Or.inl rfl) (pe_lst pa_nil))
   (pss_cons (ps_for PassesOwn.never rfl (pi_range2 rfl T.b_range (pa_cons pe_int (pa_cons (pe_op op_add (pv 1) pe_int) pa_nil))) (pg_name (i:=4) sc__law_sharing.nd rfl (Or.inl rfl)) (pss_cons (ps_set (i:=5) sc__law_sharing.nd rfl (Or.inl rfl) (pe_op op_mod (pv 0) (pe_op op_add (pe_callB (call_lenK (K:=K) rfl) rfl T.b_len (by decide +kernel) (pa_cons (pv 3) pa_nil)) pe_int)))
   (pss_cons (ps_set (i:=0) sc__law_sharing.nd rfl (Or.inl rfl) (pe_op op_fdivL (pv 0) (pe_op op_add (pe_callB (call_lenK (K:=K) rfl) rfl T.b_len (by decide +kernel) (pa_cons (pv 3) pa_nil)) pe_int)))
   (pss_one (ps_if (pt_cmpR op_ge (pv 5) (pe_callB (call_lenK (K:=K) rfl) rfl T.b_len (by decide +kernel) (pa_cons (pv 3) pa_nil)) (nomark _)) (pss_cons (ps_expr (pe_bmK (K:=K) rfl PySem.F.plainAttrs_list PySem.F.slot_list_append PySem.F.type_list_append mt_append (pv 2) (pa_cons (pe_lst (pa_cons (pv 4) pa_nil)) pa_nil)))
   (pss_one (ps_expr (pe_bmK (K:=K) rfl PySem.F.plainAttrs_list PySem.F.slot_list_append PySem.F.type_list_append mt_append (pv 3) (pa_cons (pe_op op_sub (pe_callB (call_lenK (K:=K) rfl) rfl T.b_len (by decide +kernel) (pa_cons (pv 2) pa_nil)) pe_int) pa_nil))))) (pss_cons (ps_expr (pe_bmK (K:=K) rfl PySem.F.plainAttrs_list PySem.F.slot_list_append PySem.F.type_list_append mt_append (pe_ix (ix_listK (K:=K) rfl) (pv 2) (pe_ix (ix_listK (K:=K) rfl) (pv 3) (pv 5) (fun _ _=>rfl)) (fun _ _=>rfl)) (pa_cons (pv 4) pa_nil)))
   (pss_one (ps_set (i:=3) sc__law_sharing.nd rfl (Or.inl rfl) (pe_slice (sl_listK (K:=K) rfl) (pv 3) po_none (po_some (pe_op op_add (pv 5) pe_int)))))))))))
   (pss_one (ps_ret (pv 2)))))),?_⟩
  have big:(10000000:Nat)≤sizeLine:=by decide
  refine ⟨Nat.zero_le _,fun l hl=>⟨Nat.zero_le _,fun lo hlo=>?_⟩⟩
  have s1:=(Same.new (o:=.lst []) hl)
  have flo:H lo=none:=s1.free hlo
  have nlo:l≠lo:=ne_of_none (upd_same (H:=H) (a:=l) (o:=.lst [])) hlo
  refine ⟨_,rfl,_,_,rfl,rfl,1,n+1,rfl,⟨by decide,by decide,by omega,by omega⟩,?_⟩
  refine for_range (fun i σ H'=>∃ z' ws Ls op o v4 v5,σ=[some (.int z'),some (.int n),some (.ref l),some (.ref o),v4,v5]∧0≤z'∧Same H H'∧H o=none∧H' l=some (.lst ws)∧Lsts H' ws Ls∧ws.Nodup∧(∀ a,V.ref a∈ws→H a=none)∧V.ref l∉ws∧V.ref o∉ws∧l≠o∧H' o=some (.lst ((op.map fun j:Nat=>(j:Int)).map V.int))∧Sgd i Ls op)
   ⟨z,[],[],[],lo,_,_,rfl,z0,s1.trans (Same.new hlo),flo,by rw [upd_ne nlo,upd_same],.nil,List.nodup_nil,fun _ h=>(by cases h),fun h=>(by cases h),fun h=>(by cases h),nlo,upd_same,Sgd.nil⟩ ?_ ?_
  ·rintro i σ H2 hi ⟨z',ws,Ls,op,o,v4,v5,rfl,z0',s2,fo,hL,xl,nd,fr,nl,no,nlo',hO,sg⟩
   obtain ⟨op1,op2,op3⟩:=sg.lt
   have wl:=xl.length
   have ol:((op.map fun j:Nat=>(j:Int)).map V.int).length=op.length:=by rw [List.length_map,List.length_map]
   have mpos:(0:Int)<((((op.map fun j:Nat=>(j:Int)).map V.int).length:Nat) : Int)+2:=by omega
   have m0:=Int.emod_nonneg z' (Int.ne_of_gt mpos)
   have m1:=Int.emod_lt_of_pos z' mpos
   have one1 : 1≤sizeLine:=by decide
   refine ⟨_,rfl,_,rfl,o,_,rfl,.inl (SqL.of hO),_,_,rfl,rfl,_,_,rfl,rfl,mpos,?_⟩
   refine ⟨_,rfl,_,rfl,o,_,rfl,.inl (SqL.of hO),_,_,rfl,rfl,_,_,rfl,rfl,⟨mpos,by omega⟩,?_⟩
   have zz : 0≤z' / ((((op.map fun j:Nat=>(j:Int)).map V.int).length:Nat)+2:Int):=Int.ediv_nonneg z0' (by omega)
   refine ⟨_,rfl,_,rfl,o,_,rfl,.inl (SqL.of hO),_,_,rfl,rfl,_,rfl,ite2 (fun e=>?_) (fun e=>?_)⟩
   ·refine ⟨_,rfl,.inl ⟨rfl,_,SqL.of hL⟩,_,rfl,one1,fun p hp=>?_⟩
    have s3:Same H2 (upd H2 p (.lst [.int (1+(i:Int))])):=Same.new hp
    have hP:upd H2 p (.lst [.int (1+(i:Int))]) p=some (.lst ([1+(i:Int)].map V.int)):=upd_same
    have hL3:=s3 _ _ hL
    have hO3:=s3 _ _ hO
    have xl3:=xl.keep s3
    have fp:H p=none:=s2.free hp
    have npw:V.ref p∉ws:=fun q=>by
     obtain ⟨ns,e⟩:=xl.mem q
     rw [hp] at e; cases e
    have nlp:l≠p:=ne_of_none hL hp
    have nop:o≠p:=ne_of_none hO hp
    have s3:=s2.trans s3
    generalize upd H2 p (.lst [.int (1+(i:Int))])=H3 at s3 hP hL3 hO3 xl3 ⊢
    refine ⟨l,_,_,rfl,rfl,hL3,by omega,?_⟩
    have hO4:upd H3 l (.lst (ws++[.ref p])) o=some (.lst ((op.map fun j:Nat=>(j:Int)).map V.int)):=by rw [upd_ne nlo'.symm]; exact hO3
    have hL4:upd H3 l (.lst (ws++[.ref p])) l=some (.lst (ws++[.ref p])):=upd_same
    refine ⟨_,rfl,.inl ⟨rfl,_,SqL.of hO4⟩,_,rfl,l,_,rfl,.inl (SqL.of hL4),_,_,rfl,rfl,o,_,_,rfl,rfl,hO4,by omega,?_⟩
    have xs:=xl3.snoc hP
    rw [show (1+(i:Int))=(i:Int)+1 from Int.add_comm _ _] at xs
    have nlw:V.ref l∉ws++[V.ref p]:=fun q=>by
     rcases List.mem_append.mp q with q | q
     ·exact nl q
     ·exact nlp (by injection List.mem_singleton.mp q)
    have now:V.ref o∉ws++[V.ref p]:=fun q=>by
     rcases List.mem_append.mp q with q | q
     ·exact no q
     ·exact nop (by injection List.mem_singleton.mp q)
    refine ⟨_,ws++[.ref p],Ls++[[(i:Int)+1]],op++[Ls.length],o,_,_,rfl,zz,Same.put (Same.put s3 hl) fo,fo,?_,(xs.off nlw).off now,?_,?_,nlw,now,nlo',?_,sg.new⟩
    ·rw [upd_ne nlo',upd_same]
    ·exact List.nodup_append.mpr ⟨nd,List.nodup_cons.mpr ⟨by simp,List.nodup_nil⟩,fun x hx y hy e=>npw (by rw [List.mem_singleton.mp hy] at e; rw [← e]; exact hx)⟩
    ·intro a ha
     rcases List.mem_append.mp ha with ha | ha
     ·exact fr a ha
     ·rw [show a=p from by injection List.mem_singleton.mp ha]; exact fp
    ·rw [upd_same,List.map_append,List.map_append,List.length_append,wl]
     congr 3
     show [V.int (((Ls.length+1:Nat) : Int) - 1)]=[V.int (Ls.length:Int)]
     rw [show (((Ls.length+1:Nat) : Int) - 1)=(Ls.length:Int) from by omega]
   ·have e : ¬ ((((op.map fun j:Nat=>(j:Int)).map V.int).length:Int)≤z' % ((((op.map fun j:Nat=>(j:Int)).map V.int).length:Nat)+2:Int)):=by simpa using e
    obtain ⟨j,hj⟩ : ∃ j,op[(z' % ((((op.map fun j:Nat=>(j:Int)).map V.int).length:Nat)+2:Int)).toNat]?=some j:=⟨_,List.getElem?_eq_getElem (by omega)⟩
    have jl:=op1 j (List.mem_of_getElem? hj)
    obtain ⟨x,hx⟩ : ∃ x,ws[j]?=some x:=⟨_,List.getElem?_eq_getElem (by omega)⟩
    obtain ⟨a,L,rfl,hA,hL'⟩:=xl.get hx
    have aw:V.ref a∈ws:=List.mem_of_getElem? hx
    have nla:l≠a:=fun q=>nl (by rw [q]; exact aw)
    have noa:o≠a:=fun q=>no (by rw [q]; exact aw)
    refine ⟨_,rfl,_,rfl,_,rfl,o,_,_,_,rfl,rfl,SqL.of hO,at_int (z:=(j:Int)) m0 (by rw [List.getElem?_map,hj]; rfl),l,_,_,_,rfl,rfl,SqL.of hL,atI_nat hx,.inl ⟨rfl,_,SqL.of hA⟩,_,rfl,a,_,_,rfl,rfl,hA,?_,?_⟩
    ·have:=sg.len _ (List.mem_of_getElem? hL')
     rw [List.length_map]; omega
    have hO3:upd H2 a (.lst (L.map V.int++[.int (1+(i:Int))])) o=some (.lst ((op.map fun j:Nat=>(j:Int)).map V.int)):=by rw [upd_ne noa]; exact hO
    have hL3:upd H2 a (.lst (L.map V.int++[.int (1+(i:Int))])) l=some (.lst ws):=by rw [upd_ne nla]; exact hL
    have ea:L.map V.int++[V.int (1+(i:Int))]=(L++[(i:Int)+1]).map V.int:=by rw [List.map_append,show (1+(i:Int))=(i:Int)+1 from Int.add_comm _ _]; rfl
    have xl3:Lsts (upd H2 a (.lst (L.map V.int++[.int (1+(i:Int))]))) ws (Ls.set j (L++[(i:Int)+1])):=by rw [ea]; exact xl.set nd hx
    have s3:Same H (upd H2 a (.lst (L.map V.int++[.int (1+(i:Int))]))):=Same.put s2 (fr a aw)
    generalize upd H2 a (.lst (L.map V.int++[.int (1+(i:Int))]))=H3 at hO3 hL3 xl3 s3 ⊢
    refine ⟨_,rfl,_,rfl,_,_,rfl,rfl,_,rfl,o,_,rfl,SqL.of hO3,fun p hp=>?_⟩
    have npw:V.ref p∉ws:=fun q=>by
     obtain ⟨ns,e⟩:=xl3.mem q
     rw [hp] at e; cases e
    have nlp:l≠p:=ne_of_none hL3 hp
    have s4:=fun v=>s3.trans (Same.new (o:=.lst v) hp)
    refine ⟨_,ws,Ls.set j (L++[(i:Int)+1]),op.take ((z' % ((((op.map fun j:Nat=>(j:Int)).map V.int).length:Nat)+2:Int)).toNat+1),p,_,_,rfl,zz,s4 _,s3.free hp,?_,xl3.off npw,nd,fr,nl,npw,nlp,?_,sg.add hj hL'⟩
    ·rw [upd_ne nlp]; exact hL3
    ·rw [upd_same]
     show some (HO.lst (cutV ((op.map fun j:Nat=>(j:Int)).map V.int) none (some (_+1))))=_
     rw [cutT9 (by omega) (by omega),List.map_take,List.map_take]
     congr 3
     omega
  ·rintro σ H2 ⟨z',ws,Ls,op,o,v4,v5,rfl,z0',s2,fo,hL,xl,nd,fr,nl,no,nlo',hO,sg⟩
   refine ⟨_,rfl,k l ws Ls op H2 hl hL xl nd fr nl (by rw [show (n+1 - 1)=n from by omega] at sg; exact sg) s2⟩
end
end Sw
namespace Sw
open PySem L2
structure Gs8 (n:Int) (S:List (List Int)) : Prop where
 cv:Cov n S
 srt:S.Pairwise fun a b=>lexB b a=false
theorem len_ones8 : ∀ {S:List (List Int)},(∀ L∈S,L≠[])→S.length=S.flatten.length→∀ L∈S,∃ x,L=[x]
 | [],_,_,L,hL=>by cases hL
 | M :: S,ne,h,L,hL=>by
  have nM:=List.length_pos_iff.mpr (ne M List.mem_cons_self)
  have:=(len_le_flat S fun L hL=>ne L (List.mem_cons_of_mem _ hL)).1
  rw [List.flatten_cons,List.length_append,List.length_cons] at h
  rcases List.mem_cons.mp hL with rfl | hL
  ·match L,nM,h with
   | [x],_,_=>exact ⟨x,rfl⟩
   | _ :: _ :: _,_,h=>rw [List.length_cons,List.length_cons] at h; omega
  ·exact len_ones8 (fun L hL=>ne L (List.mem_cons_of_mem _ hL)) (by omega) L hL
theorem alone_cov8 {n:Int} : Cov n (alone n):=by
 refine ⟨fun L hL=>?_,by rw [alone_flat]⟩
 obtain ⟨x,_,rfl⟩:=List.mem_map.mp hL
 exact List.cons_ne_nil _ _
theorem alone_iff8 {n:Int} (n0 : 0≤n) {S:List (List Int)} (g:Gs8 n S) : S.length=n.toNat↔S=alone n:=by
 have fl:=g.cv.flen n0
 constructor
 ·intro h
  have on:=len_ones8 g.cv.1 (by omega)
  have e:S=S.flatten.map fun x=>[x]:=by
   clear fl h g
   induction S with
   | nil=>rfl
   | cons L S ih =>
    obtain ⟨x,hx⟩:=on L List.mem_cons_self
    rw [List.flatten_cons,List.map_append,← ih fun M hM=>on M (List.mem_cons_of_mem _ hM),hx]
    rfl
  rw [e,alone]
  congr 1
  have srt:=g.srt
  rw [e,List.pairwise_map] at srt
  have nd:S.flatten.Nodup:=g.cv.2.nodup_iff.mpr (ivl_nodup3 n)
  refine rise_uniq ((srt.and nd).imp fun {a b} ⟨h1,h2⟩=>?_) (ivl_riseS 1 (n+1)) fun x=>g.cv.2.mem_iff
  apply Classical.byContradiction
  intro z
  have:lexB [b] [a]=true:=by
   unfold lexB
   have:b<a:=by omega
   have ne : ¬ b=a:=by omega
   simp [this,ne]
  rw [this] at h1
  cases h1
 ·intro h
  rw [h,alone,List.length_map,ivl_length]
  omega
end Sw
namespace L2
open PySem PySem.Spec PyProof.Rows
theorem gNJ {i:Nat} {v:V} {σ : St} {H:Hp} {k:St→Hp→Prop} (h:k (σ.set i (some v)) H) : gName i v σ H k:=h
theorem seq_byJ {t u:TS} {D:Ends} {σ : St} {H:Hp} (R:St→Hp→Prop) (h1 : ∀ D':Ends,(∀ σ' H',R σ' H'→D'.nx σ' H')→t D' σ H) (h2 : ∀ σ' H',R σ' H'→u D σ' H') : tSeq t u D σ H:=h1 _ h2
end L2
namespace Sw
open PySem L2
theorem flat_set {Ls:List (List Int)} {x:Int} : ∀ {j:Nat} {L:List Int},Ls[j]?=some L→(Ls.set j (L++[x])).flatten.Perm (Ls.flatten++[x]):=by
 induction Ls with
 | nil=>intro j L h; cases h
 | cons M r ih =>
  intro j L h
  cases j with
  | zero =>
   cases h
   show ((M++[x]) :: r).flatten.Perm _
   rw [List.flatten_cons,List.flatten_cons,List.append_assoc,List.append_assoc]
   exact List.Perm.append_left _ List.perm_append_comm
  | succ j =>
   rw [List.getElem?_cons_succ] at h
   show (M :: r.set j (L++[x])).flatten.Perm _
   rw [List.flatten_cons,List.flatten_cons,List.append_assoc]
   exact List.Perm.append_left _ (ih h)
theorem ivl_snoc3 (i:Nat) : ivl 1 (((i+1:Nat) : Int)+1)=ivl 1 ((i:Int)+1)++[(i:Int)+1]:=by
 apply List.ext_getElem?
 intro k
 have l1:(ivl 1 ((i:Int)+1)).length=i:=by rw [ivl_length]; omega
 by_cases h:k<i
 ·rw [List.getElem?_append_left (by omega),get_ivl (by omega),get_ivl (by omega)]
 ·by_cases h2:k=i
  ·rw [List.getElem?_append_right (by omega),l1,h2,Nat.sub_self,get_ivl (by omega)]
   show some (1+(i:Int))=some ((i:Int)+1)
   rw [Int.add_comm]
  ·rw [List.getElem?_eq_none (by rw [ivl_length]; omega),List.getElem?_eq_none (by rw [List.length_append,l1,List.length_singleton]; omega)]
theorem Sgd.cov {i:Nat} {Ls:List (List Int)} {op:List Nat} (h:Sgd i Ls op) : Cov (i:Int) Ls:=by
 induction h with
 | nil=>exact ⟨fun _ h=>(by cases h),List.Perm.of_eq rfl⟩
 | @new i Ls op h ih =>
  refine ⟨fun L hL=>?_,?_⟩
  ·rcases List.mem_append.mp hL with q | q
   ·exact ih.1 L q
   ·rw [List.mem_singleton.mp q]; exact List.cons_ne_nil _ _
  ·rw [List.flatten_append,ivl_snoc3]
   exact List.Perm.append_right _ ih.2
 | @add i Ls op k j L h e q ih =>
  refine ⟨fun M hM=>?_,?_⟩
  ·rcases List.mem_or_eq_of_mem_set hM with g | g
   ·exact ih.1 M g
   ·rw [g]; exact fun e=>by cases (List.append_eq_nil_iff.mp e).2
  ·rw [ivl_snoc3]
   exact (flat_set q).trans (List.Perm.append_right _ ih.2)
structure SgI (i:Nat) (Ls:List (List Int)) (op:List Nat) : Prop where
 rise : ∀ L∈Ls,L.Pairwise (· < ·)
 nonx : ∀ (p q:Nat) (L M:List Int),Ls[p]?=some L→Ls[q]?=some M→∀ a b c d,a∈L→c∈L→b∈M→d∈M→a<b→b<c→c<d→p=q
 free : ∀ j∈op,∀ (p:Nat) (L M:List Int),Ls[p]?=some L→Ls[j]?=some M→∀ a b c,a∈L→c∈L→b∈M→a<b→b<c→p=j
 up : ∀ (s t j k:Nat) (L M:List Int),s<t→op[s]?=some j→op[t]?=some k→Ls[j]?=some L→Ls[k]?=some M→∀ x∈L,∀ y∈M,x<y
end Sw
namespace L2
open PySem
mutual
theorem DT.imp {H:Hp} {P R:Addr→Prop} (k : ∀ a,P a→R a) : ∀ {v:V} {d:PyData},DT H P v d→DT H R v d
 | _,_,.non=>.non
 | _,_,.bl b=>.bl b
 | _,_,.int i=>.int i
 | _,_,.str x=>.str x
 | _,_,.lst h p r=>.lst h (k _ p) (DTs.imp k r)
 | _,_,.tup h p r=>.tup h (k _ p) (DTs.imp k r)
theorem DTs.imp {H:Hp} {P R:Addr→Prop} (k : ∀ a,P a→R a) : ∀ {vs:List V} {ds:List PyData},DTs H P vs ds→DTs H R vs ds
 | _,_,.nil=>.nil
 | _,_,.cons h r=>.cons (DT.imp k h) (DTs.imp k r)
end
mutual
theorem DT.alive {H:Hp} {P:Addr→Prop} : ∀ {v:V} {d:PyData},DT H P v d→DT H (fun b=>P b∧H b≠none) v d
 | _,_,.non=>.non
 | _,_,.bl b=>.bl b
 | _,_,.int i=>.int i
 | _,_,.str x=>.str x
 | _,_,.lst h p r=>.lst h ⟨p,by rw [h]; intro z; cases z⟩ (DTs.alive r)
 | _,_,.tup h p r=>.tup h ⟨p,by rw [h]; intro z; cases z⟩ (DTs.alive r)
theorem DTs.alive {H:Hp} {P:Addr→Prop} : ∀ {vs:List V} {ds:List PyData},DTs H P vs ds→DTs H (fun b=>P b∧H b≠none) vs ds
 | _,_,.nil=>.nil
 | _,_,.cons h r=>.cons (DT.alive h) (DTs.alive r)
end
theorem DTs.setP {H:Hp} {P:Addr→Prop} : ∀ {us:List V} {ds:List PyData} (i:Nat) {v:V} {d:PyData},DTs H P us ds→DT H P v d→DTs H P (us.set i v) (ds.set i d)
 | _,_,_,_,_,.nil,_=>.nil
 | _,_,0,_,_,.cons _ r,h=>.cons h r
 | _,_,i+1,_,_,.cons g r,h=>.cons g (r.setP i h)
theorem DTs.eraseP {H:Hp} {P:Addr→Prop} : ∀ {us:List V} {ds:List PyData} (i:Nat),DTs H P us ds→DTs H P (us.eraseIdx i) (ds.eraseIdx i)
 | _,_,_,.nil=>.nil
 | _,_,0,.cons _ r=>r
 | _,_,i+1,.cons g r=>.cons g (r.eraseP i)
theorem at_refI {ws:List V} {i:Int} {v:V} (h0 : 0≤i) (h:ws[i.toNat]?=some v) : atI ws i=some v:=by
 have:=atI_nat h
 rwa [Int.toNat_of_nonneg h0] at this
theorem cutDg {xs:List V} {a:Int} (h0 : 0≤a) : cutV xs (some a) none=xs.drop a.toNat:=by
 by_cases h:a≤xs.length
 ·exact Sw.cutD9 h0 h
 ·have e2:HT.sIx xs.length xs.length none=xs.length:=rfl
  unfold cutV
  rw [Sw.sIx_in h0,e2,Nat.min_eq_right (by omega),List.drop_length,List.take_nil,List.drop_eq_nil_of_le (by omega)]
end L2
namespace Sw
open PySem L2
theorem lex_head {a b:List Int} {x y:Int} (ha:a[0]?=some x) (hb:b[0]?=some y) (xy:x<y) : lexB b a=false:=by
 cases a with
 | nil=>cases ha
 | cons p a =>
  cases b with
  | nil=>cases hb
  | cons q b =>
   cases ha; cases hb
   show (if y=x then lexB b a else decide (y<x))=false
   rw [if_neg (by omega),decide_eq_false (by omega)]
theorem shg_lex {n:Int} {Ls:List (List Int)} {hs:List Int} (s:Shg n Ls hs) : Ls.Pairwise fun a b=>lexB b a=false:=by
 rw [List.pairwise_iff_getElem]
 intro i j hi hj ij
 have hl:=s.hl
 have up:=List.pairwise_iff_getElem.mp s.hup i j (by omega) (by omega) ij
 exact lex_head (s.head i _ _ (List.getElem?_eq_getElem hi) (List.getElem?_eq_getElem (by omega))) (s.head j _ _ (List.getElem?_eq_getElem hj) (List.getElem?_eq_getElem (by omega))) up
end Sw
namespace Sw
open PySem L2
def shE (Ls:List (List Int)) : PyData:=.list (Ls.map fun L=>.list (L.map PyData.int))
theorem dts_ints8 {H:Hp} {P:Addr→Prop} : ∀ {ns:List Int} {us:List V},DTs H P us (ns.map PyData.int)→us=ns.map V.int
 | [],us,h=>by cases h; rfl
 | n :: r,us,h=>by
  cases h with
  | cons h1 h2 =>
   cases h1
   rw [dts_ints8 h2]
   rfl
theorem lsts_of8 {H:Hp} {P:Addr→Prop} : ∀ {us:List V} {Ls:List (List Int)},DTs H P us (Ls.map fun L=>PyData.list (L.map PyData.int))→Lsts H us Ls
 | us,[],h=>by cases h; exact .nil
 | us,L :: Ls,h=>by
  cases h with
  | cons h1 h2 =>
   cases h1 with
   | lst ha pa r =>
    have:=dts_ints8 r
    subst this
    exact .cons ha (lsts_of8 h2)
theorem shs_of8 {H:Hp} {P:Addr→Prop} : ∀ {vs:List V} {SS:List (List (List Int))},DTs H P vs (SS.map shE)→∃ (as:List Addr) (uss:List (List V)),vs=as.map V.ref∧Shs H as uss SS
 | vs,[],h=>by cases h; exact ⟨[],[],rfl,Shs.nil⟩
 | vs,S :: SS,h=>by
  cases h with
  | cons h1 h2 =>
   obtain ⟨as,uss,e,x⟩:=shs_of8 h2
   cases h1 with
   | @lst a us _ ha pa rs =>
    have xl:=lsts_of8 rs
    refine ⟨a :: as,us :: uss,by rw [e]; rfl,by have:=x.1; simp; omega,by have:=x.2.1; simp; omega,fun i b vs T e1 e2 e3=>?_⟩
    cases i with
    | zero=>cases e1; cases e2; cases e3; exact ⟨ha,xl⟩
    | succ i=>exact x.2.2 i b vs T e1 e2 e3
theorem Lsts.dts8 {H:Hp} {P:Addr→Prop} : ∀ {vs:List V} {Ls:List (List Int)},Lsts H vs Ls→(∀ a,V.ref a∈vs→P a)→DTs H P vs (Ls.map fun L=>PyData.list (L.map PyData.int))
 | _,_,.nil,_=>.nil
 | _,_,.cons h x,hP=>.cons (.lst h (hP _ List.mem_cons_self) (DTs.ints _)) (x.dts8 fun a ha=>hP a (List.mem_cons_of_mem _ ha))
theorem Shs.dts8 {H:Hp} {P:Addr→Prop} : ∀ {as:List Addr} {uss:List (List V)} {SS:List (List (List Int))},Shs H as uss SS→(∀ a o,H a=some o→P a)→DTs H P (as.map V.ref) (SS.map shE)
 | [],_,[],_,_=>.nil
 | [],_,S :: SS,x,_=>absurd x.1 (by simp)
 | a :: as,_,[],x,_=>absurd x.1 (by simp)
 | a :: as,[],S :: SS,x,_=>absurd x.2.1 (by simp)
 | a :: as,us :: uss,S :: SS,x,hP=>by
  obtain ⟨h1,h2⟩:=x.2.2 0 a us S rfl rfl rfl
  refine .cons (.lst h1 (hP _ _ h1) (h2.dts8 fun b hb=>?_)) (Shs.dts8 (uss:=uss) ⟨by have:=x.1; simpa using this,by have:=x.2.1; simpa using this,fun i b vs T e1 e2 e3=>x.2.2 (i+1) b vs T e1 e2 e3⟩ hP)
  obtain ⟨ns,e⟩:=h2.mem hb
  exact hP _ _ e
theorem DTs.rev8 {H:Hp} {P:Addr→Prop} : ∀ {us:List V} {ds:List PyData},DTs H P us ds→DTs H P us.reverse ds.reverse
 | _,_,.nil=>.nil
 | _,_,.cons h r=>by rw [List.reverse_cons,List.reverse_cons]; exact (DTs.rev8 r).append (.cons h .nil)
theorem upd_upd8 {H:Hp} {a:Addr} {o o':HO} : upd (upd H a o) a o'=upd H a o':=by
 funext b
 by_cases h:b=a
 ·subst h; rw [upd_same,upd_same]
 ·rw [upd_ne h,upd_ne h,upd_ne h]
theorem er_map8 {α β : Type} (f : α→β) : ∀ (l:List α) (i:Nat),(l.map f).eraseIdx i=(l.eraseIdx i).map f
 | [],_=>rfl
 | _ :: _,0=>rfl
 | a :: l,i+1=>by rw [List.map_cons,List.eraseIdx_cons_succ,List.eraseIdx_cons_succ,List.map_cons,er_map8 f l i]
theorem cut_last8 (xs:List V) : cutV xs none (some (-1))=xs.take (xs.length - 1):=by
 unfold cutV
 have h0:HT.sIx xs.length 0 none=0:=rfl
 have h1:HT.sIx xs.length xs.length (some (-1))=xs.length - 1:=by
  unfold HT.sIx
  simp
  omega
 rw [h0,h1]; rfl
theorem Sgd.heads8 {i:Nat} {Ls:List (List Int)} {op:List Nat} (h:Sgd i Ls op) : ∀ (p q:Nat) (x y:Int) (L M:List Int),p<q→Ls[p]?=some L→Ls[q]?=some M→L[0]?=some x→M[0]?=some y→x<y:=by
 induction h with
 | nil=>intro p q x y L M _ h; simp at h
 | @new i Ls op h ih =>
  intro p q x y L M pq hp hq hx hy
  by_cases c:q<Ls.length
  ·rw [List.getElem?_append_left (by omega)] at hp
   rw [List.getElem?_append_left c] at hq
   exact ih p q x y L M pq hp hq hx hy
  ·have hq':=(List.getElem?_eq_some_iff.mp hq).1
   rw [List.length_append] at hq'
   have e:q=Ls.length:=by have : [[(i:Int)+1]].length=1:=rfl; omega
   subst e
   rw [List.getElem?_append_left (by omega)] at hp
   rw [List.getElem?_append_right (Nat.le_refl _),Nat.sub_self] at hq
   cases hq
   cases hy
   have:=ivl_mem3.mp (h.cov.2.mem_iff.mp (List.mem_flatten.mpr ⟨L,List.mem_of_getElem? hp,List.mem_of_getElem? hx⟩))
   omega
 | @add i Ls op w j L0 h e q ih =>
  intro p r x y L M pr hp hr hx hy
  have ne:L0≠[]:=h.cov.1 L0 (List.mem_of_getElem? q)
  have hd : ∀ (t:Nat) (N:List Int) (z:Int),(Ls.set j (L0++[(i:Int)+1]))[t]?=some N→N[0]?=some z→∃ N',Ls[t]?=some N'∧N'[0]?=some z:=fun t N z ht hz=>by
   by_cases c:t=j
   ·subst c
    have tl:=(List.getElem?_eq_some_iff.mp ht).1
    rw [List.length_set] at tl
    rw [List.getElem?_set_self tl] at ht
    cases ht
    rw [List.getElem?_append_left (List.length_pos_iff.mpr ne)] at hz
    exact ⟨L0,q,hz⟩
   ·rw [List.getElem?_set_ne (Ne.symm c)] at ht
    exact ⟨N,ht,hz⟩
  obtain ⟨L',h1,h2⟩:=hd p L x hp hx
  obtain ⟨M',h3,h4⟩:=hd r M y hr hy
  exact ih p r x y L' M' pr h1 h3 h2 h4
theorem gsd_of8 {n:Int} (n1 : 1≤n) (n12:n≤12) {Ls:List (List Int)} {op:List Nat} (h:Sgd n.toNat Ls op) : Gs8 n Ls:=by
 have cv:Cov n Ls:=by
  have:=h.cov
  rwa [Int.toNat_of_nonneg (by omega)] at this
 refine ⟨cv,List.pairwise_iff_getElem.mpr fun p q hp hq pq=>?_⟩
 have ne : ∀ (t:Nat) (ht:t<Ls.length),∃ z,Ls[t][0]?=some z:=fun t ht=>⟨_,List.getElem?_eq_getElem (List.length_pos_iff.mpr (cv.1 _ (List.getElem_mem ht)))⟩
 obtain ⟨x,hx⟩:=ne p hp
 obtain ⟨y,hy⟩:=ne q hq
 exact lex_head hx hy (h.heads8 p q x y _ _ pq (List.getElem?_eq_getElem hp) (List.getElem?_eq_getElem hq) hx hy)
structure SpC (n:Int) (SS:List (List (List Int))) : Prop where
 each : ∀ S∈SS,Gs8 n S∨Gs8 (n % 12+1) S
 most:SS.length≤1∨∃ S∈SS,Gs8 n S
 few:SS.length≤13
theorem spc_sub {n:Int} {SS TT:List (List (List Int))} (g : ∀ S∈SS,Gs8 n S) (h : ∀ S∈TT,S∈SS) (l:TT.length≤13) : SpC n TT:=by
 refine ⟨fun S hS=>.inl (g S (h S hS)),?_,l⟩
 cases TT with
 | nil=>exact .inl (Nat.zero_le _)
 | cons T TT=>exact .inr ⟨T,List.mem_cons_self,g T (h T List.mem_cons_self)⟩
def spSp8:Sp:=fun vs H Q _=>∃ (q:Addr) (as:List Addr) (uss:List (List V)) (SS:List (List (List Int))) (n z:Int),vs=[.ref q,.int n,.int z]∧H q=some (.lst (as.map V.ref))∧Shs H as uss SS∧(∀ S∈SS,Gs8 n S)∧(SS.length:Int)=n∧1≤n∧n≤12∧0≤z ∧
 ∀ q' as' uss' SS' H',H' q'=some (.lst (as'.map V.ref))→Shs H' as' uss' SS'→SpC n SS'→Same H H'→Q (.ref q') H'
structure TSp8 (P:Program) (w:World) (K:PySem.W.Frag) (mg:Str→Option Value) (base:Heap) : Prop extends T1 mg K where
 f__law_sharing:FnAt P w K mg base "_law_sharing" 1 ["_law_number_here", "_law_n"] spSgd
section
variable {P:Program} {w:World} {K:PySem.W.Frag} {mg:Str→Option Value} {base:Heap}
theorem sc__law_spoilt:FnScope ["_law_chain", "_law_n", "_law_number_here", "_law_way", "_law_at", "_law_other", "_law_made_one"] ["_law_chain", "_law_n", "_law_number_here"] (defScope (top 55)):=⟨rfl,rfl,rfl,by decide +kernel,rfl,by decide +kernel,by decide +kernel⟩
theorem ok_sp8 {f:Addr} {fd:FuncData} (F:Fun K "_law_spoilt" "_law_spoilt" (top 55) f fd) (T:TSp8 P w K mg base) : FnOk P w K mg base CX0 2 f fd ["_law_chain", "_law_n", "_law_number_here"] spSp8:=by
 refine F.ok sc__law_spoilt (fun vs H Q E h=>?_) (fun cdv A outer s H vs Q E hr h=>?_)
 ·obtain ⟨q,as,uss,SS,n,z,rfl,_⟩:=h
  rfl
 ·obtain ⟨q,as,uss,SS,n,z,rfl,hq,x,g,sl,n1,n12,z0,k⟩:=h
  refine ⟨_,(pss_cons (ps_set (i:=3) sc__law_spoilt.nd rfl (Or.inl rfl) (pe_op op_mod (pv 2) pe_int))
   (pss_cons (ps_set (i:=4) sc__law_spoilt.nd rfl (Or.inl rfl) (pe_op op_mod (pe_op op_mod (pe_op op_fdivL (pv 2) pe_int) pe_int) (pe_callB (call_lenK (K:=K) rfl) rfl T.b_len (by decide +kernel) (pa_cons (pv 0) pa_nil))))
   (pss_cons (ps_set (i:=5) sc__law_spoilt.nd rfl (Or.inl rfl) (pe_op op_mod (pe_op op_mod (pe_op op_fdivL (pv 2) pe_int) pe_int) (pe_callB (call_lenK (K:=K) rfl) rfl T.b_len (by decide +kernel) (pa_cons (pv 0) pa_nil))))
   (pss_cons (ps_set (i:=6) sc__law_spoilt.nd rfl (Or.inl rfl) (pe_callTy (call_list_ofK (K:=K) rfl) rfl T.b_list (by decide +kernel) (pa_cons (pv 0) pa_nil)))
   (pss_cons (ps_if (pt_cmpR op_eq (pv 3) pe_int (nomark _)) (pss_one (ps_expr (pe_bmK (K:=K) rfl PySem.F.plainAttrs_list PySem.F.slot_list_pop PySem.F.type_list_pop mt_popAt (pv 6) (pa_cons (pv 4) pa_nil)))) pss_nil)
   (pss_cons (ps_if (pt_cmpR op_eq (pv 3) pe_int (nomark _)) (pss_one (ps_expr (pe_bmK (K:=K) rfl PySem.F.plainAttrs_list PySem.F.slot_list_insert PySem.F.type_list_insert mt_insert (pv 6) (pa_cons (pv 4) (pa_cons (pe_ix (ix_listK (K:=K) rfl) (pv 0) (pv 4) (fun _ _=>rfl)) pa_nil))))) pss_nil)
   (pss_cons (ps_if (pt_cmpR op_eq (pv 3) pe_int (nomark _)) (pss_one (ps_asg (pe_tup (pa_cons (pe_ix (ix_listK (K:=K) rfl) (pv 0) (pv 5) (fun _ _=>rfl)) (pa_cons (pe_ix (ix_listK (K:=K) rfl) (pv 0) (pv 4) (fun _ _=>rfl)) pa_nil))) (pg_tupK (K:=K) (n:=2) rfl rfl (pgs_cons (pg_sub (pv 6) (pv 4) set_list) (pgs_cons (pg_sub (pv 6) (pv 5) set_list) pgs_nil))))) pss_nil)
   (pss_cons (ps_if (pt_cmpR op_eq (pv 3) pe_int (nomark _)) (pss_one (ps_asg (pe_callF T.f__law_sharing (hr.mono (by first | decide | omega)) rfl (pa_cons (pe_op op_fdivL (pv 2) pe_int) (pa_cons (pv 1) pa_nil))) (pg_sub (pv 6) (pv 4) set_list))) pss_nil)
   (pss_cons (ps_if (pt_cmpR op_eq (pv 3) pe_int (nomark _)) (pss_one (ps_expr (pe_bm0K (K:=K) rfl PySem.F.plainAttrs_list PySem.F.slot_list_reverse PySem.F.type_list_reverse mt_reverse (pv 6)))) pss_nil)
   (pss_cons (ps_if (pt_cmpR op_eq (pv 3) pe_int (nomark _)) (pss_one (ps_set (i:=6) sc__law_spoilt.nd rfl (Or.inl rfl) (pe_slice (sl_listK (K:=K) rfl) (pv 6) (po_some pe_int) po_none))) pss_nil)
   (pss_cons (ps_if (pt_cmpR op_eq (pv 3) pe_int (nomark _)) (pss_one (ps_set (i:=6) sc__law_spoilt.nd rfl (Or.inl rfl) (pe_slice (sl_listK (K:=K) rfl) (pv 6) po_none (po_some (pe_un un_neg pe_int))))) pss_nil)
   (pss_cons (ps_if (pt_cmpR op_eq (pv 3) pe_int (nomark _)) (pss_one (ps_asg (pe_callF T.f__law_sharing (hr.mono (by first | decide | omega)) rfl (pa_cons (pe_op op_fdivL (pv 2) pe_int) (pa_cons (pe_op op_add (pe_op op_mod (pv 1) pe_int) pe_int) pa_nil))) (pg_sub (pv 6) (pv 4) set_list))) pss_nil)
   (pss_one (ps_ret (pe_comp (N:=(["_law_sharing_here"] : List Str)) (ix:=([none] : List (Option Nat))) (comp_ok rfl rfl) rfl (pi_listK (K:=K) rfl (pv 6)) (fun _ _ _ _=>(pg_name (i:=0) (show List.Nodup (["_law_sharing_here"] : List Str) from by decide +kernel) rfl (Or.inl rfl))) (fun _ _ _ _=>pif_nil) (fun _ _ _ _=>(pe_comp (N:=(["_law_part"] : List Str)) (ix:=([none] : List (Option Nat))) (comp_ok rfl rfl) rfl (pi_listK (K:=K) rfl (pv 0)) (fun _ _ _ _=>(pg_name (i:=0) (show List.Nodup (["_law_part"] : List Str) from by decide +kernel) rfl (Or.inl rfl))) (fun _ _ _ _=>pif_nil) (fun _ _ _ _=>(pe_callTy (call_list_ofK (K:=K) rfl) rfl T.b_list (by decide +kernel) (pa_cons (pv 0) pa_nil)))))))))))))))))))),?_⟩
  have big:(10000000:Nat)≤sizeLine:=by decide
  have two : 2≤sizeLine:=by decide
  have al:=x.1
  have asl:(as.map V.ref).length=SS.length:=by rw [List.length_map,al]
  refine ⟨_,rfl,_,_,rfl,rfl,(show (0:Int)<9 by decide),?_⟩
  refine gNJ ?_
  dsimp only
  obtain ⟨wy,hwy⟩ : ∃ a:Int,z % 9=a:=⟨_,rfl⟩
  have w0 : 0≤wy:=by rw [← hwy]; exact Int.emod_nonneg _ (by decide)
  have w1:wy<9:=by rw [← hwy]; exact Int.emod_lt_of_pos _ (by decide)
  rw [hwy]
  obtain ⟨at',hat⟩ : ∃ a:Int,z / 9 % 12 % ((as.map V.ref).length:Int)=a:=⟨_,rfl⟩
  have a0 : 0≤at':=by rw [← hat]; exact Int.emod_nonneg _ (by omega)
  have a1:at'<SS.length:=by rw [← hat,asl]; exact Int.emod_lt_of_pos _ (by omega)
  refine ⟨_,rfl,_,_,rfl,rfl,⟨by decide,by decide⟩,_,_,rfl,rfl,(show (0:Int)<12 by decide),_,rfl,q,_,rfl,.inl (SqL.of hq),_,_,rfl,rfl,by omega,?_⟩
  refine gNJ ?_
  dsimp only
  rw [hat]
  obtain ⟨ot,hot⟩ : ∃ a:Int,z / 108 % 12 % ((as.map V.ref).length:Int)=a:=⟨_,rfl⟩
  have o0 : 0≤ot:=by rw [← hot]; exact Int.emod_nonneg _ (by omega)
  have o1:ot<SS.length:=by rw [← hot,asl]; exact Int.emod_lt_of_pos _ (by omega)
  refine ⟨_,rfl,_,_,rfl,rfl,⟨by decide,by decide⟩,_,_,rfl,rfl,(show (0:Int)<12 by decide),_,rfl,q,_,rfl,.inl (SqL.of hq),_,_,rfl,rfl,by omega,?_⟩
  refine gNJ ?_
  dsimp only
  rw [hot]
  refine ⟨_,rfl,q,_,rfl,.inl (SqL.of hq),fun lm flm=>?_⟩
  have s1:Same H (upd H lm (.lst (as.map V.ref))):=Same.new flm
  have h1:upd H lm (.lst (as.map V.ref)) lm=some (.lst (as.map V.ref)):=upd_same
  have dd:DTs (upd H lm (.lst (as.map V.ref))) (fun b=>b≠lm) (as.map V.ref) (SS.map shE):=DTs.same (x.dts8 fun a o e z=>by rw [z,flm] at e; cases e) s1
  generalize upd H lm (.lst (as.map V.ref))=H1 at s1 h1 dd ⊢
  have ddl:=dd.length
  obtain ⟨v1,hv1⟩ : ∃ v,(as.map V.ref)[at'.toNat]?=some v:=⟨_,List.getElem?_eq_getElem (by omega)⟩
  obtain ⟨v2,hv2⟩ : ∃ v,(as.map V.ref)[ot.toNat]?=some v:=⟨_,List.getElem?_eq_getElem (by omega)⟩
  obtain ⟨S1,hS1⟩ : ∃ S,SS[at'.toNat]?=some S:=⟨_,List.getElem?_eq_getElem (by omega)⟩
  obtain ⟨S2,hS2⟩ : ∃ S,SS[ot.toNat]?=some S:=⟨_,List.getElem?_eq_getElem (by omega)⟩
  have m1:=List.mem_of_getElem? hS1
  have m2:=List.mem_of_getElem? hS2
  generalize as.map V.ref=us at *
  -- how it stands behind each if
  let Rel:Int→St→Hp→Prop:=fun j σ' H'=>∃ lm us' TT,σ'=[some (.ref q),some (.int n),some (.int z),some (.int wy),some (.int at'),some (.int ot),some (.ref lm)]∧H lm=none∧H' lm=some (.lst us')∧DTs H' (fun b=>b≠lm) us' (TT.map shE)∧SpC n TT∧Same H H'∧(j<wy→us'=us∧TT=SS)
  have start:Rel (-1) [some (.ref q),some (.int n),some (.int z),some (.int wy),some (.int at'),some (.int ot),some (.ref lm)] H1:=⟨lm,us,SS,rfl,flm,h1,dd,spc_sub g (fun S h=>h) (by omega),s1,fun _=>⟨rfl,rfl⟩⟩
  have skip : ∀ {j:Int} {σ':St} {H':Hp},wy≠j+1→Rel j σ' H'→Rel (j+1) σ' H':=fun ne ⟨lm,us',TT,e,f,h,d,sp,s,w⟩=>⟨lm,us',TT,e,f,h,d,sp,s,fun z=>w (by omega)⟩
  have ofEq : ∀ {i:Int},decide (V.int wy=V.int i)=true→wy=i:=fun h=>V.int.inj (of_decide_eq_true h)
  have ofNe : ∀ {i:Int},¬ decide (V.int wy=V.int i)=true→wy≠i:=fun h z=>h (decide_eq_true (by rw [z]))
  refine gNJ ?_
  dsimp only
  refine seq_byJ (t:=tIfS _ _ _) (Rel 0) (fun D' hD=>?_) ?_
  ·refine ⟨_,rfl,rfl,_,rfl,ite2 (fun c=>?_) (fun c=>hD _ _ (skip (j:=-1) (show wy≠-1+1 from fun z=>ofNe c (by omega)) start))⟩
   have c:=ofEq c
   refine ⟨_,rfl,.inl ⟨rfl,_,SqL.of h1⟩,_,rfl,lm,_,at',at'.toNat,_,rfl,rfl,h1,by omega,by omega,(ixN_seq (ixN_lt a0 (by omega))).1,hv1,?_⟩
   refine hD _ _ ⟨lm,_,SS.eraseIdx at'.toNat,rfl,flm,upd_same,?_,spc_sub g (fun S h=>List.mem_of_mem_eraseIdx h) (by have:=List.length_eraseIdx_le SS at'.toNat; omega),Same.put s1 flm,fun z=>absurd c (by omega)⟩
   rw [← er_map8]
   exact (dd.eraseP at'.toNat).keep fun b ob hb e=>by rw [upd_ne hb]; exact e
  clear start h1 dd s1 flm
  rintro σ H2 ⟨lm,us',TT,rfl,flm,h2,dd,sp,s2,w⟩
  refine seq_byJ (t:=tIfS _ _ _) (Rel 1) (fun D' hD=>?_) ?_
  ·refine ⟨_,rfl,rfl,_,rfl,ite2 (fun c=>?_) (fun c=>hD _ _ (skip (j:=0) (ofNe c) ⟨lm,us',TT,rfl,flm,h2,dd,sp,s2,w⟩))⟩
   have c:=ofEq c
   obtain ⟨rfl,rfl⟩:=w (by omega)
   obtain ⟨d,hd,dv⟩:=dd.get hv1
   rw [List.getElem?_map,hS1] at hd
   cases hd
   refine ⟨_,rfl,.inl ⟨rfl,_,SqL.of h2⟩,_,rfl,_,rfl,_,rfl,q,_,_,v1,rfl,rfl,SqL.of (s2 _ _ hq),at_refI a0 hv1,lm,_,at',v1,rfl,rfl,h2,a0,by omega,by omega,?_⟩
   have e1:TT.take at'.toNat++S1 :: TT.drop at'.toNat=TT.take at'.toNat++[S1]++TT.drop at'.toNat:=by simp
   refine hD _ _ ⟨lm,_,TT.take at'.toNat++S1 :: TT.drop at'.toNat,rfl,flm,upd_same,?_,spc_sub g (fun S h=>?_) (by rw [List.length_append,List.length_cons,List.length_take,List.length_drop]; omega),Same.put s2 flm,fun z=>absurd c (by omega)⟩
   ·rw [List.map_append,List.map_cons,List.map_take,List.map_drop]
    exact ((dd.take at'.toNat).append (.cons dv (dd.drop at'.toNat))).keep fun b ob hb e=>by rw [upd_ne hb]; exact e
   ·rcases List.mem_append.mp h with h | h
    ·exact List.mem_of_mem_take h
    ·rcases List.mem_cons.mp h with rfl | h
     ·exact m1
     ·exact List.mem_of_mem_drop h
  clear h2 dd sp s2 w flm
  rintro σ H3 ⟨lm,us',TT,rfl,flm,h3,dd,sp,s3,w⟩
  refine seq_byJ (t:=tIfS _ _ _) (Rel 2) (fun D' hD=>?_) ?_
  ·refine ⟨_,rfl,rfl,_,rfl,ite2 (fun c=>?_) (fun c=>hD _ _ (skip (j:=1) (ofNe c) ⟨lm,us',TT,rfl,flm,h3,dd,sp,s3,w⟩))⟩
   have c:=ofEq c
   obtain ⟨rfl,rfl⟩:=w (by omega)
   have hq3:=s3 _ _ hq
   obtain ⟨d,hd,dv⟩:=dd.get hv1
   rw [List.getElem?_map,hS1] at hd
   cases hd
   obtain ⟨d2,hd2,dv2⟩:=dd.get hv2
   rw [List.getElem?_map,hS2] at hd2
   cases hd2
   refine ⟨_,rfl,_,rfl,q,_,_,v2,rfl,rfl,SqL.of hq3,at_refI o0 hv2,_,rfl,_,rfl,q,_,_,v1,rfl,rfl,SqL.of hq3,at_refI a0 hv1,two,fun tt ftt=>?_⟩
   have z1:Same H3 (upd H3 tt (.tup [v2,v1])):=Same.new ftt
   have ht:upd H3 tt (.tup [v2,v1]) tt=some (.tup [v2,v1]):=upd_same
   generalize upd H3 tt (.tup [v2,v1])=G1 at z1 ht ⊢
   refine ⟨tt,_,rfl,SqT.of ht,rfl,_,_,rfl,_,rfl,_,rfl,lm,_,_,at'.toNat,rfl,rfl,z1 _ _ h3,ixN_lt a0 (by omega),?_⟩
   refine ⟨_,_,rfl,_,rfl,_,rfl,lm,_,_,ot.toNat,rfl,rfl,upd_same,ixN_lt o0 (by rw [List.length_set]; omega),rfl,?_⟩
   rw [upd_upd8]
   refine hD _ _ ⟨lm,_,(TT.set at'.toNat S2).set ot.toNat S1,rfl,flm,upd_same,?_,spc_sub g (fun S h=>?_) (by rw [List.length_set,List.length_set]; omega),Same.put (s3.trans z1) flm,fun z=>absurd c (by omega)⟩
   ·rw [List.map_set,List.map_set]
    exact (((DTs.same dd z1).setP at'.toNat (DT.same dv2 z1)).setP ot.toNat (DT.same dv z1)).keep fun b ob hb e=>by rw [upd_ne hb]; exact e
   ·rcases List.mem_or_eq_of_mem_set h with h | rfl
    ·rcases List.mem_or_eq_of_mem_set h with h | rfl
     ·exact h
     ·exact m2
    ·exact m1
  clear h3 dd sp s3 w flm
  rintro σ H4 ⟨lm,us',TT,rfl,flm,h4,dd,sp,s4,w⟩
  refine seq_byJ (t:=tIfS _ _ _) (Rel 3) (fun D' hD=>?_) ?_
  ·refine ⟨_,rfl,rfl,_,rfl,ite2 (fun c=>?_) (fun c=>hD _ _ (skip (j:=2) (ofNe c) ⟨lm,us',TT,rfl,flm,h4,dd,sp,s4,w⟩))⟩
   have c:=ofEq c
   obtain ⟨rfl,rfl⟩:=w (by omega)
   refine ⟨_,rfl,_,_,rfl,rfl,⟨by decide,by decide⟩,_,rfl,z / 1296,n,rfl,Int.ediv_nonneg z0 (by decide),by omega,by omega,fun l ws Ls op H5 fl hl xl nd fr nl sg s5=>?_⟩
   have gs:Gs8 n Ls:=gsd_of8 n1 n12 sg
   refine ⟨_,rfl,_,rfl,lm,_,_,at'.toNat,rfl,rfl,s5 _ _ h4,ixN_lt a0 (by omega),?_⟩
   refine hD _ _ ⟨lm,_,TT.set at'.toNat Ls,rfl,flm,upd_same,?_,⟨fun S h=>?_,?_,by rw [List.length_set]; omega⟩,Same.put (s4.trans s5) flm,fun z=>absurd c (by omega)⟩
   ·rw [List.map_set]
    refine ((DTs.same dd s5).setP at'.toNat (.lst hl (fun z=>by rw [z,h4] at fl; cases fl) (xl.dts8 fun b hb z=>?_))).keep fun b ob hb e=>by rw [upd_ne hb]; exact e
    have:=fr b hb
    rw [z,h4] at this; cases this
   ·rcases List.mem_or_eq_of_mem_set h with h | rfl
    ·exact .inl (g S h)
    ·exact .inl gs
   ·refine .inr ⟨Ls,?_,gs⟩
    exact List.mem_iff_getElem.mpr ⟨at'.toNat,by rw [List.length_set]; omega,by rw [List.getElem_set_self]⟩
  clear h4 dd sp s4 w flm
  rintro σ H5 ⟨lm,us',TT,rfl,flm,h5,dd,sp,s5,w⟩
  refine seq_byJ (t:=tIfS _ _ _) (Rel 4) (fun D' hD=>?_) ?_
  ·refine ⟨_,rfl,rfl,_,rfl,ite2 (fun c=>?_) (fun c=>hD _ _ (skip (j:=3) (ofNe c) ⟨lm,us',TT,rfl,flm,h5,dd,sp,s5,w⟩))⟩
   have c:=ofEq c
   obtain ⟨rfl,rfl⟩:=w (by omega)
   refine ⟨_,rfl,.inl ⟨rfl,_,SqL.of h5⟩,lm,_,rfl,rfl,h5,?_⟩
   refine hD _ _ ⟨lm,_,TT.reverse,rfl,flm,upd_same,?_,spc_sub g (fun S h=>List.mem_reverse.mp h) (by rw [List.length_reverse]; omega),Same.put s5 flm,fun z=>absurd c (by omega)⟩
   rw [List.map_reverse]
   exact (DTs.rev8 dd).keep fun b ob hb e=>by rw [upd_ne hb]; exact e
  clear h5 dd sp s5 w flm
  rintro σ H6 ⟨lm,us',TT,rfl,flm,h6,dd,sp,s6,w⟩
  refine seq_byJ (t:=tIfS _ _ _) (Rel 5) (fun D' hD=>?_) ?_
  ·refine ⟨_,rfl,rfl,_,rfl,ite2 (fun c=>?_) (fun c=>hD _ _ (skip (j:=4) (ofNe c) ⟨lm,us',TT,rfl,flm,h6,dd,sp,s6,w⟩))⟩
   have c:=ofEq c
   obtain ⟨rfl,rfl⟩:=w (by omega)
   refine ⟨_,rfl,1,rfl,?_⟩
   try unfold tNoPart
   refine ⟨lm,us',rfl,SqL.of h6,fun q2 e2=>?_⟩
   rw [cutDg (by decide)]
   have z2:Same H6 (upd H6 q2 (.lst (us'.drop (1:Int).toNat))):=Same.new e2
   refine hD _ _ ⟨q2,_,TT.drop (1:Int).toNat,rfl,s6.free e2,upd_same,?_,spc_sub g (fun S h=>List.mem_of_mem_drop h) (by rw [List.length_drop]; omega),s6.trans z2,fun z=>absurd c (by omega)⟩
   rw [List.map_drop]
   exact ((DTs.same dd.alive z2).imp fun b hb z=>hb.2 (by rw [z]; exact e2)).drop _
  clear h6 dd sp s6 w flm
  rintro σ H7 ⟨lm,us',TT,rfl,flm,h7,dd,sp,s7,w⟩
  refine seq_byJ (t:=tIfS _ _ _) (Rel 6) (fun D' hD=>?_) ?_
  ·refine ⟨_,rfl,rfl,_,rfl,ite2 (fun c=>?_) (fun c=>hD _ _ (skip (j:=5) (ofNe c) ⟨lm,us',TT,rfl,flm,h7,dd,sp,s7,w⟩))⟩
   have c:=ofEq c
   obtain ⟨rfl,rfl⟩:=w (by omega)
   refine ⟨_,rfl,_,rfl,-1,rfl,lm,us',rfl,SqL.of h7,fun q2 e2=>?_⟩
   have ec:cutV us' none (some (-1))=us'.take (us'.length - 1):=cut_last8 us'
   rw [ec]
   have z2:Same H7 (upd H7 q2 (.lst (us'.take (us'.length - 1)))):=Same.new e2
   refine hD _ _ ⟨q2,_,TT.take (us'.length - 1),rfl,s7.free e2,upd_same,?_,spc_sub g (fun S h=>List.mem_of_mem_take h) (by rw [List.length_take]; omega),s7.trans z2,fun z=>absurd c (by omega)⟩
   rw [List.map_take]
   exact ((DTs.same dd.alive z2).imp fun b hb z=>hb.2 (by rw [z]; exact e2)).take _
  clear h7 dd sp s7 w flm
  rintro σ H8 ⟨lm,us',TT,rfl,flm,h8,dd,sp,s8,w⟩
  refine seq_byJ (t:=tIfS _ _ _) (Rel 7) (fun D' hD=>?_) ?_
  ·refine ⟨_,rfl,rfl,_,rfl,ite2 (fun c=>?_) (fun c=>hD _ _ (skip (j:=6) (ofNe c) ⟨lm,us',TT,rfl,flm,h8,dd,sp,s8,w⟩))⟩
   have c:=ofEq c
   obtain ⟨rfl,rfl⟩:=w (by omega)
   have nm0:=Int.emod_nonneg n (show (12:Int)≠0 by decide)
   have nm1:=Int.emod_lt_of_pos n (show (0:Int)<12 by decide)
   refine ⟨_,rfl,_,_,rfl,rfl,⟨by decide,by decide⟩,_,rfl,_,_,rfl,rfl,(show (0:Int)<12 by decide),_,_,rfl,rfl,z / 1296,n % 12+1,rfl,Int.ediv_nonneg z0 (by decide),by omega,by omega,fun l ws Ls op H9 fl hl xl nd fr nl sg s9=>?_⟩
   have gs:Gs8 (n % 12+1) Ls:=gsd_of8 (by omega) (by omega) sg
   refine ⟨_,rfl,_,rfl,lm,_,_,at'.toNat,rfl,rfl,s9 _ _ h8,ixN_lt a0 (by omega),?_⟩
   refine hD _ _ ⟨lm,_,TT.set at'.toNat Ls,rfl,flm,upd_same,?_,⟨fun S h=>?_,?_,by rw [List.length_set]; omega⟩,Same.put (s8.trans s9) flm,fun z=>absurd c (by omega)⟩
   ·rw [List.map_set]
    refine ((DTs.same dd s9).setP at'.toNat (.lst hl (fun z=>by rw [z,h8] at fl; cases fl) (xl.dts8 fun b hb z=>?_))).keep fun b ob hb e=>by rw [upd_ne hb]; exact e
    have:=fr b hb
    rw [z,h8] at this; cases this
   ·rcases List.mem_or_eq_of_mem_set h with h | rfl
    ·exact .inl (g S h)
    ·exact .inr gs
   ·by_cases l1:TT.length≤1
    ·exact .inl (by rw [List.length_set]; exact l1)
    ·-- another one stays
     obtain ⟨j,hj,nj⟩ : ∃ j,j<TT.length∧j≠at'.toNat:=by
      by_cases e:at'.toNat=0
      ·exact ⟨1,by omega,by omega⟩
      ·exact ⟨0,by omega,fun z=>e z.symm⟩
     refine .inr ⟨TT[j],List.mem_iff_getElem.mpr ⟨j,by rw [List.length_set]; exact hj,by rw [List.getElem_set_ne (Ne.symm nj)]⟩,g _ (List.getElem_mem hj)⟩
  clear h8 dd sp s8 w flm
  rintro σ H9 ⟨lm,us',TT,rfl,flm,h9,dd,sp,s9,w⟩
  obtain ⟨as',uss',rfl,x9⟩:=shs_of8 dd
  have fw:=sp.few
  refine ⟨_,rfl,lm,rfl,⟨_,SqL.of h9⟩,copySS h9 x9 (by omega) (fun S hS=>?_) fun q' as'' uss'' H' fq' hq' x' _ _ s'=>k q' as'' uss'' TT H' hq' x' sp (s9.trans s')⟩
  have nm0:=Int.emod_nonneg n (show (12:Int)≠0 by decide)
  have nm1:=Int.emod_lt_of_pos n (show (0:Int)<12 by decide)
  rcases sp.each S hS with gg | gg
  ·have:=(gg.cv.sizes (by omega)).1; omega
  ·have:=(gg.cv.sizes (by omega)).1; omega
end
end Sw
namespace Sw
open PySem L2
structure ClsA where
 (Unlike NoRounds Apart NoMove NotLeast NotGreat NoTree NoCars NoChain NoBound NoText NoName StarError:Addr)
structure TCl (mg:Str→Option Value) (cl:ClsA) : Prop where
 c_Unlike:mg "Unlike" = some (.ref cl.Unlike)
 c_NoRounds:mg "NoRounds" = some (.ref cl.NoRounds)
 c_Apart:mg "Apart" = some (.ref cl.Apart)
 c_NoMove:mg "NoMove" = some (.ref cl.NoMove)
 c_NotLeast:mg "NotLeast" = some (.ref cl.NotLeast)
 c_NotGreat:mg "NotGreat" = some (.ref cl.NotGreat)
 c_NoTree:mg "NoTree" = some (.ref cl.NoTree)
 c_NoCars:mg "NoCars" = some (.ref cl.NoCars)
 c_NoChain:mg "NoChain" = some (.ref cl.NoChain)
 c_NoBound:mg "NoBound" = some (.ref cl.NoBound)
 c_NoText:mg "NoText" = some (.ref cl.NoText)
 c_NoName:mg "NoName" = some (.ref cl.NoName)
 c_StarError:mg "StarError" = some (.ref cl.StarError)
 b_isinstance:mg "isinstance" = none
 b_ValueError:mg "ValueError" = none
structure Alone (K:PySem.W.Frag) (cl:ClsA) (C:Addr) : Prop where
 ei:ExcI K C
 st:PySem.W.kitOne K (.ref C) (.ref cl.StarError)=some true
 ve:PySem.W.kitOne K (.ref C) (.type "ValueError")=some true
 bs : ∃ b1 b2 b3 b4 b5 b6 b7 b8 b9 b10 b11 b12,PySem.W.kitOne K (.ref C) (.ref cl.Unlike)=some b1∧PySem.W.kitOne K (.ref C) (.ref cl.NoRounds)=some b2∧PySem.W.kitOne K (.ref C) (.ref cl.Apart)=some b3 ∧
  PySem.W.kitOne K (.ref C) (.ref cl.NoMove)=some b4∧PySem.W.kitOne K (.ref C) (.ref cl.NotLeast)=some b5∧PySem.W.kitOne K (.ref C) (.ref cl.NotGreat)=some b6∧PySem.W.kitOne K (.ref C) (.ref cl.NoTree)=some b7 ∧
  PySem.W.kitOne K (.ref C) (.ref cl.NoCars)=some b8∧PySem.W.kitOne K (.ref C) (.ref cl.NoChain)=some b9∧PySem.W.kitOne K (.ref C) (.ref cl.NoBound)=some b10∧PySem.W.kitOne K (.ref C) (.ref cl.NoText)=some b11 ∧
  PySem.W.kitOne K (.ref C) (.ref cl.NoName)=some b12∧[b1,b2,b3,b4,b5,b6,b7,b8,b9,b10,b11,b12].count true=1
theorem ref_is {C:Addr} (u:Value) (r:RelV (.ref C) u) : u=.ref C:=r
end Sw
namespace L2
open PySem PySem.Spec PyProof.Rows
theorem EAt.lone {h:Heap} {e C:Addr} (x:EAt h e C) : Lone h e:=by
 obtain ⟨o,h1,_,vs,h2,h3⟩:=x
 exact ⟨o,vs,h1,h2,h3⟩
theorem Lone.keeps {h h':Heap} {e:Addr} (l:Lone h e) (k : ∀ b o,h.get? b=some o→h'.get? b=some o) : Lone h' e:=by
 obtain ⟨o,vs,h1,h2,h3⟩:=l
 exact ⟨o,vs,k _ _ h1,h2,h3⟩
section
variable {prog:Program} {w:World} {A:Around} {E:Value→Shared→Prop} {s:Shared}
theorem entry_unchain:entryFor table "proto.unchain" = some Builtin.«proto.unchain»:=entryFor_of_tree (by kernel_rfl)
theorem unchain_lone {e:Addr} {v:Value} {Q:Value→Shared→Prop} (l:Lone s.heap e) (k:Q .none s) : wpAny (model prog w) A (runValue (.builtin "proto.unchain" ⟨[v,.ref e,.ref e,.bool false],[]⟩)) Q E s:=by
 obtain ⟨o,vs,h1,h2,h3⟩:=l
 refine wpAny_runValue (codeAny_builtin entry_unchain ?_)
 unfold Builtin.«proto.unchain»
 refine wpAny_bind (wpAny_field h1 h2 h3 ?_)
 rw [if_pos (by decide)]
 exact wpAny_pure k
theorem range_endH {it e:Addr} {i0 m0 d0:Int} {Q:Option Value→Shared→Prop} (hh:A.handled=some (.ref e)) (lo:Lone s.heap e) (st:IsRangeIter s.heap it i0 m0 d0) (hm:m0≤0)
  (hQ : ∀ h',Heap.ExtBut it s.heap h'→Q none { s with heap:=h' }) : wpAny (model prog w) A (pyNext (.ref it)) Q E s:=by
 have ty:s.TypeIs (.ref it) "range_iterator" := ⟨_,st,rfl⟩
 have sz : @LT.lt Nat _ e s.heap.objs.size:=by
  obtain ⟨o,vs,h1,_⟩:=lo
  exact Heap.lt_size h1
 unfold pyNext
 refine wpAny_bind (wpAny_attempt (wpAny_callSpecial?_slot (name:=Str.ofString "__next__") ty F.slot_range_iterator_next (wpAny_call_entry F.slot_range_iterator_next ty F.entry_range_iterator_next ?_ (F.args_range_iterator_next_1 _))))
 show wpAny _ _ (field (.ref it) 0 >>= _) _ _ s
 refine wpAny_bind (wpAny_field st rfl (x:=rawInt i0) rfl ?_)
 show wpAny _ _ (field (.ref it) 1 >>= _) _ _ s
 refine wpAny_bind (wpAny_field st rfl (x:=rawInt m0) rfl ?_)
 show wpAny _ _ (field (.ref it) 2 >>= _) _ _ s
 refine wpAny_bind (wpAny_field st rfl (x:=rawInt d0) rfl ?_)
 show wpAny _ _ (if m0≤0 then _ else _) _ _ s
 rw [if_pos hm]
 refine wpAny_bind (wpAny_rule (wpAny_bind ?_))
 show wpAny _ _ (newExc (.type "StopIteration") [] >>= fun ev=>raiseNew ev) _ _ _
 refine wpAny_bind ?_
 simp only [newExc,newTuple]
 refine wpAny_bind (wpAny_newObj_type (wpAny_bind (m:=firstArgMember _ _) (wpAny_of_eq (a:=Value.none) (by first | rfl | (simp only [firstArgMember]; rfl)) (wpAny_newObj_type ?_ (by size_fits)))) (by size_fits))
 simp only [raiseNew]
 refine wpAny_bind (wpAny_handled ?_)
 first | rw [show A.in1.handled=some (.ref e) from hh] | rw [hh]
 dsimp only
 have ne:e≠(s.heap.push { cls:=Value.type "tuple", data:=Data.seq #[] }).objs.size:=by
  rw [Heap.size_push]
  exact Nat.ne_of_lt (Nat.lt_succ_of_lt sz)
 rw [if_pos (show (Value.ref e != Value.ref (s.heap.push { cls:=Value.type "tuple", data:=Data.seq #[] }).objs.size)=true by simpa using ne)]
 refine wpAny_bind (wpAny_holding (unchain_lone (lo.keeps fun b o q=>Heap.get?_push_of_some _ (Heap.get?_push_of_some _ q)) ?_))
 unfold updateField
 refine wpAny_bind (wpAny_bind (wpAny_load (Heap.get?_push_size _ rfl) ?_))
 dsimp only
 rw [if_pos (by rw [Array.size_append]; show 2<6+_; omega)]
 refine wpAny_update (Heap.get?_push_size _ rfl) (wpAny_throw ?_)
 refine wpAny_bind (wpAny_isInstance (T := "StopIteration") (b:=true) ⟨_,Heap.get?_update_self _ (Heap.get?_push_size _ rfl) rfl,rfl⟩ isSubtype_stop ?_)
 refine wpAny_pure (hQ _ fun b o hb q=>?_)
 rw [Heap.get?_update_other]
 ·exact Heap.get?_push_of_some _ (Heap.get?_push_of_some _ q)
 ·have : @LT.lt Nat _ b s.heap.objs.size:=Heap.lt_size q
  rw [Heap.size_push]
  exact Nat.ne_of_gt (Nat.lt_succ_of_lt this)
end
end L2
namespace L2
open PySem PySem.Spec PyProof.Rows
structure TurnH (e:Addr) (P:Program) (w:World) (K:PySem.W.Frag) (tg:Expr) (J:It) (fp:List Addr) (it:Addr) (tn:Nat→Heap→Prop) : Prop where
 mem:it∈fp
 obj : ∀ i h,tn i h→∀ b∈fp,∃ o,h.get? b=some o∧∀ v,o.data≠.cell v
 keep : ∀ i h h',tn i h→(∀ b∈fp,∀ o,h.get? b=some o→h'.get? b=some o)→tn i h'
 item : ∀ (X:Cx),X.prog=P→X.w=w→X.K=K→X.A.handled=some (.ref e)→∀ (i:Nat) (pins:List (Addr × Obj)) (s:Shared) (σ : St) (H:Hp) (E:Value→Shared→Prop),Inv X pins σ H s→(∀ b∈fp,FpOk X pins H b)→tn i s.heap→J.go i H →
  wpAny (model P w) X.A (pyNext (.ref it)) (fun r s1=>∃ u,r=some u ∧
   wpAny (model P w) X.A (letOwnedTupleGo tg (.ref it) u) (fun _ s2=>∃ x H',Inv X pins σ H' s2∧RelV x u∧J.yld i H x H'∧tn (i+1) s2.heap∧∀ b∈fp,H' b=none) E s1) E s
 done : ∀ (X:Cx),X.prog=P→X.w=w→X.K=K→X.A.handled=some (.ref e)→∀ (i:Nat) (pins:List (Addr × Obj)) (s:Shared) (σ : St) (H:Hp) (E:Value→Shared→Prop),Inv X pins σ H s→(∀ b∈fp,FpOk X pins H b)→tn i s.heap→J.stop i H →
  wpAny (model P w) X.A (pyNext (.ref it)) (fun r s1=>r=none∧Inv X pins σ H s1) E s
 self : ∀ (A:Around) (i:Nat) (s:Shared) (Q:Value→Shared→Prop) (E:Value→Shared→Prop),tn i s.heap→Q (.ref it) s→wpAny (model P w) A (pyIter (.ref it)) Q E s
def PIEH (e:Addr) (X:Cx) (pins:List (Addr × Obj)) (σ : St) (tg:Expr) (R:It→Hp→Prop) (itv:Value) (s2:Shared) : Prop :=
 ∃ (it:Addr) (fp:List Addr) (tn:Nat→Heap→Prop) (J:It) (H':Hp),itv=.ref it∧Inv X pins σ H' s2∧TurnH e X.prog X.w X.K tg J fp it tn∧tn 0 s2.heap∧(∀ b∈fp,FpOk X pins H' b)∧R J H'
def PIH (e:Addr) (X:Cx) (tg iter:Expr) (wi:TI) : Prop :=
 ∀ (pins:List (Addr × Obj)) (s:Shared) (σ : St) (H:Hp) (R:It→Hp→Prop),Inv X pins σ H s→wi σ H R →
  wpAny (model X.prog X.w) X.A (eval iter X.env) (fun v s1=>wpAny (model X.prog X.w) X.A (pyIter v) (PIEH e X pins σ tg R) X.xe s1) X.xe s
def ItrH (e:Addr) (lo:Int) (n:Nat) : It:=⟨fun i _=>i<n,fun i H x H'=>H'=H∧x=.int (lo+i),fun i H=>n≤i∧∃ C,H e=some (.exc e C)⟩
theorem turn_rangeH {e:Addr} {P:Program} {w:World} {K:PySem.W.Frag} {tg:Expr} (it:Addr) (lo:Int) (n:Nat) : TurnH e P w K tg (ItrH e lo n) [it] it (fun i h=>IsRangeIter h it (lo+(i:Nat) * 1) ((n:Int) - (i:Nat)) 1) where
 mem:=by simp
 obj:=fun i h st b hb=>by
  have q:b=it:=by simpa using hb
  subst q
  exact ⟨_,st,fun v z=>by
   have z':Data.fields _=Data.cell v:=z
   cases z'⟩
 keep:=fun i h h' st k=>k it (by simp) _ st
 item:=by
  intro X hP hw hK hc i pins s σ H E I hf st hg
  subst hP hw hK
  obtain ⟨f0,f1,f2,f3,f4,f5⟩:=hf it (by simp)
  have hg:i<n:=hg
  refine wpAny_pyNext_range_item st (by omega) fun h' st' sb=>?_
  have I1:Inv X pins σ H { s with heap:=h',toks:=s.toks+1 }:=I.turned (fun b o hb q=>sb.extBut b o hb q) f0 f1 f3 f4 f5
  have st2:IsRangeIter h' it (lo+((i+1:Nat) : Int) * 1) ((n:Int) - ((i+1:Nat) : Int)) 1:=by
   rw [show lo+((i+1:Nat) : Int) * 1=lo+(i:Int) * 1+1 by push_cast; omega,show (n:Int) - ((i+1:Nat) : Int)=(n:Int) - (i:Int) - 1 by push_cast; omega]
   exact st'
  refine ⟨_,rfl,go_of (s:={ s with heap:=h',toks:=s.toks+1 }) (n := "range_iterator") st2 rfl rfl (by decide) ⟨.int (lo+i),H,I1,⟨s.toks,?_⟩,⟨rfl,rfl⟩,st2,fun b hb=>(hf b hb).1⟩⟩
  rw [Int.mul_one]
 done:=by
  intro X hP hw hK hc i pins s σ H E I hf st hg
  subst hP hw hK
  obtain ⟨f0,f1,f2,f3,f4,f5⟩:=hf it (by simp)
  obtain ⟨hn,C,hC⟩:=hg
  obtain ⟨x,_,_⟩:=I.hok e _ hC
  exact range_endH hc (EAt.lone x) st (by omega) fun h' eb=>⟨rfl,I.turned (t':=s.toks) (fun b o hb q=>eb b o hb q) f0 f1 f3 f4 f5⟩
 self:=fun _ _ _ _ _ st h=>wpAny_pyIter_rangeiter st h
section
variable {X:Cx} {tg:Expr}
theorem range_itH {e:Addr} {pins:List (Addr × Obj)} {σ : St} {H:Hp} {s:Shared} {R:It→Hp→Prop} {E:Value→Shared→Prop} {lo hi:Int} {t u v:Tok} {tk:Nat} (I:Inv X pins σ H s) (hl : -(2 ^ 62)≤lo) (hl2:lo<2 ^ 62) (hh : -(2 ^ 62)≤hi) (hh2:hi<2 ^ 62) (q:R (ItrH e lo (hi - lo).toNat) H) :
  wpAny (model X.prog X.w) X.A (pyIter (.ref s.heap.objs.size)) (PIEH e X pins σ tg R) E { s with heap:=s.heap.push { cls:=.type "range", data:=.fields #[.int lo t,.int hi u,.int 1 v] },toks:=tk }:=by
 have I1:Inv X pins σ H { s with heap:=s.heap.push { cls:=.type "range", data:=.fields #[.int lo t,.int hi u,.int 1 v] },toks:=tk }:=I.kept fun b o e=>Heap.get?_push_of_some _ e
 refine wpAny_pyIter_range (Heap.get?_push_size _ rfl) (small_one hl hl2 hh hh2) ?_
 refine ⟨(s.heap.push { cls:=.type "range", data:=.fields #[.int lo t,.int hi u,.int 1 v] }).objs.size,[(s.heap.push { cls:=.type "range", data:=.fields #[.int lo t,.int hi u,.int 1 v] }).objs.size],_,_,H,rfl,
  I1.kept (t':=tk) fun b o e=>Heap.get?_push_of_some _ e,turn_rangeH _ lo (hi - lo).toNat,?_,fun b hb=>?_,q⟩
 ·have e1:lo+((0:Nat) : Int) * 1=lo:=by simp
  have e2:(((hi - lo).toNat:Nat) : Int) - ((0:Nat) : Int)=Builtin.Range.rangeSize lo hi 1:=by rw [rangeSize_one]; split <;> omega
  show IsRangeIter _ _ (lo+((0:Nat) : Int) * 1) ((((hi - lo).toNat:Nat) : Int) - ((0:Nat) : Int)) 1
  rw [e1,e2]
  exact Heap.get?_push_size _ rfl
 ·have e:b=(s.heap.push { cls:=.type "range", data:=.fields #[.int lo t,.int hi u,.int 1 v] }).objs.size:=by simpa using hb
  subst e
  exact I1.fpOk (Nat.le_refl _) (I1.hok.fresh (Nat.le_refl _))
def iRng1H (e:Addr) (ta:TA) : TI:=fun σ H R=>ta σ H fun vs H1=>∃ j:Int,vs=[.int j]∧-(2 ^ 62)≤j∧j<2 ^ 62∧R (ItrH e 0 j.toNat) H1
theorem pi_range1H {e:Addr} {a:Expr} {ta:TA} {p pos:Pos} (hg:Gl X "range") (hm:X.mg "range" = none) (ha:PA X [a] ta) (hs:starEach [a] X.env=[(false,eval a X.env)]:=by rfl) : PIH e X tg (.Call (.Name "range" p) [a] [] pos) (iRng1H e ta):=by
 intro pins s σ H R I h
 refine Call_ (ld_blt I hg hm boot_range (PyProof.Rows.callWith_type1 (thn (ha pos pins s σ H _ I h) fun us s1 ⟨vs,H1,I1,r1,q1⟩=>?_) hs rfl))
 obtain ⟨j,e,q1,q2,q⟩:=q1
 subst e
 cases r1 with
 | cons r rr =>
  cases rr
  obtain ⟨t,rfl⟩:=r
  exact call_range_1 (range_itH I1 (by omega) (by omega) q1 q2 (by simpa using q))
end
section
variable {X:Cx} {scope:Scope} {N:List Str} {ix:List (Option Nat)} {elt tg iter:Expr} {ifs:List Expr} {g:TG} {tc:TT} {te:TE} {pos:Pos}
theorem comp_blockH {e₀ : Addr} {pins:List (Addr × Obj)} {σ : St} {s2:Shared} {Q:VK} {itv:Value} {RR:Value→Addr→Result→Shared→Prop} {E:Value→Shared→Prop} (c:CompOk X scope N ix) (hc:X.A.handled=some (.ref e₀))
  (hg : ∀ C fp s H,PG (cxC X N scope C fp s H) tg g) (ht : ∀ C fp s H,PIf (cxC X N scope C fp s H) ifs tc) (he : ∀ C fp s H,PE (cxC X N scope C fp s H) elt te)
  (h2:PIEH e₀ X pins σ tg (rComp ix g tc te σ Q) itv s2)
  (hR : ∀ (D C:Addr) (s':Shared) (H':Hp) (m:Str→Option Value),Inv X pins σ H' s'→s'.heap.Ns C m→H' C=none→X.s₀.heap.objs.size≤C→(∀ p∈X.pn++pins,p.1≠C)→C≠X.env.locals→(∀ x c,X.env.cells.lookup x=some c→c≠C)→Q (.ref D) H'→RR (.ref D) C (.ok .next) s') :
  wpAny (model X.prog X.w) X.A (newList []) (fun acc s₃=>wpAny (model X.prog X.w) X.A (newFunctionEnv scope X.env.globals (closL X.env.cells scope.names []) [] X.env.qual none .none (some X.env)) (fun cenv s₄ =>
   codeAny (model X.prog X.w) X.A (.compStart (.ListComp elt [⟨tg,iter,ifs,0⟩] scope pos) 0 itv acc { cenv with scope:=relabel scope X.env }) (RR acc cenv.locals) s₄) E s₃) E s2:=by
 obtain ⟨it,fp,tn,J,H2,rfl,I2,T,st2,f2,W,⟨m0,w0⟩,turn⟩:=h2
 refine wpAny_newObj_type (wpAny_newFunctionEnv c.nocell (by intro y hy; simp at hy) (fun h₁ hns₁ hsb₁=>?_) c.kind)
 dsimp only at hns₁ hsb₁ ⊢
 generalize hH2:s2.heap.push { cls:=.type "list", dict:=none,data:=.seq ([] : List Value).toArray }=G2 at hns₁ hsb₁ ⊢
 have hCs:G2.objs.size=s2.heap.objs.size+1:=by rw [← hH2,Heap.size_push]
 generalize hCe:G2.objs.size=C at hns₁ hsb₁ hCs ⊢
 generalize hDe:s2.heap.objs.size=D at hCs ⊢
 have ltC : ∀ b,@LT.lt Nat _ b D→b≠C:=fun b hb=>Nat.ne_of_lt (by rw [hCs]; exact Nat.lt_succ_of_lt hb)
 have ltS : ∀ b o,s2.heap.get? b=some o→@LT.lt Nat _ b D:=fun b o e=>by rw [← hDe]; exact Heap.lt_size e
 have hDC:D≠C:=Nat.ne_of_lt (by rw [hCs]; exact Nat.lt_succ_self _)
 have old : ∀ b o,s2.heap.get? b=some o→h₁.get? b=some o:=fun b o e=>hsb₁.extBut b o (ltC b (ltS b o e)) (Heap.get?_push_of_some _ (hH2 ▸ Heap.get?_push_of_some _ e))
 have hoD:h₁.get? D=some { cls:=.type "list", dict:=none,data:=.seq ([] : List Value).toArray }:=by
  refine hsb₁.extBut _ _ hDC (Heap.get?_push_of_some _ ?_)
  rw [← hH2,← hDe]
  exact Heap.get?_push_size _ rfl
 have I4:Inv (cxC X N scope C fp s2 H2) (pins++[(D,{ cls:=.type "list", data:=.seq ([] : List Value).toArray })]) (startC ix σ) H2 { s2 with heap:=h₁,toks:=s2.toks+([] : List (Str × Value)).length } :=
  c.enter I2 f2 (T.obj _ _ st2) (by rw [hCs,hDe]) hDe.symm old hns₁ hoD fun v z=>by cases z
 have st4:tn 0 h₁:=T.keep _ _ _ st2 fun b _ o e=>old b o e
 have pinD : ∀ p∈X.pn++pins,p.1≠D:=fun p hp=>Nat.ne_of_lt (ltS _ _ (I2.pin p hp).1)
 have pinC : ∀ p∈X.pn++pins,p.1≠C:=fun p hp=>ltC _ (ltS _ _ (I2.pin p hp).1)
 have celD : ∀ x d,X.env.cells.lookup x=some d→@LT.lt Nat _ d D:=fun x d e=>by
  obtain ⟨v,o,ho,_⟩:=I2.cell x d e
  exact ltS d o ho
 have fpD : ∀ b∈fp,@LT.lt Nat _ b D:=fun b hb=>by
  obtain ⟨o,e,_⟩:=T.obj _ _ st2 b hb
  exact ltS b o e
 have sub : ∀ x d,(closL X.env.cells scope.names []).lookup x=some d→X.env.cells.lookup x=some d:=fun x d e=>by
  rcases closL_sub e with z | z
  ·simp at z
  ·exact z
 have stat : ∀ {H':Hp} {oD:Obj},(∀ b∈fp,H' b=none)→∀ b∈fp,FpOk (cxC X N scope C fp s2 H2) (pins++[(D,oD)]) H' b:=fun {H' oD} hn b hb=>by
  obtain ⟨f0,f1,f2,f3,f4,f5⟩:=f2 b hb
  refine ⟨hn b hb,ltC b (fpD b hb),fun z=>?_,.inl hb,fun x d e=>f4 x d (sub x d e),fun p hp=>?_⟩
  ·rcases List.mem_cons.mp (I2.stkSub b z) with e | e
   ·exact f1 e
   ·exact f2 e
  ·have hp:p∈X.pn++(pins++[(D,oD)]):=hp
   rw [← List.append_assoc] at hp
   rcases List.mem_append.mp hp with z | z
   ·exact f5 p z
   ·have e:p=(D,oD):=by simpa using z
    subst e
    exact Nat.ne_of_gt (fpD b hb)
 have loop : ∀ s3:Shared,s3={ s2 with heap:=h₁,toks:=s2.toks+([] : List (Str × Value)).length } →
   codeAny (model X.prog X.w) X.A (.compLoop (.ListComp elt [⟨tg,iter,ifs,0⟩] scope pos) 0 (.ref it) (.ref D) (cxC X N scope C fp s2 H2).env) (RR (.ref D) C) s3:=by
  rintro s3 rfl
  refine compLoop_any (fun n s'=>∃ i σ' H' ys its k,Inv (cxC X N scope C fp s2 H2) (pins++[(D,{ cls:=.type "list", data:=.seq (List.toArray its) k })]) σ' H' s'∧tn i s'.heap∧(∀ b∈fp,H' b=none)∧Vals ys its∧W i n ys σ' H') ?_ m0
   ⟨0,_,H2,[],[],_,I4,st4,fun b hb=>(f2 b hb).1,.nil,w0⟩
  rintro n s3 ⟨i,σ3,H3,ys,its,k,I3,st3,fr3,rv,w3⟩
  rcases turn i n ys σ3 H3 w3 with ⟨stop,hz,qn⟩ | ⟨go,hz,step⟩
  ·refine thn (T.done (cxC X N scope C fp s2 H2) rfl rfl rfl hc i _ s3 σ3 H3 _ I3 (stat fr3) st3 stop) fun r s4 ⟨hr,I4⟩=>?_
   subst hr
   have hDn:H3 D=none:=(I3.pin (D,_) (List.mem_append_right _ (List.mem_append_right _ List.mem_cons_self))).2.1
   obtain ⟨m4,hn4,_⟩:=id I4.loc
   refine hR D C s4 _ m4 (c.leave I2 f2 (by rw [hCs,hDe]) hDe.symm I4 rv hz) hn4 ?_ ?_ pinC ?_ (fun x d e=>ltC d (celD x d e)) (qn D hDn)
   ·rw [upd_ne hDC.symm]; exact I4.free
   ·refine Nat.le_trans I2.sz ?_
    rw [hDe,hCs]; exact Nat.le_succ _
   ·refine Nat.ne_of_gt (Nat.lt_of_lt_of_le I2.lt ?_)
    rw [hDe,hCs]; exact Nat.le_succ _
  ·refine thn (T.item (cxC X N scope C fp s2 H2) rfl rfl rfl hc i _ s3 σ3 H3 _ I3 (stat fr3) st3 go) fun r s4 ⟨u,hr,h4⟩=>?_
   subst hr
   refine thn h4 fun _ s5 ⟨x,H5,I5,r5,y5,st5,fr5⟩=>?_
   have I5':=I5.pinned (stat fr5) (T.obj _ _ st5)
   refine thn (hg C fp s2 H2 _ s5 σ3 H5 x u _ I5' r5 (step x H5 y5)) fun _ s6 ⟨σ6,H6,I6,q6⟩=>?_
   refine thn (ht C fp s2 H2 _ s6 σ6 H6 _ I6 q6) fun ok s7 ⟨H7,I7,q7⟩=>?_
   have keep : ∀ {s':Shared} {σ':St} {H':Hp},Inv (cxC X N scope C fp s2 H2) ((pins++[(D,{ cls:=.type "list", data:=.seq its.toArray k })])++pinsAt fp s5.heap) σ' H' s'→tn (i+1) s'.heap∧∀ b∈fp,H' b=none:=fun {s' σ' H'} I'=>by
    refine ⟨T.keep _ _ _ st5 fun b hb o e=>(I'.pin (b,o) (List.mem_append_right _ (List.mem_append_right _ (mem_pinsAt hb e)))).1,fun b hb=>?_⟩
    obtain ⟨o,e,d⟩:=T.obj _ _ st5 b hb
    exact (I'.pin (b,o) (List.mem_append_right _ (List.mem_append_right _ (mem_pinsAt hb e)))).2.1
   cases ok with
   | false =>
    rw [if_neg Bool.false_ne_true]
    rw [if_neg Bool.false_ne_true] at q7
    obtain ⟨m',hm,w7⟩:=q7
    obtain ⟨k1,k2⟩:=keep I7
    exact ⟨m',hm,i+1,σ6,H7,ys,its,k,I7.unpinned,k1,k2,rv,w7⟩
   | true =>
    rw [if_pos rfl]
    rw [if_pos rfl] at q7
    refine thn (he C fp s2 H2 _ s7 σ6 H7 _ I7 q7) fun y s8 ⟨v,H8,I8,r8,m',hm,w8⟩=>?_
    obtain ⟨k1,k2⟩:=keep I8
    have pD:=I8.pin (D,_) (List.mem_append_right _ (List.mem_append_left _ (List.mem_append_right _ List.mem_cons_self)))
    have I8u:=I8.unpinned
    have I8v:Inv (cxC X N scope C fp s2 H2) pins σ6 H8 s8:=I8u.unpinned
    have len:=rv.length
    refine wpAny_list_append_plain (items:=its.toArray) (hsz:=by simp; omega) ⟨k,pD.1⟩ fun h9 hl9 hs9=>?_
    obtain ⟨k9,e9⟩:=hl9
    have I9:Inv (cxC X N scope C fp s2 H2) pins σ6 H8 { s8 with heap:=h9 }:=by
     refine I8v.turned (t':=s8.toks) (it:=D) (fun b o hb e=>hs9.extBut b o hb e) pD.2.1 hDC (.inr ?_) (fun x d e=>Nat.ne_of_lt (celD x d (sub x d e))) fun p hp=>?_
     ·show s2.heap.objs.size≤D
      rw [hDe]; exact Nat.le_refl _
     ·exact pinD p hp
    have e9':h9.get? D=some { cls:=.type "list", data:=.seq (its++[y]).toArray k9 }:=by
     rw [e9]; simp
    refine ⟨m',hm,i+1,σ6,H8,ys++[v],its++[y],k9,I9.pins_of fun p hp=>?_,T.keep _ _ _ k1 fun b hb o e=>hs9.extBut b o (Nat.ne_of_lt (fpD b hb)) e,k2,rv.append (.cons r8 .nil),w8⟩
    rcases List.mem_append.mp hp with z | z
    ·exact I9.pin p (List.mem_append_right _ z)
    ·have e:p=(D,{ cls:=.type "list", data:=.seq (its++[y]).toArray k9 }):=by simpa using z
     subst e
     exact ⟨e9',pD.2.1,pD.2.2.1,pD.2.2.2.1,fun v z=>by cases z⟩
 exact codeAny_compStart_list (loop _ rfl) (T.self _ 0 _ _ _ st4 (loop _ rfl))
variable {wi:TI}
theorem pe_compH {e₀ : Addr} (c:CompOk X scope N ix) (hc:X.A.handled=some (.ref e₀)) (hi:PIH e₀ X tg iter wi) (hg : ∀ C fp s H,PG (cxC X N scope C fp s H) tg g) (ht : ∀ C fp s H,PIf (cxC X N scope C fp s H) ifs tc) (he : ∀ C fp s H,PE (cxC X N scope C fp s H) elt te)
  (hs : ∀ x,foldedSetIterable iter X.env x=pure x:=by intro _; rfl) : PE X (.ListComp elt [⟨tg,iter,ifs,0⟩] scope pos) (tComp ix wi g tc te):=by
 intro pins s σ H Q I h
 rw [eval_ListComp]
 have hcl : ∀ y∈scope.names,y.2=NameKind.free→∃ d,X.env.cells.lookup y.1=some d:=fun y hy e=>I.ok.has _ (c.fr y hy e)
 refine wpAny_comprehension_free (use:=none) rfl hs (closureFor_eq hcl) c.kind c.names (thn (hi pins s σ H _ I h) fun v s1 h1=>thn h1 fun itv s2 h2=>?_)
 refine comp_blockH (RR:=fun acc C=>compPost (model X.prog X.w) X.A X.xe none (EP X pins σ Q) acc C) c hc hg ht he h2 ?_
 intro D C s' H' m I' hn hC hz hp hL hcells q
 exact ⟨m,hn,fun h' hs'=>⟨.ref D,H',I'.turned (t':=s'.toks) (fun b o hb e=>hs'.extBut b o hb e) hC hL (.inr hz) hcells hp,rfl,q⟩⟩
end
end L2
namespace L2
open PySem PySem.Spec PyProof.Rows PySem.W
def tHaE (K:Frag) (D:Addr) (i:Nat) (ts:Addr→TS) (th:TH) : TH:=fun Dn σ cls e H=>∃ C b,cls=.ref C∧ExcM K C D b ∧
 if b=true then ts e { nx:=fun σ' H'=>Dn.nx (σ'.set i none) H',rt:=Dn.rt,bk:=fun σ' H'=>Dn.bk (σ'.set i none) H',ct:=fun σ' H'=>Dn.ct (σ'.set i none) H' } (σ.set i (some (.ref e))) (upd H e (.exc e C)) else th Dn σ cls e H
section
variable {X:Cx} {hs:List ExceptHandler} {th:TH} {D:Addr} {x n:Str} {np pos:Pos} {b₀ : Stmt} {suite:List Stmt} {i:Nat}
theorem ph_consE {ts:Addr→TS} (hN:X.N.Nodup) (hi:X.N[i]?=some n) (hk:X.env.scope.names.lookup n=some .local) (hg:Gl X x) (hm:X.mg x=some (.ref D)) (hb : ∀ e,PSs (Xh X e) (b₀ :: suite) (ts e)) (hr:PH X hs th) (hdb:(x == ("__debug__" : Str))=false:=by decide) :
  PH X (.ExceptHandler (some (.Name x np)) (some n) (b₀ :: suite) pos :: hs) (tHaE X.K D i ts th):=by
 intro pins s σ H Dn e cls hh h
 obtain ⟨C,b,rfl,m,h⟩:=h
 have I:=hh.inv
 refine wpAny_handleBy_cons (codeAny_handlers_test (ld_glob (X:=Xh X e) (I.toH e) hg hm ?_ hdb)) (by intro q; cases q)
 refine exc_matches m I.kIn hh.eat ?_
 cases b with
 | false=>exact hr pins s σ H Dn e _ hh (by rw [if_neg Bool.false_ne_true] at h; exact h)
 | true =>
  rw [if_pos rfl] at h
  refine codeAny_handlers_suite_as (hh.lands fun h' hh'=>?_)
  refine store_ok (X:=X) (v:=.ref e) hh'.track hN hi (.inl hk) rfl (fun s2 I2=>?_) (.inr hk)
  refine wpAny_mono (hb e pins s2 _ _ _ (I2.toH e) h) (fun f s₃ z=>?_) fun _ _ z=>False.elim z
  have z:=z.ofH I.ok
  cases f with
  | next=>obtain ⟨σ',H',J,q⟩:=z; exact gone_ok J hN hi hk fun s' J'=>⟨_,H',J',q⟩
  | brk=>obtain ⟨σ',H',J,q⟩:=z; exact gone_ok J hN hi hk fun s' J'=>⟨_,H',J',q⟩
  | cont=>obtain ⟨σ',H',J,q⟩:=z; exact gone_ok J hN hi hk fun s' J'=>⟨_,H',J',q⟩
  | ret u=>obtain ⟨v,σ',H',J,r,q⟩:=z; exact gone_ok J hN hi hk fun s' J'=>⟨v,_,H',J',r,q⟩
end
structure FnOkE (P:Program) (w:World) (K:PySem.W.Frag) (mg:Str→Option Value) (base:Heap) (k:Nat) (f:Addr) (fd:FuncData) (ps:List Str) (sp:Sp) : Prop where
 len : ∀ vs H Q E,sp vs H Q E→vs.length=ps.length
 run : ∀ (A:Around) (outer:List Env) (s:Shared) (H:Hp) (args:Args) (us:List Value) (vs:List V) (Q:VK) (E:XK) (e:Addr),RoomH k A→A.handled=some (.ref e)→vs.head?=some (.ref e)→Env0 P w K mg base A outer s H→BindsTo s fd args (ps.zip us)→Vals vs us→sp vs H Q E →
  codeAny (model P w) A (.call (.ref f) args) (CR CX0 outer P w H s Q E) s
section
variable {P:Program} {w:World} {K:PySem.W.Frag} {mg:Str→Option Value} {base:Heap} {N ps:List Str} {qual:Str} {scope:Scope} {f:Addr} {cdv:Value} {A:Around} {outer:List Env} {s:Shared} {H:Hp} {E:XK}
theorem Fun.okE {x:Str} {st:Stmt} {fd:FuncData} {k:Nat} {sp:Sp} (F:Fun K x qual st f fd) (S:FnScope N ps (defScope st)) (len : ∀ vs H Q E,sp vs H Q E→vs.length=ps.length)
  (hbody : ∀ (cdv:Value) (A:Around) (outer:List Env) (s:Shared) (H:Hp) (vs:List V) (Q:VK) (E:XK) (e:Addr),RoomH k (A.deeper (envOfC qual (defScope st) s.heap.objs.size f cdv))→A.handled=some (.ref e)→vs.head?=some (.ref e)→sp vs H Q E →
   ∃ t,PSs (cxH P w K mg base N qual (defScope st) f cdv A outer s H) (defBody st) t∧t { nx:=fun _ H'=>Q .non H',rt:=Q } (start N vs) H) : FnOkE P w K mg base (k+1) f fd ps sp:=by
 obtain ⟨oc,od,kV,doc,pm,an,cdv,ct,osl,rfl,lk,hcd⟩:=F.ex
 refine ⟨len,fun A outer s H args us vs Q E e hr hh he e0 hb r hsp=>?_⟩
 have hl:=len _ _ _ _ hsp
 have KX:K.In s.heap:=e0.mod.kin.keeps fun b o e=>(e0.bs b o e).1
 have lim:s.heap.NoLimit:=e0.mod.nolimit.keeps fun b o e=>(e0.bs b o e).1
 have hkind : ∀ y∈ps.zip us,(defScope st).names.lookup y.1=some .local∨((defScope st).names.lookup y.1=some .cell∧((cellsFrom (s.heap.objs.size+1) (defScope st).names []).lookup y.1).isSome=true):=fun ⟨n,v⟩ hy=>by
  rcases S.par n (List.of_mem_zip hy).1 with q | q
  ·exact .inl q
  ·exact .inr ⟨q,PySem.W.cellsFrom_some _ _ _ (.inl q)⟩
 refine codeAny_call_function hr.depth (KX _ _ lk) rfl S.co S.gen rfl (PySem.W.codeRec_of KX hcd) (hb _ _ _ _ ?_)
 refine wpAny_newFunctionEnv_cells S.kind hkind fun env he s1 x=>?_
 subst he
 refine ⟨lim.keeps x.toInCall.keep,codeAny_func ?_⟩
 obtain ⟨t,ht,hq⟩:=hbody cdv A outer s H vs Q E e (hr.deeper _) hh he hsp
 have I:Inv (cxH P w K mg base N qual (defScope st) f cdv A outer s H) [] (start N vs) H s1:=inv_startH S e0 hl r x
 refine wpAny_mono (ht [] s1 (start N vs) H _ I hq) (fun fl s' hs=>?_) fun e s' hs=>False.elim hs
 have fin : ∀ {σ':St} {H':Hp} {v:V} {u:Value},Inv (cxH P w K mg base N qual (defScope st) f cdv A outer s H) [] σ' H' s'→RelV v u→Q v H'→CE outer P w H s Q u s' :=
  fun {σ' H' v u} J rv q=>⟨v,H',J.os,J.bare,J.base,J.hok,rv,q⟩
 cases fl with
 | ret u =>
  obtain ⟨v,σ',H',J,rv,q⟩:=hs
  exact fin J rv q
 | next =>
  obtain ⟨σ',H',J,q⟩:=hs
  exact fin (v:=V.non) (u:=Value.none) J rfl q
 | brk =>
  obtain ⟨_,_,_,q⟩:=hs
  exact False.elim q
 | cont =>
  obtain ⟨_,_,_,q⟩:=hs
  exact False.elim q
end
structure FnAtE (P:Program) (w:World) (K:PySem.W.Frag) (mg:Str→Option Value) (base:Heap) (x:Str) (k:Nat) (ps:List Str) (sp:Sp) : Prop where
 ex : ∃ (f:Addr) (fd:FuncData),FnOkE P w K mg base k f fd ps sp∧mg x=some (.ref f)∧PySem.W.keepIn K (.ref f)=true∧Binds K fd ps []
def tCallE (e₀ : Addr) (sp:Sp) (t:TA) : TE:=fun σ H Q=>t σ H fun vs H1=>vs.head?=some (.ref e₀)∧sp vs H1 Q E0
section
variable {X:Cx} {x:Str} {k:Nat} {ps:List Str} {sp:Sp} {e:Expr} {es:List Expr} {t:TA} {p pos:Pos}
theorem pe_callE {e₀ : Addr} (F:FnAtE X.prog X.w X.K X.mg X.base x k ps sp) (hr:RoomH k X.A) (hh:X.A.handled=some (.ref e₀)) (hg:Gl X x) (ha:PA X (e :: es) t) (hdb:(x == ("__debug__" : Str))=false:=by decide +kernel) (he:starEach (e :: es) X.env=(false,eval e X.env) :: starEach es X.env:=by rfl) (hpl:(backTo pos (starEach es X.env)).any (·.1)=false:=by rfl) :
  PE X (.Call (.Name x p) (e :: es) [] pos) (tCallE e₀ sp t):=by
 obtain ⟨f,fd,F,hm,hk,hb⟩:=F.ex
 intro pins s σ H Q I h
 refine wpAny_Call_Name_kw (ld_glob I hg hm ?_ hdb)
 refine PySem.W.callWith_K (h₀:=X.base) I.ok.mod.kin hk (thn (ha pos pins s σ H _ I h) fun us s1 ⟨vs,H1,I1,r,q⟩=>⟨I1.kIn,?_⟩) he hpl
 obtain ⟨hv,q⟩:=q
 have hl:us.length=ps.length:=by rw [← r.length]; exact F.len _ _ _ _ q
 have bb:=hb s1 us I1.kIn (by rw [List.append_nil]; exact hl)
 rw [List.append_nil] at bb
 refine wpAny_call (codeAny_mono (F.run X.A X.stack s1 H1 ⟨us,[]⟩ us vs Q E0 e₀ hr hh hv I1.env0 bb r q) fun r s' hq=>?_)
 cases r with
 | error ev=>exact False.elim hq
 | ok fl =>
  cases fl with
  | ret u=>exact I1.after hq
  | next=>exact False.elim hq
  | brk=>exact False.elim hq
  | cont=>exact False.elim hq
end
end L2
namespace Sw
open PySem L2
def words12:List Str:=["Unlike", "NoRounds", "Apart", "NoMove", "NotLeast", "NotGreat", "NoTree", "NoCars", "NoChain", "NoBound", "NoText", "NoName"]
structure Kin (K:PySem.W.Frag) (cl:ClsA) (C:Addr) (x:Str) : Prop where
 ei:ExcI K C
 ve:PySem.W.kitOne K (.ref C) (.type "ValueError")=some true
 bs : ∃ b1 b2 b3 b4 b5 b6 b7 b8 b9 b10 b11 b12,PySem.W.kitOne K (.ref C) (.ref cl.Unlike)=some b1∧PySem.W.kitOne K (.ref C) (.ref cl.NoRounds)=some b2∧PySem.W.kitOne K (.ref C) (.ref cl.Apart)=some b3 ∧
  PySem.W.kitOne K (.ref C) (.ref cl.NoMove)=some b4∧PySem.W.kitOne K (.ref C) (.ref cl.NotLeast)=some b5∧PySem.W.kitOne K (.ref C) (.ref cl.NotGreat)=some b6∧PySem.W.kitOne K (.ref C) (.ref cl.NoTree)=some b7 ∧
  PySem.W.kitOne K (.ref C) (.ref cl.NoCars)=some b8∧PySem.W.kitOne K (.ref C) (.ref cl.NoChain)=some b9∧PySem.W.kitOne K (.ref C) (.ref cl.NoBound)=some b10∧PySem.W.kitOne K (.ref C) (.ref cl.NoText)=some b11 ∧
  PySem.W.kitOne K (.ref C) (.ref cl.NoName)=some b12∧((words12.zip [b1,b2,b3,b4,b5,b6,b7,b8,b9,b10,b11,b12]).filter (·.2)).map (·.1)=[x]
 sh:JoinOk " " [x]=true
def spKind (K:PySem.W.Frag) (cl:ClsA) : Sp:=fun vs H Q _=>∃ (e C:Addr) (x:Str),vs=[.ref e]∧H e=some (.exc e C)∧Kin K cl C x∧∀ H',Same H H'→Q (.str x) H'
structure TKd (mg:Str→Option Value) (cl:ClsA) : Prop extends TCl mg cl where
 b_range:mg "range" = none
theorem compRHif {e₀ : Addr} {ix:List (Option Nat)} {tc:TT} {te:TE} {σ : St} {Q:VK} {H:Hp} {lo:Int} {n:Nat} {k:Nat} (Pv:Nat→List V→St→Hp→Prop) (hn:n≤1000000) (h0:Pv 0 [] (startC ix σ) H) (hlen : ∀ i ys σ H,Pv i ys σ H→ys.length≤i)
  (hx : ∀ ys σ H,Pv n ys σ H→∃ C,H e₀=some (.exc e₀ C))
  (hs : ∀ i ys σ H (R:St→List V→Hp→Prop),i<n→Pv i ys σ H→(∀ σ2 ys2 H5,Pv (i+1) ys2 σ2 H5→R σ2 ys2 H5) →
   tc (σ.set k (some (.int (lo+i)))) H fun b H4=>if b=true then te (σ.set k (some (.int (lo+i)))) H4 fun v H5=>R (σ.set k (some (.int (lo+i)))) (ys++[v]) H5 else R (σ.set k (some (.int (lo+i)))) ys H4)
  (hd : ∀ ys σ' H' p,Pv n ys σ' H'→H' p=none→Q (.ref p) (upd H' p (.lst ys))) : rComp ix (gName k) tc te σ Q (ItrH e₀ lo n) H:=by
 refine comp_by Pv hn h0 (fun i ys σ H hi p=>hi) (fun ys σ H p=>⟨Nat.le_refl _,hx ys σ H p⟩) hlen (fun i ys σ H x H2 R hi p y r=>?_) hd
 obtain ⟨rfl,rfl⟩:=y
 exact hs i ys σ _ R hi p r
section
variable {P:Program} {w:World} {K:PySem.W.Frag} {mg:Str→Option Value} {base:Heap} {cl:ClsA}
theorem sc__law_kind:FnScope ["_law_e", "_law_some", "_law_words"] ["_law_e"] (defScope (top 52)):=⟨rfl,rfl,rfl,by decide +kernel,rfl,by decide +kernel,by decide +kernel⟩
theorem ok_kind {f:Addr} {fd:FuncData} (F:Fun K "_law_kind" "_law_kind" (top 52) f fd) (T:TKd mg cl) : FnOkE P w K mg base 1 f fd ["_law_e"] (spKind K cl):=by
 refine F.okE sc__law_kind (fun vs H Q E h=>?_) (fun cdv A outer s H vs Q E e₀ hr hd hv h=>?_)
 ·obtain ⟨e,C,x,rfl,_⟩:=h
  rfl
 ·obtain ⟨e,C,x,rfl,he,al,k⟩:=h
  obtain rfl:e=e₀:=V.ref.inj (Option.some.inj hv)
  obtain ⟨b1,b2,b3,b4,b5,b6,b7,b8,b9,b10,b11,b12,k1,k2,k3,k4,k5,k6,k7,k8,k9,k10,k11,k12,hc⟩:=al.bs
  refine ⟨_,(@pss_cons _ _ _ _ _ (@ps_set _ _ 1 _ _ _ _ sc__law_kind.nd rfl (Or.inr rfl) (@pe_lst _ _ _ _ (@pa_cons _ _ _ _ _ (pe_callB (call_isiX (K:=K) rfl) rfl T.b_isinstance (by decide +kernel) (pa_cons (pv 0) (pa_cons (pe_cls rfl T.c_Unlike) pa_nil))) (@pa_cons _ _ _ _ _ (pe_callB (call_isiX (K:=K) rfl) rfl T.b_isinstance (by decide +kernel) (pa_cons (pv 0) (pa_cons (pe_cls rfl T.c_NoRounds) pa_nil))) (@pa_cons _ _ _ _ _ (pe_callB (call_isiX (K:=K) rfl) rfl T.b_isinstance (by decide +kernel) (pa_cons (pv 0) (pa_cons (pe_cls rfl T.c_Apart) pa_nil))) (@pa_cons _ _ _ _ _ (pe_callB (call_isiX (K:=K) rfl) rfl T.b_isinstance (by decide +kernel) (pa_cons (pv 0) (pa_cons (pe_cls rfl T.c_NoMove) pa_nil))) pa_nil st_call) st_call) st_call) st_call)) (by rfl) (by first | exact .inl rfl | exact .inr rfl))
   (@pss_cons _ _ _ _ _ (@ps_set _ _ 1 _ _ _ _ sc__law_kind.nd rfl (Or.inr rfl) (pe_op op_cat (pv 1) (@pe_lst _ _ _ _ (@pa_cons _ _ _ _ _ (pe_callB (call_isiX (K:=K) rfl) rfl T.b_isinstance (by decide +kernel) (pa_cons (pv 0) (pa_cons (pe_cls rfl T.c_NotLeast) pa_nil))) (@pa_cons _ _ _ _ _ (pe_callB (call_isiX (K:=K) rfl) rfl T.b_isinstance (by decide +kernel) (pa_cons (pv 0) (pa_cons (pe_cls rfl T.c_NotGreat) pa_nil))) (@pa_cons _ _ _ _ _ (pe_callB (call_isiX (K:=K) rfl) rfl T.b_isinstance (by decide +kernel) (pa_cons (pv 0) (pa_cons (pe_cls rfl T.c_NoTree) pa_nil))) (@pa_cons _ _ _ _ _ (pe_callB (call_isiX (K:=K) rfl) rfl T.b_isinstance (by decide +kernel) (pa_cons (pv 0) (pa_cons (pe_cls rfl T.c_NoCars) pa_nil))) pa_nil st_call) st_call) st_call) st_call))) (by rfl) (by first | exact .inl rfl | exact .inr rfl))
   (@pss_cons _ _ _ _ _ (@ps_set _ _ 1 _ _ _ _ sc__law_kind.nd rfl (Or.inr rfl) (pe_op op_cat (pv 1) (@pe_lst _ _ _ _ (@pa_cons _ _ _ _ _ (pe_callB (call_isiX (K:=K) rfl) rfl T.b_isinstance (by decide +kernel) (pa_cons (pv 0) (pa_cons (pe_cls rfl T.c_NoChain) pa_nil))) (@pa_cons _ _ _ _ _ (pe_callB (call_isiX (K:=K) rfl) rfl T.b_isinstance (by decide +kernel) (pa_cons (pv 0) (pa_cons (pe_cls rfl T.c_NoBound) pa_nil))) (@pa_cons _ _ _ _ _ (pe_callB (call_isiX (K:=K) rfl) rfl T.b_isinstance (by decide +kernel) (pa_cons (pv 0) (pa_cons (pe_cls rfl T.c_NoText) pa_nil))) (@pa_cons _ _ _ _ _ (pe_callB (call_isiX (K:=K) rfl) rfl T.b_isinstance (by decide +kernel) (pa_cons (pv 0) (pa_cons (pe_cls rfl T.c_NoName) pa_nil))) pa_nil st_call) st_call) st_call) st_call))) (by rfl) (by first | exact .inl rfl | exact .inr rfl))
   (@pss_cons _ _ _ _ _ (@ps_set _ _ 2 _ _ _ _ sc__law_kind.nd rfl (Or.inr rfl) (@pe_lst _ _ _ _ (@pa_consts _ _ [V.str (Str.ofString "Unlike"),V.str (Str.ofString "NoRounds"),V.str (Str.ofString "Apart"),V.str (Str.ofString "NoMove"),V.str (Str.ofString "NotLeast"),V.str (Str.ofString "NotGreat"),V.str (Str.ofString "NoTree"),V.str (Str.ofString "NoCars"),V.str (Str.ofString "NoChain"),V.str (Str.ofString "NoBound")] rfl)) (by rfl) (by first | exact .inl rfl | exact .inr rfl))
   (pss_cons (ps_set (i:=2) sc__law_kind.nd rfl (Or.inr rfl) (pe_op op_cat (pv 2) (pe_lst (pa_cons pe_str (pa_cons pe_str pa_nil)))))
   (pss_cons (ps_if (pt_not (pt_val (pe_callB (call_isiX (K:=K) rfl) rfl T.b_isinstance (by decide +kernel) (pa_cons (pv 0) (pa_cons (pe_bltn (v:=.ty "ValueError") rfl T.b_ValueError (by decide +kernel) rfl) pa_nil))))) (pss_one (ps_ret pe_str)) pss_nil)
   (pss_one (ps_ret (pe_bmK (K:=K) rfl PySem.F.plainAttrs_str PySem.F.slot_str_join PySem.F.type_str_join (mt_join (K:=K) rfl) pe_str (pa_cons (pe_compH (N:=(["_law_k", "_law_words", "_law_some"] : List Str)) (ix:=([none,some 2,some 1] : List (Option Nat))) (comp_ok rfl rfl) hd (pi_range1H rfl T.b_range (pa_cons pe_int pa_nil)) (fun _ _ _ _=>(pg_name (i:=0) (show List.Nodup (["_law_k", "_law_words", "_law_some"] : List Str) from by decide +kernel) rfl (Or.inl rfl))) (fun _ _ _ _=>(pif_one (pt_val (pe_ix (ix_listK (K:=K) rfl) (pv 2) (pv 0) (fun _ _=>rfl))))) (fun _ _ _ _=>(pe_ix (ix_listK (K:=K) rfl) (pv 1) (pv 0) (fun _ _=>rfl)))) pa_nil)))))))))),?_⟩
  refine ⟨_,rfl,e,C,_,_,_,rfl,he,al.ei,ref_is,k1,_,rfl,e,C,_,_,_,rfl,he,al.ei,ref_is,k2,_,rfl,e,C,_,_,_,rfl,he,al.ei,ref_is,k3,_,rfl,e,C,_,_,_,rfl,he,al.ei,ref_is,k4,(by show 4≤sizeLine; decide),fun l1 f1=>?_⟩
  have h1:=Same.new (o:=.lst [.bl b1,.bl b2,.bl b3,.bl b4]) f1 _ _ he
  refine ⟨_,rfl,_,rfl,e,C,_,_,_,rfl,h1,al.ei,ref_is,k5,_,rfl,e,C,_,_,_,rfl,h1,al.ei,ref_is,k6,_,rfl,e,C,_,_,_,rfl,h1,al.ei,ref_is,k7,_,rfl,e,C,_,_,_,rfl,h1,al.ei,ref_is,k8,(by show 4≤sizeLine; decide),fun l2 f2=>?_⟩
  have s2:=(Same.new (o:=.lst [.bl b1,.bl b2,.bl b3,.bl b4]) f1).trans (Same.new (o:=.lst [.bl b5,.bl b6,.bl b7,.bl b8]) f2)
  have g1:=Same.new (o:=.lst [.bl b5,.bl b6,.bl b7,.bl b8]) f2 _ _ (upd_same (H:=H) (a:=l1) (o:=.lst [.bl b1,.bl b2,.bl b3,.bl b4]))
  refine ⟨l1,l2,_,_,rfl,rfl,g1,upd_same,(by show 8≤sizeLine; decide),fun l3 f3=>?_⟩
  have s3:=s2.trans (Same.new (o:=.lst ([.bl b1,.bl b2,.bl b3,.bl b4]++[.bl b5,.bl b6,.bl b7,.bl b8])) f3)
  have h3:=s3 _ _ he
  have g3:upd (upd (upd H l1 (.lst [.bl b1,.bl b2,.bl b3,.bl b4])) l2 (.lst [.bl b5,.bl b6,.bl b7,.bl b8])) l3 (.lst ([.bl b1,.bl b2,.bl b3,.bl b4]++[.bl b5,.bl b6,.bl b7,.bl b8])) l3=some (.lst ([.bl b1,.bl b2,.bl b3,.bl b4]++[.bl b5,.bl b6,.bl b7,.bl b8])):=upd_same
  generalize upd (upd (upd H l1 (.lst [.bl b1,.bl b2,.bl b3,.bl b4])) l2 (.lst [.bl b5,.bl b6,.bl b7,.bl b8])) l3 (.lst ([.bl b1,.bl b2,.bl b3,.bl b4]++[.bl b5,.bl b6,.bl b7,.bl b8]))=H3 at s3 h3 g3 ⊢
  refine ⟨_,rfl,_,rfl,e,C,_,_,_,rfl,h3,al.ei,ref_is,k9,_,rfl,e,C,_,_,_,rfl,h3,al.ei,ref_is,k10,_,rfl,e,C,_,_,_,rfl,h3,al.ei,ref_is,k11,_,rfl,e,C,_,_,_,rfl,h3,al.ei,ref_is,k12,(by show 4≤sizeLine; decide),fun l4 f4=>?_⟩
  have g4:=Same.new (o:=.lst [.bl b9,.bl b10,.bl b11,.bl b12]) f4 _ _ g3
  refine ⟨l3,l4,_,_,rfl,rfl,g4,upd_same,(by show 12≤sizeLine; decide),fun l5 f5=>?_⟩
  have s5:=s3.trans ((Same.new (o:=.lst [.bl b9,.bl b10,.bl b11,.bl b12]) f4).trans (Same.new (o:=.lst (([.bl b1,.bl b2,.bl b3,.bl b4]++[.bl b5,.bl b6,.bl b7,.bl b8])++[.bl b9,.bl b10,.bl b11,.bl b12])) f5))
  have h5:=s5 _ _ he
  have hl5:upd (upd H3 l4 (.lst [.bl b9,.bl b10,.bl b11,.bl b12])) l5 (.lst (([.bl b1,.bl b2,.bl b3,.bl b4]++[.bl b5,.bl b6,.bl b7,.bl b8])++[.bl b9,.bl b10,.bl b11,.bl b12])) l5=some (.lst (([b1,b2,b3,b4,b5,b6,b7,b8,b9,b10,b11,b12] : List Bool).map V.bl)):=upd_same
  generalize upd (upd H3 l4 (.lst [.bl b9,.bl b10,.bl b11,.bl b12])) l5 (.lst (([.bl b1,.bl b2,.bl b3,.bl b4]++[.bl b5,.bl b6,.bl b7,.bl b8])++[.bl b9,.bl b10,.bl b11,.bl b12]))=H5 at s5 h5 hl5 ⊢
  refine ⟨(by show 10≤sizeLine; decide),fun l6 f6=>⟨_,rfl,(by show 2≤sizeLine; decide),fun l7 f7=>?_⟩⟩
  have q6:=Same.new (o:=.lst [V.str (Str.ofString "Unlike"),V.str (Str.ofString "NoRounds"),V.str (Str.ofString "Apart"),V.str (Str.ofString "NoMove"),V.str (Str.ofString "NotLeast"),V.str (Str.ofString "NotGreat"),V.str (Str.ofString "NoTree"),V.str (Str.ofString "NoCars"),V.str (Str.ofString "NoChain"),V.str (Str.ofString "NoBound")]) f6
  have q7:=Same.new (o:=.lst [V.str (Str.ofString "NoText"),V.str (Str.ofString "NoName")]) f7
  refine ⟨l6,l7,_,_,rfl,rfl,q7 _ _ upd_same,upd_same,(by show 12≤sizeLine; decide),fun l8 f8=>?_⟩
  have q8:=Same.new (o:=.lst ([V.str (Str.ofString "Unlike"),V.str (Str.ofString "NoRounds"),V.str (Str.ofString "Apart"),V.str (Str.ofString "NoMove"),V.str (Str.ofString "NotLeast"),V.str (Str.ofString "NotGreat"),V.str (Str.ofString "NoTree"),V.str (Str.ofString "NoCars"),V.str (Str.ofString "NoChain"),V.str (Str.ofString "NoBound")]++[V.str (Str.ofString "NoText"),V.str (Str.ofString "NoName")])) f8
  have s58:=Same.trans q6 (Same.trans q7 q8)
  have hl8:(upd (upd (upd H5 l6 (.lst [V.str (Str.ofString "Unlike"),V.str (Str.ofString "NoRounds"),V.str (Str.ofString "Apart"),V.str (Str.ofString "NoMove"),V.str (Str.ofString "NotLeast"),V.str (Str.ofString "NotGreat"),V.str (Str.ofString "NoTree"),V.str (Str.ofString "NoCars"),V.str (Str.ofString "NoChain"),V.str (Str.ofString "NoBound")])) l7 (.lst [V.str (Str.ofString "NoText"),V.str (Str.ofString "NoName")])) l8 (.lst ([V.str (Str.ofString "Unlike"),V.str (Str.ofString "NoRounds"),V.str (Str.ofString "Apart"),V.str (Str.ofString "NoMove"),V.str (Str.ofString "NotLeast"),V.str (Str.ofString "NotGreat"),V.str (Str.ofString "NoTree"),V.str (Str.ofString "NoCars"),V.str (Str.ofString "NoChain"),V.str (Str.ofString "NoBound")]++[V.str (Str.ofString "NoText"),V.str (Str.ofString "NoName")]))) l8=some (.lst (words12.map V.str)):=upd_same
  generalize upd (upd (upd H5 l6 (.lst [V.str (Str.ofString "Unlike"),V.str (Str.ofString "NoRounds"),V.str (Str.ofString "Apart"),V.str (Str.ofString "NoMove"),V.str (Str.ofString "NotLeast"),V.str (Str.ofString "NotGreat"),V.str (Str.ofString "NoTree"),V.str (Str.ofString "NoCars"),V.str (Str.ofString "NoChain"),V.str (Str.ofString "NoBound")])) l7 (.lst [V.str (Str.ofString "NoText"),V.str (Str.ofString "NoName")])) l8 (.lst ([V.str (Str.ofString "Unlike"),V.str (Str.ofString "NoRounds"),V.str (Str.ofString "Apart"),V.str (Str.ofString "NoMove"),V.str (Str.ofString "NotLeast"),V.str (Str.ofString "NotGreat"),V.str (Str.ofString "NoTree"),V.str (Str.ofString "NoCars"),V.str (Str.ofString "NoChain"),V.str (Str.ofString "NoBound")]++[V.str (Str.ofString "NoText"),V.str (Str.ofString "NoName")]))=H8 at s58 hl8 ⊢
  clear q6 q7 q8 f6 f7 f8
  have h8:=s58 _ _ h5
  have hs8:=s58 _ _ hl5
  refine ⟨_,rfl,e,C,_,_,_,rfl,h8,al.ei,(fun u r=>r),al.ve,true,rfl,iteF ?_⟩
  generalize hbs:([b1,b2,b3,b4,b5,b6,b7,b8,b9,b10,b11,b12] : List Bool)=bs at hc hs8
  have bl:bs.length=12:=by rw [← hbs]; rfl
  refine ⟨rfl,12,rfl,by decide,by decide,compRHif (k:=0) (fun i ys σ' H'=>ys=(((words12.zip bs).take i).filter (·.2)).map (fun p=>V.str p.1)∧(∃ v,σ'=[v,some (.ref l8),some (.ref l5)])∧H'=H8) (by decide) ⟨rfl,⟨none,rfl⟩,rfl⟩ (fun i ys σ' H' q=>?_) (fun ys σ' H' q=>⟨C,by rw [q.2.2]; exact h8⟩) ?_ ?_⟩
  ·rw [q.1,List.length_map]
   exact Nat.le_trans (List.length_filter_le _ _) (by rw [List.length_take]; omega)
  ·rintro i ys σ' H' R hi ⟨rfl,⟨v,rfl⟩,rfl⟩ done
   have hi:i<12:=hi
   obtain ⟨x,hx⟩ : ∃ x,words12[i]?=some x:=⟨_,List.getElem?_eq_getElem (show i<words12.length from hi)⟩
   obtain ⟨b,hb⟩ : ∃ b,bs[i]?=some b:=⟨_,List.getElem?_eq_getElem (by omega)⟩
   have e0:(0:Int)+(i:Int)=(i:Int):=by omega
   have hz:(words12.zip bs)[i]?=some (x,b):=by rw [List.getElem?_zip_eq_some]; exact ⟨hx,hb⟩
   have tk:(words12.zip bs).take (i+1)=(words12.zip bs).take i++[(x,b)]:=by rw [List.take_succ,hz]; rfl
   refine ⟨_,rfl,_,rfl,l5,_,_,_,rfl,rfl,SqL.of hs8,by rw [e0]; exact atI_nat (by rw [List.getElem?_map,hb]; rfl),b,rfl,?_⟩
   cases b with
   | true =>
    refine iteT ⟨_,rfl,_,rfl,l8,_,_,_,rfl,rfl,SqL.of hl8,by rw [e0]; exact atI_nat (by rw [List.getElem?_map,hx]; rfl),done _ _ _ ⟨?_,⟨_,rfl⟩,rfl⟩⟩
    rw [tk,List.filter_append,List.map_append]
    rfl
   | false =>
    refine iteF (done _ _ _ ⟨?_,⟨_,rfl⟩,rfl⟩)
    rw [tk,List.filter_append,List.map_append]
    exact (List.append_nil _).symm
  ·rintro ys σ' H' q ⟨rfl,⟨v,rfl⟩,rfl⟩ fq
   have full:(words12.zip bs).take (Int.toNat 12)=words12.zip bs:=List.take_of_length_le (by rw [List.length_zip,bl]; decide)
   have ey:(((words12.zip bs).take (Int.toNat 12)).filter (·.2)).map (fun p=>V.str p.1)=[x].map V.str:=by rw [full,← hc,List.map_map]; rfl
   rw [ey]
   refine ⟨_,q,[x],rfl,rfl,SqL.of upd_same,al.sh,?_⟩
   have one:Str.join (Str.ofString " ") [x]=x:=rfl
   rw [one]
   exact k _ ((s5.trans s58).trans (Same.new fq))
end
end Sw
namespace L2
open PySem PySem.Spec PyProof.Rows
section
variable {prog:Program} {w:World} {A:Around} {E:Value→Shared→Prop} {s:Shared}
theorem list_endH {it l e:Addr} {i:Nat} {items:Array Value} {Q:Option Value→Shared→Prop} (hh:A.handled=some (.ref e)) (lo:Lone s.heap e) (ne:e≠it) (hit:s.heap.IsListIter it l i) (hl:s.heap.IsList l items) (hx:items[i]?=none)
  (hQ : ∀ h',Heap.ExtBut it s.heap h'→Q none { s with heap:=h' }) : wpAny (model prog w) A (pyNext (.ref it)) Q E s:=by
 obtain ⟨o,ho,hc,hd⟩:=id hit
 obtain ⟨ol,hol,_,nl,hdl⟩:=hl
 have sz : @LT.lt Nat _ e s.heap.objs.size:=by
  obtain ⟨o,vs,h1,_⟩:=lo
  exact Heap.lt_size h1
 unfold pyNext
 refine wpAny_bind (wpAny_attempt (wpAny_callSpecial?_slot (name:=Str.ofString "__next__") hit.typeIs slot_listiter_next (wpAny_call_entry slot_listiter_next hit.typeIs entry_listiter_next ?_ (args_listiter_next _))))
 show wpAny _ _ (field (.ref it) 0 >>= _) _ _ s
 refine wpAny_bind (wpAny_field ho hd (x:=.ref l) rfl ?_)
 show wpAny _ _ (if (Value.ref l == Value.none)=true then _ else _) _ _ s
 rw [if_neg (show ¬ ((Value.ref l == Value.none)=true) from Bool.false_ne_true)]
 show wpAny _ _ (field (.ref it) 1 >>= _) _ _ s
 refine wpAny_bind (wpAny_field ho hd (x:=.int i 0) rfl ?_)
 show wpAny _ _ (seqItems? (.ref l) >>= _) _ _ s
 refine wpAny_bind (wpAny_seqItems hol hdl ?_)
 simp only [Int.toNat_natCast,hx]
 refine wpAny_bind (wpAny_rule (wpAny_bind (wpAny_setField ho hd (by simp) ?_)))
 show wpAny _ _ (newExc (.type "StopIteration") [] >>= _) _ _ _
 refine wpAny_bind ?_
 simp only [newExc,newTuple]
 refine wpAny_bind (wpAny_newObj_type (wpAny_bind (m:=firstArgMember _ _) (wpAny_of_eq (a:=Value.none) (by first | rfl | (simp only [firstArgMember]; rfl)) (wpAny_newObj_type ?_ (by size_fits)))) (by size_fits))
 simp only [raiseNew]
 refine wpAny_bind (wpAny_handled ?_)
 first | rw [show A.in1.handled=some (.ref e) from hh] | rw [hh]
 dsimp only
 have eb:Heap.ExtBut it s.heap (s.heap.update it (Obj.mapFields fun x=>x.setIfInBounds 0 Value.none)):=(Heap.SameBut.update ..).extBut
 have lo':Lone (s.heap.update it (Obj.mapFields fun x=>x.setIfInBounds 0 Value.none)) e:=by
  obtain ⟨o,vs,h1,h2,h3⟩:=lo
  exact ⟨o,vs,eb e o ne h1,h2,h3⟩
 generalize s.heap.update it (Obj.mapFields fun x=>x.setIfInBounds 0 Value.none)=g at eb lo' ⊢
 have sz' : @LT.lt Nat _ e g.objs.size:=by
  obtain ⟨o,vs,h1,_⟩:=lo'
  exact Heap.lt_size h1
 have ne:e≠(g.push { cls:=Value.type "tuple", data:=Data.seq #[] }).objs.size:=by
  rw [Heap.size_push]
  exact Nat.ne_of_lt (Nat.lt_succ_of_lt sz')
 rw [if_pos (show (Value.ref e != Value.ref (g.push { cls:=Value.type "tuple", data:=Data.seq #[] }).objs.size)=true by simpa using ne)]
 refine wpAny_bind (wpAny_holding (unchain_lone (lo'.keeps fun b o q=>Heap.get?_push_of_some _ (Heap.get?_push_of_some _ q)) ?_))
 unfold updateField
 refine wpAny_bind (wpAny_bind (wpAny_load (Heap.get?_push_size _ rfl) ?_))
 dsimp only
 rw [if_pos (by rw [Array.size_append]; show 2<6+_; omega)]
 refine wpAny_update (Heap.get?_push_size _ rfl) (wpAny_throw ?_)
 refine wpAny_bind (wpAny_isInstance (T := "StopIteration") (b:=true) ⟨_,Heap.get?_update_self _ (Heap.get?_push_size _ rfl) rfl,rfl⟩ isSubtype_stop ?_)
 refine wpAny_pure (hQ _ fun b o hb q=>?_)
 have q':=eb b o hb q
 rw [Heap.get?_update_other]
 ·exact Heap.get?_push_of_some _ (Heap.get?_push_of_some _ q')
 ·have : @LT.lt Nat _ b g.objs.size:=Heap.lt_size q'
  rw [Heap.size_push]
  exact Nat.ne_of_gt (Nat.lt_succ_of_lt this)
end
def ItlH (e:Addr) (K:PySem.W.Frag) (a:Addr) : It :=
 ⟨fun i H=>∃ xs x,SqL K H a xs∧xs[i]?=some x,fun i H x H'=>H'=H∧∀ xs,SqL K H a xs→xs[i]?=some x,fun i H=>(∃ xs,SqL K H a xs∧xs.length≤i)∧∃ C,H e=some (.exc e C)⟩
theorem turn_listH {e:Addr} {P:Program} {w:World} {K:PySem.W.Frag} {tg:Expr} (a it:Addr) : TurnH e P w K tg (ItlH e K a) [it] it (fun i h=>h.IsListIter it a i) where
 mem:=by simp
 obj:=fun i h st b hb=>by
  have q:b=it:=by simpa using hb
  subst q
  obtain ⟨o,e,c,d⟩:=st
  exact ⟨o,e,fun v z=>by rw [d] at z; cases z⟩
 keep:=fun i h h' st k=>st.at fun o e=>k it (by simp) o e
 item:=by
  intro X hP hw hK hc i pins s σ H E I hf st hg
  subst hP hw hK
  obtain ⟨xs,x,hq,hx⟩:=hg
  obtain ⟨its,rv,p,hz⟩:=I.list hq
  obtain ⟨u,hu,ru⟩:=rv.get hx
  obtain ⟨f0,f1,f2,f3,f4,f5⟩:=hf it (by simp)
  refine wpAny_pyNext_list_item st p.isList (x:=u) (by simpa using hu) fun h' st' sb=>?_
  have I1:Inv X pins σ H { s with heap:=h' }:=I.turned (t':=s.toks) (fun b o hb e=>(sb.2 b hb).trans e) f0 f1 f3 f4 f5
  obtain ⟨o,e,c,d⟩:=id st'
  exact ⟨u,rfl,go_of (s:={ s with heap:=h' }) e c d (by decide) ⟨x,H,I1,ru,⟨rfl,fun ys hy=>by rw [I.list_inj hy hq]; exact hx⟩,st',fun b hb=>(hf b hb).1⟩⟩
 done:=by
  intro X hP hw hK hc i pins s σ H E I hf st hg
  subst hP hw hK
  obtain ⟨⟨xs,hq,hx⟩,C,hC⟩:=hg
  obtain ⟨its,rv,p,hz⟩:=I.list hq
  obtain ⟨f0,f1,f2,f3,f4,f5⟩:=hf it (by simp)
  have hl:=rv.length
  obtain ⟨x,_,_⟩:=I.hok e _ hC
  have ne:e≠it:=fun z=>by rw [z,f0] at hC; cases hC
  exact list_endH hc (EAt.lone x) ne st p.isList (by simp; omega) fun h' eb=>⟨rfl,I.turned (t':=s.toks) (fun b o hb q=>eb b o hb q) f0 f1 f3 f4 f5⟩
 self:=fun _ _ _ _ _ st h=>wpAny_pyIter_listiter st h
section
variable {X:Cx} {tg:Expr}
def iListH (e:Addr) (K:PySem.W.Frag) (tl:TE) : TI:=fun σ H R=>tl σ H fun x H1=>∃ a,x=.ref a∧(∃ xs,SqL K H1 a xs)∧R (ItlH e K a) H1
theorem pi_listHK {e:Addr} {K:PySem.W.Frag} {l:Expr} {tl:TE} (hK:X.K=K) (hl:PE X l tl) : PIH e X tg l (iListH e K tl):=by
 subst hK
 intro pins s σ H R I h
 refine thn (hl pins s σ H _ I h) fun v s1 ⟨x,H1,I1,r1,q1⟩=>?_
 obtain ⟨a,e,⟨xs,hq⟩,q⟩:=q1
 subst e
 cases r1
 obtain ⟨its,rv,p,hz⟩:=I1.list hq
 refine wpAny_pyIter_list p.isList ?_
 refine ⟨s1.heap.objs.size,[s1.heap.objs.size],_,_,H1,rfl,I1.kept (t':=s1.toks) fun b o e=>Heap.get?_push_of_some _ e,turn_listH a _,⟨_,Heap.get?_push_size _ rfl,rfl,rfl⟩,fun b hb=>?_,q⟩
 have e:b=s1.heap.objs.size:=by simpa using hb
 subst e
 exact I1.fpOk (Nat.le_refl _) (I1.hok.fresh (Nat.le_refl _))
theorem compLH {e₀ : Addr} {K:PySem.W.Frag} {ix:List (Option Nat)} {te:TE} {σ : St} {Q:VK} {H:Hp} {a:Addr} {xs:List V} {k:Nat} (Pv:Nat→List V→St→Hp→Prop) (hn:xs.length≤1000000) (h0:Pv 0 [] (startC ix σ) H)
  (hl : ∀ i ys σ H,i≤xs.length→Pv i ys σ H→SqL K H a xs) (hlen : ∀ i ys σ H,Pv i ys σ H→ys.length≤i) (hx : ∀ ys σ H,Pv xs.length ys σ H→∃ C,H e₀=some (.exc e₀ C))
  (hs : ∀ i ys σ H x (R:St→List V→Hp→Prop),xs[i]?=some x→Pv i ys σ H→(∀ σ2 ys2 H5,Pv (i+1) ys2 σ2 H5→R σ2 ys2 H5) →
   te (σ.set k (some x)) H fun v H5=>R (σ.set k (some x)) (ys++[v]) H5)
  (hd : ∀ ys σ' H' p,Pv xs.length ys σ' H'→H' p=none→Q (.ref p) (upd H' p (.lst ys))) : rComp ix (gName k) tTrue te σ Q (ItlH e₀ K a) H:=by
 refine comp_by Pv hn h0 (fun i ys σ H hi p=>⟨xs,xs[i],hl i ys σ H (Nat.le_of_lt hi) p,List.getElem?_eq_getElem hi⟩) (fun ys σ H p=>⟨⟨xs,hl _ ys σ H (Nat.le_refl _) p,Nat.le_refl _⟩,hx ys σ H p⟩) hlen (fun i ys σ H x H2 R hi p y r=>?_) hd
 obtain ⟨rfl,y⟩:=y
 unfold gName tTrue
 simp only [if_true]
 exact hs i ys σ _ x R (y xs (hl i ys σ _ (Nat.le_of_lt hi) p)) p r
end
end L2
namespace Sw
open PySem L2
def toL:PyData→PyData
 | .tuple ds=>.list ds
 | d=>d
def LT (d:PyData) : Prop:=(∃ es,d=.list es)∨∃ es,d=.tuple es
theorem eqSelf8 {K:PySem.W.Frag} {H:Hp} {v u:V} {d:PyData} {Q:VK} (h1:DT H (fun _=>True) v d) (h2:DT H (fun _=>True) u d) (n:Nice 10 d) (q:Q (.bl true) H) : rEqD K v u H Q:=by
 refine ⟨fun _=>True,d,d,h1.dat,h2.dat,n.lay,n.lay,by have:=n.dp; omega,?_⟩
 rw [PySem.SeqAt.eqv_refl d n.lay]
 exact q
theorem cpList {K:PySem.W.Frag} {σ : St} {H:Hp} {l:Addr} {us:List V} {ds:List PyData} {Q:VK} (hl:H l=some (.lst us)) (dd:DTs H (fun _=>True) us ds) (ok : ∀ d∈ds,LT d) (ll:ds.length≤1000)
  (k : ∀ q ys H',H' q=some (.lst ys)→DTs H' (fun _=>True) ys (ds.map toL)→Same H H'→Q (.ref q) H') :
  rComp [none] (gName 0) tTrue (tCB (fun xs H Q=>∃ p ys,xs=[V.ref p]∧(SqL K H p ys∨SqT K H p ys)∧∀ (l:Addr),H l=none→Q (V.ref l) (upd H l (HO.lst ys))) (tCons (tVar 0) tNil)) σ Q (Itl K l) H:=by
 have ul:=dd.length
 refine compL (K:=K) (a:=l) (xs:=us) (k:=0) (fun i ys σ' H'=>DTs H' (fun _=>True) ys ((ds.take i).map toL)∧(∃ v,σ'=[v])∧Same H H') (by omega) ⟨.nil,⟨none,rfl⟩,Same.refl _⟩ (fun i ys σ' H' _ z=>SqL.of (z.2.2 _ _ hl)) (fun i ys σ' H' z=>by have:=z.1.length; rw [List.length_map,List.length_take] at this; omega) ?_ ?_
 ·rintro i ys σ' H1 x R hx ⟨dy,⟨v,rfl⟩,s1⟩ done
  obtain ⟨d,hd,dx⟩:=dd.get hx
  have e1:(ds.take (i+1)).map toL=(ds.take i).map toL++[toL d]:=by rw [take_snoc hd,List.map_append]; rfl
  cases DT.same dx s1 with
  | @lst b ws es hb pb rb=>exact ⟨_,rfl,b,_,rfl,.inl (SqL.of hb),fun q fq=>done _ _ _ ⟨by rw [e1]; exact (DTs.same dy (Same.new fq)).snoc (.lst upd_same True.intro (DTs.same rb (Same.new fq))),⟨_,rfl⟩,s1.trans (Same.new fq)⟩⟩
  | @tup b ws es hb pb rb=>exact ⟨_,rfl,b,_,rfl,.inr (SqT.of hb),fun q fq=>done _ _ _ ⟨by rw [e1]; exact (DTs.same dy (Same.new fq)).snoc (.lst upd_same True.intro (DTs.same rb (Same.new fq))),⟨_,rfl⟩,s1.trans (Same.new fq)⟩⟩
  | _=>rcases ok _ (List.mem_of_getElem? hd) with ⟨es,e⟩ | ⟨es,e⟩ <;> cases e
 ·rintro ys σ' H1 q ⟨dy,_,s1⟩ fq
  rw [List.take_of_length_le (by omega)] at dy
  exact k q ys _ upd_same (DTs.same dy (Same.new fq)) (s1.trans (Same.new fq))
theorem cpListH {e₀ : Addr} {K:PySem.W.Frag} {σ : St} {H:Hp} {l:Addr} {us:List V} {ds:List PyData} {Q:VK} {C:Addr} (he:H e₀=some (.exc e₀ C)) (hl:H l=some (.lst us)) (dd:DTs H (fun _=>True) us ds) (ok : ∀ d∈ds,LT d) (ll:ds.length≤1000)
  (k : ∀ q ys H',H' q=some (.lst ys)→DTs H' (fun _=>True) ys (ds.map toL)→Same H H'→Q (.ref q) H') :
  rComp [none] (gName 0) tTrue (tCB (fun xs H Q=>∃ p ys,xs=[V.ref p]∧(SqL K H p ys∨SqT K H p ys)∧∀ (l:Addr),H l=none→Q (V.ref l) (upd H l (HO.lst ys))) (tCons (tVar 0) tNil)) σ Q (ItlH e₀ K l) H:=by
 have ul:=dd.length
 refine compLH (K:=K) (a:=l) (xs:=us) (k:=0) (fun i ys σ' H'=>DTs H' (fun _=>True) ys ((ds.take i).map toL)∧(∃ v,σ'=[v])∧Same H H') (by omega) ⟨.nil,⟨none,rfl⟩,Same.refl _⟩ (fun i ys σ' H' _ z=>SqL.of (z.2.2 _ _ hl)) (fun i ys σ' H' z=>by have:=z.1.length; rw [List.length_map,List.length_take] at this; omega) (fun ys σ' H' z=>⟨C,z.2.2 _ _ he⟩) ?_ ?_
 ·rintro i ys σ' H1 x R hx ⟨dy,⟨v,rfl⟩,s1⟩ done
  obtain ⟨d,hd,dx⟩:=dd.get hx
  have e1:(ds.take (i+1)).map toL=(ds.take i).map toL++[toL d]:=by rw [take_snoc hd,List.map_append]; rfl
  cases DT.same dx s1 with
  | @lst b ws es hb pb rb=>exact ⟨_,rfl,b,_,rfl,.inl (SqL.of hb),fun q fq=>done _ _ _ ⟨by rw [e1]; exact (DTs.same dy (Same.new fq)).snoc (.lst upd_same True.intro (DTs.same rb (Same.new fq))),⟨_,rfl⟩,s1.trans (Same.new fq)⟩⟩
  | @tup b ws es hb pb rb=>exact ⟨_,rfl,b,_,rfl,.inr (SqT.of hb),fun q fq=>done _ _ _ ⟨by rw [e1]; exact (DTs.same dy (Same.new fq)).snoc (.lst upd_same True.intro (DTs.same rb (Same.new fq))),⟨_,rfl⟩,s1.trans (Same.new fq)⟩⟩
  | _=>rcases ok _ (List.mem_of_getElem? hd) with ⟨es,e⟩ | ⟨es,e⟩ <;> cases e
 ·rintro ys σ' H1 q ⟨dy,_,s1⟩ fq
  rw [List.take_of_length_le (by omega)] at dy
  exact k q ys _ upd_same (DTs.same dy (Same.new fq)) (s1.trans (Same.new fq))
theorem Exs.dt8 {H:Hp} : ∀ {vs:List V} {r:List (Int × Int)},Exs H vs r→DTs H (fun _=>True) vs (r.map fun e=>PyData.tuple [.int e.1,.int e.2])
 | _,_,.nil=>.nil
 | _,_,.cons h x=>.cons (.tup h True.intro (.cons (.int _) (.cons (.int _) .nil))) (x.dt8)
def spAq8:Sp:=fun vs H Q _ =>
 (∃ (l:Addr) (ws:List V) (row:List (Int × Int)),vs=[.int 0,.ref l]∧H l=some (.lst ws)∧Exs H ws row∧(∀ e∈row,1≤e.1∧e.1<e.2)∧row.length≤11∧∀ t H',Same H H'→(t = "told" ∧ ledM ((row.length:Int)+1) row=grM ((row.length:Int)+1)∨t = "NotGreat" ∧ ledM ((row.length:Int)+1) row≠grM ((row.length:Int)+1))→Q (.str t) H') ∨
 ∃ (q:Addr) (as:List Addr) (uss:List (List V)) (SS:List (List (List Int))),vs=[.int 1,.ref q]∧H q=some (.lst (as.map V.ref))∧Shs H as uss SS∧FewS SS∧(∀ S∈SS,∃ m:Int,1≤m∧m≤12∧Cov m S)∧∀ t H',Same H H'→(t = "told" ∧ ChG SS∨t = "NoChain" ∧ ¬ ChG SS)→Q (.str t) H'
structure TAq8 (P:Program) (w:World) (K:PySem.W.Frag) (mg:Str→Option Value) (base:Heap) (cl:ClsA) : Prop extends T1 mg K where
 c_StarError:mg "StarError" = some (.ref cl.StarError)
 m1:ExcM K cl.NotGreat cl.StarError true
 m2:ExcM K cl.NoChain cl.StarError true
 y1:Kin K cl cl.NotGreat "NotGreat"
 y2:Kin K cl cl.NoChain "NoChain"
 f__law_kind:FnAtE P w K mg base "_law_kind" 1 ["_law_e"] (spKind K cl)
 f_beginnings:FnAtX P w K mg base "beginnings" 5 ["row"] (spBegX cl.NotGreat)
 f_row_of_chain:FnAtX P w K mg base "row_of_chain" 7 ["sharings"] (spRocX cl.NoChain)
section
variable {P:Program} {w:World} {K:PySem.W.Frag} {mg:Str→Option Value} {base:Heap} {cl:ClsA}
theorem sc__law_asked:FnScope ["_law_way", "_law_thing", "_law_kept", "_law_e"] ["_law_way", "_law_thing"] (defScope (top 56)):=⟨rfl,rfl,rfl,by decide +kernel,rfl,by decide +kernel,by decide +kernel⟩
theorem ok_aq8 {f:Addr} {fd:FuncData} (F:Fun K "_law_asked" "_law_asked" (top 56) f fd) (T:TAq8 P w K mg base cl) : FnOk P w K mg base CX0 8 f fd ["_law_way", "_law_thing"] spAq8:=by
 refine F.ok sc__law_asked (fun vs H Q E h=>?_) (fun cdv A outer s H vs Q E hr h=>?_)
 ·rcases h with ⟨l,ws,row,rfl,_⟩ | ⟨q,as,uss,SS,rfl,_⟩ <;> rfl
 ·refine ⟨_,(pss_cons (ps_comp (i:=2) sc__law_asked.nd rfl rfl (N:=(["_law_part"] : List Str)) (ix:=([none] : List (Option Nat))) (comp_ok rfl rfl) rfl (pi_listK (K:=K) rfl (pv 1)) (fun _ _ _ _=>(pg_name (i:=0) (show List.Nodup (["_law_part"] : List Str) from by decide +kernel) rfl (Or.inl rfl))) (fun _ _ _ _=>pif_nil) (fun _ _ _ _=>(pe_callTy (call_list_ofK (K:=K) rfl) rfl T.b_list (by decide +kernel) (pa_cons (pv 0) pa_nil))))
   (pss_cons (ps_try (fun _ _=>(pss_one (ps_if (pt_cmpR op_eq (pv 0) pe_int (nomark _)) (pss_one (ps_expr (pe_callXT T.f_beginnings (hr.mono (by decide)) rfl (pa_cons (pv 1) pa_nil)))) (pss_one (ps_expr (pe_callXT T.f_row_of_chain (hr.mono (by decide)) rfl (pa_cons (pv 1) pa_nil))))))) (ph_consE (i:=3) sc__law_asked.nd rfl rfl rfl T.c_StarError (fun _=>(pss_one (ps_ret (pe_ifExp (pt_cmpR (op_eqD hr.units) (pe_compH (N:=(["_law_part"] : List Str)) (ix:=([none] : List (Option Nat))) (comp_ok rfl rfl) rfl (pi_listHK (K:=K) rfl (pv 1)) (fun _ _ _ _=>(pg_name (i:=0) (show List.Nodup (["_law_part"] : List Str) from by decide +kernel) rfl (Or.inl rfl))) (fun _ _ _ _=>pif_nil) (fun _ _ _ _=>(pe_callTy (call_list_ofK (K:=K) rfl) rfl T.b_list (by decide +kernel) (pa_cons (pv 0) pa_nil)))) (pv 2) (nomark _)) (pe_callE T.f__law_kind ((hr.mark _).mono (by decide)) rfl rfl (pa_cons (pv 3) pa_nil)) pe_str)))) ph_nil))
   (pss_one (ps_ret (pe_ifExp (pt_cmpR (op_eqD hr.units) (pe_comp (N:=(["_law_part"] : List Str)) (ix:=([none] : List (Option Nat))) (comp_ok rfl rfl) rfl (pi_listK (K:=K) rfl (pv 1)) (fun _ _ _ _=>(pg_name (i:=0) (show List.Nodup (["_law_part"] : List Str) from by decide +kernel) rfl (Or.inl rfl))) (fun _ _ _ _=>pif_nil) (fun _ _ _ _=>(pe_callTy (call_list_ofK (K:=K) rfl) rfl T.b_list (by decide +kernel) (pa_cons (pv 0) pa_nil)))) (pv 2) (nomark _)) pe_str pe_str))))),?_⟩
  rcases h with ⟨l,ws,row,rfl,hl,hx,hpos,hn,k⟩ | ⟨q,as,uss,SS,rfl,hq,x,few,cvs,k⟩
  ·have dd:=hx.dt8
   have ok : ∀ d∈row.map (fun e=>PyData.tuple [.int e.1,.int e.2]),LT d:=fun d hd=>by
    obtain ⟨e,_,rfl⟩:=List.mem_map.mp hd
    exact .inr ⟨_,rfl⟩
   have nice:Nice 10 (.list ((row.map fun e=>PyData.tuple [.int e.1,.int e.2]).map toL)):=(nice_list (k:=2) fun d hd=>by
    obtain ⟨d',hd',rfl⟩:=List.mem_map.mp hd
    obtain ⟨e,_,rfl⟩:=List.mem_map.mp hd'
    exact nice_list (k:=1) (nice_ints [e.1,e.2])).mono (by decide)
   have rl:(row.map fun e=>PyData.tuple [.int e.1,.int e.2]).length≤1000:=by rw [List.length_map]; omega
   refine ⟨_,rfl,l,rfl,⟨_,SqL.of hl⟩,cpList hl dd ok rl fun lk ys H1 hlk dk s1=>?_⟩
   have hl1:=s1 _ _ hl
   refine ⟨_,rfl,rfl,_,rfl,iteP (decide_eq_true rfl) ?_⟩
   refine ⟨_,rfl,l,ws,row,rfl,hl1,hx.keep (Same.tups s1),hpos,hn,fun hg l' H2 s2=>?_,fun hg H2 s2 e fe=>?_⟩
   ·refine ⟨_,rfl,l,rfl,⟨_,SqL.of (s2 _ _ hl1)⟩,cpList (s2 _ _ hl1) (DTs.same dd (s1.trans s2)) ok rl fun l3 y3 H3 h3 d3 s3=>?_⟩
    have s23:=s2.trans s3
    exact ⟨_,rfl,eqSelf8 (.lst h3 True.intro d3) (.lst (s23 _ _ hlk) True.intro (DTs.same dk s23)) nice ⟨_,rfl,iteP rfl (k _ H3 (s1.trans s23) (.inl ⟨rfl,hg⟩))⟩⟩
   ·have s3:Same H2 (upd H2 e (.exc e cl.NotGreat)):=Same.new fe
    have h3:upd H2 e (.exc e cl.NotGreat) e=some (.exc e cl.NotGreat):=upd_same
    refine ⟨cl.NotGreat,true,rfl,T.m1,iteP rfl ?_⟩
    generalize upd H2 e (.exc e cl.NotGreat)=H3 at s3 h3 ⊢
    have s23:=s2.trans s3
    refine ⟨_,rfl,l,rfl,⟨_,SqL.of (s23 _ _ hl1)⟩,cpListH h3 (s23 _ _ hl1) (DTs.same dd (s1.trans s23)) ok rl fun l4 y4 H4 h4 d4 s4=>?_⟩
    have s24:=s23.trans s4
    refine ⟨_,rfl,eqSelf8 (.lst h4 True.intro d4) (.lst (s24 _ _ hlk) True.intro (DTs.same dk s24)) nice ⟨_,rfl,iteP rfl ?_⟩⟩
    exact ⟨_,rfl,rfl,e,cl.NotGreat, "NotGreat", rfl,s4 _ _ h3,T.y1,fun H5 s5=>k _ H5 (s1.trans (s24.trans s5)) (.inr ⟨rfl,hg⟩)⟩
  ·have dd:=x.dts8 (P:=fun _=>True) fun _ _ _=>True.intro
   have ok : ∀ d∈SS.map shE,LT d:=fun d hd=>by
    obtain ⟨S,_,rfl⟩:=List.mem_map.mp hd
    exact .inl ⟨_,rfl⟩
   have nice:Nice 10 (.list ((SS.map shE).map toL)):=(nice_list (k:=3) fun d hd=>by
    obtain ⟨d',hd',rfl⟩:=List.mem_map.mp hd
    obtain ⟨S,_,rfl⟩:=List.mem_map.mp hd'
    refine nice_list (k:=2) fun d hd=>?_
    obtain ⟨L,_,rfl⟩:=List.mem_map.mp hd
    exact nice_list (k:=1) (nice_ints L)).mono (by decide)
   have rl:(SS.map shE).length≤1000:=by rw [List.length_map]; have:=few.1; omega
   refine ⟨_,rfl,q,rfl,⟨_,SqL.of hq⟩,cpList hq dd ok rl fun lk ys H1 hlk dk s1=>?_⟩
   have hq1:=s1 _ _ hq
   refine ⟨_,rfl,rfl,_,rfl,iteE (decide_eq_false fun z=>by have:=V.int.inj z; omega) ?_⟩
   refine ⟨_,rfl,q,as,uss,SS,rfl,hq1,x.keep s1,few,cvs,fun hg l' H2 s2=>?_,fun hg H2 s2 e fe=>?_⟩
   ·refine ⟨_,rfl,q,rfl,⟨_,SqL.of (s2 _ _ hq1)⟩,cpList (s2 _ _ hq1) (DTs.same dd (s1.trans s2)) ok rl fun l3 y3 H3 h3 d3 s3=>?_⟩
    have s23:=s2.trans s3
    exact ⟨_,rfl,eqSelf8 (.lst h3 True.intro d3) (.lst (s23 _ _ hlk) True.intro (DTs.same dk s23)) nice ⟨_,rfl,iteP rfl (k _ H3 (s1.trans s23) (.inl ⟨rfl,hg⟩))⟩⟩
   ·have s3:Same H2 (upd H2 e (.exc e cl.NoChain)):=Same.new fe
    have h3:upd H2 e (.exc e cl.NoChain) e=some (.exc e cl.NoChain):=upd_same
    refine ⟨cl.NoChain,true,rfl,T.m2,iteP rfl ?_⟩
    generalize upd H2 e (.exc e cl.NoChain)=H3 at s3 h3 ⊢
    have s23:=s2.trans s3
    refine ⟨_,rfl,q,rfl,⟨_,SqL.of (s23 _ _ hq1)⟩,cpListH h3 (s23 _ _ hq1) (DTs.same dd (s1.trans s23)) ok rl fun l4 y4 H4 h4 d4 s4=>?_⟩
    have s24:=s23.trans s4
    refine ⟨_,rfl,eqSelf8 (.lst h4 True.intro d4) (.lst (s24 _ _ hlk) True.intro (DTs.same dk s24)) nice ⟨_,rfl,iteP rfl ?_⟩⟩
    exact ⟨_,rfl,rfl,e,cl.NoChain, "NoChain", rfl,s4 _ _ h3,T.y2,fun H5 s5=>k _ H5 (s1.trans (s24.trans s5)) (.inr ⟨rfl,hg⟩)⟩
end
end Sw
namespace L2
open PySem
theorem compE0if {K:PySem.W.Frag} {ix:List (Option Nat)} {g:TG} {tc:TT} {te:TE} {σ : St} {Q:VK} {H:Hp} {a:Addr} {xs:List V} (Pv:Nat→List V→St→Hp→Prop) (hn:xs.length≤1000000) (h0:Pv 0 [] (startC ix σ) H)
  (hl : ∀ i ys σ H,i≤xs.length→Pv i ys σ H→SqL K H a xs) (hlen : ∀ i ys σ H,Pv i ys σ H→ys.length≤i)
  (hs : ∀ i ys σ H t v (R:St→List V→Hp→Prop),xs[i]?=some v→Pv i ys σ H→H t=none→(∀ σ2 ys2 H5,Pv (i+1) ys2 σ2 H5→R σ2 ys2 H5)→g (.ref t) σ (upd H t (.tup [.int (i:Int),v])) fun σ2 H3=>tc σ2 H3 fun b H4=>if b=true then te σ2 H4 fun v H5=>R σ2 (ys++[v]) H5 else R σ2 ys H4)
  (hd : ∀ ys σ' H' p,Pv xs.length ys σ' H'→H' p=none→Q (.ref p) (upd H' p (.lst ys))) : rComp ix g tc te σ Q (Ite0 K a xs) H:=by
 refine comp_by Pv hn h0 (fun i ys σ H hi p=>⟨hi,hl i ys σ H (Nat.le_of_lt hi) p⟩) (fun ys σ H p=>⟨rfl,hl _ ys σ H (Nat.le_refl _) p⟩) hlen (fun i ys σ H x H2 R hi p y r=>?_) hd
 obtain ⟨t,v,ht,rfl,hv,rfl⟩:=y
 exact hs i ys σ H t v R hv p ht r
end L2
namespace Sw
open PySem L2
def ownL:Nat→List (List Int)→Int→List Int
 | _,[],_=>[]
 | k,L :: r,x=>if x∈L then (k:Int) :: ownL (k+1) r x else ownL (k+1) r x
theorem ownL_append (x:Int) : ∀ (A B:List (List Int)) (k:Nat),ownL k (A++B) x=ownL k A x++ownL (k+A.length) B x
 | [],_,_=>rfl
 | L :: A,B,k=>by
  show (if x∈L then (k:Int) :: ownL (k+1) (A++B) x else ownL (k+1) (A++B) x)=(if x∈L then (k:Int) :: ownL (k+1) A x else ownL (k+1) A x)++_
  rw [ownL_append x A B (k+1),List.length_cons,show k+1+A.length=k+(A.length+1) from by omega]
  by_cases h:x∈L
  ·rw [if_pos h,if_pos h]; rfl
  ·rw [if_neg h,if_neg h]
theorem ownL_take {x:Int} {Ls:List (List Int)} {i:Nat} {L:List Int} (h:Ls[i]?=some L) : ownL 0 (Ls.take (i+1)) x=ownL 0 (Ls.take i) x++(if x∈L then [(i:Int)] else []):=by
 have hi:i<Ls.length:=(List.getElem?_eq_some_iff.mp h).1
 rw [List.take_add_one,h,ownL_append,List.length_take,Nat.min_eq_left (Nat.le_of_lt hi),Nat.zero_add]
 rfl
theorem ownL_len (x:Int) : ∀ (Ls:List (List Int)) (k:Nat),(ownL k Ls x).length≤Ls.length
 | [],_=>Nat.le_refl _
 | L :: r,k=>by
  show (if x∈L then (k:Int) :: ownL (k+1) r x else ownL (k+1) r x).length≤r.length+1
  have:=ownL_len x r (k+1)
  by_cases h:x∈L
  ·rw [if_pos h,List.length_cons]; omega
  ·rw [if_neg h]; omega
def spOwner:Sp:=fun vs H Q _=>∃ (l:Addr) (ws:List V) (Ls:List (List Int)) (x j:Int) (r:List Int),vs=[.ref l,.int x]∧H l=some (.lst ws)∧Lsts H ws Ls∧Ls.length≤1000∧ownL 0 Ls x=j :: r∧∀ H',Same H H'→Q (.int j) H'
section
variable {P:Program} {w:World} {K:PySem.W.Frag} {mg:Str→Option Value} {base:Heap}
structure TOw (mg:Str→Option Value) (K:PySem.W.Frag) : Prop extends T1 mg K where
 b_enumerate:mg "enumerate" = none
theorem sc__law_owner:FnScope ["_law_sharing_here", "_law_thing"] ["_law_sharing_here", "_law_thing"] (defScope (top 51)):=⟨rfl,rfl,rfl,by decide +kernel,rfl,by decide +kernel,by decide +kernel⟩
theorem ok_owner {f:Addr} {fd:FuncData} (F:Fun K "_law_owner" "_law_owner" (top 51) f fd) (T:TOw mg K) : FnOk P w K mg base CX0 1 f fd ["_law_sharing_here", "_law_thing"] spOwner:=by
 refine F.ok sc__law_owner (fun vs H Q E h=>?_) (fun cdv A outer s H vs Q E hr h=>?_)
 ·obtain ⟨l,ws,Ls,x,j,r,rfl,_⟩:=h
  rfl
 ·obtain ⟨l,ws,Ls,x,j,r,rfl,hl,xl,ll,eo,k⟩:=h
  refine ⟨_,(pss_one (ps_ret (pe_ix (ix_listK (K:=K) rfl) (pe_comp (N:=(["_law_place", "_law_part", "_law_thing"] : List Str)) (ix:=([none,none,some 1] : List (Option Nat))) (comp_ok rfl rfl) rfl (pi_enum0 (K:=K) rfl rfl T.b_enumerate (pa_cons (pv 0) pa_nil)) (fun _ _ _ _=>(pg_tupK (K:=K) (n:=2) rfl rfl (pgs_cons (pg_name (i:=0) (show List.Nodup (["_law_place", "_law_part", "_law_thing"] : List Str) from by decide +kernel) rfl (Or.inl rfl)) (pgs_cons (pg_name (i:=1) (show List.Nodup (["_law_place", "_law_part", "_law_thing"] : List Str) from by decide +kernel) rfl (Or.inl rfl)) pgs_nil)))) (fun _ _ _ _=>(pif_one (pt_cmpR (op_inK (K:=K) rfl) (pv 2) (pv 1) rfl))) (fun _ _ _ _=>(pv 0))) pe_int (fun _ _=>rfl)))),?_⟩
  have wl:=xl.length
  refine ⟨_,rfl,l,ws,rfl,SqL.of hl,compE0if (K:=K) (a:=l) (xs:=ws) (fun i ys σ' H'=>ys=(ownL 0 (Ls.take i) x).map V.int∧(∃ v0 v1,σ'=[v0,v1,some (.int x)])∧Same H H') (by omega) ⟨rfl,⟨none,none,rfl⟩,Same.refl _⟩ (fun i ys σ' H' _ q=>SqL.of (q.2.2 _ _ hl)) (fun i ys σ' H' q=>by rw [q.1,List.length_map]; have:=ownL_len x (Ls.take i) 0; rw [List.length_take] at this; omega) ?_ ?_⟩
  ·rintro i ys σ' H2 tt v R hv ⟨rfl,⟨v0,v1,rfl⟩,s2⟩ ftt done
   obtain ⟨a,ns,rfl,ha,hns⟩:=(xl.keep s2).get hv
   have st:Same H2 (upd H2 tt (.tup [.int (i:Int),.ref a])):=Same.new ftt
   refine ⟨tt,_,rfl,SqT.of upd_same,rfl,_,_,rfl,_,_,rfl,rfl,?_⟩
   refine ⟨_,rfl,_,rfl,a,_,rfl,.inl (SqL.of (st _ _ ha)),rfl,flat_ints _,_,rfl,?_⟩
   have em:inV (V.int x) (ns.map V.int)=decide (x∈ns):=inV_int ..
   have tk:=ownL_take (x:=x) hns
   show if inV (V.int x) (ns.map V.int)=true then _ else _
   rw [em]
   by_cases hx:x∈ns
   ·rw [if_pos (decide_eq_true hx)]
    refine ⟨_,rfl,done _ _ _ ⟨?_,⟨_,_,rfl⟩,s2.trans st⟩⟩
    rw [tk,if_pos hx,List.map_append]; rfl
   ·rw [if_neg (by rw [decide_eq_false hx]; exact Bool.false_ne_true)]
    refine done _ _ _ ⟨?_,⟨_,_,rfl⟩,s2.trans st⟩
    rw [tk,if_neg hx,List.append_nil]
  ·rintro ys σ' H2 q ⟨rfl,_,s2⟩ fq
   rw [List.take_of_length_le (by omega),eo]
   exact ⟨q,_,_,_,rfl,rfl,SqL.of upd_same,at_int (z:=j) (Int.le_refl _) rfl,k _ (s2.trans (Same.new fq))⟩
end
end Sw
namespace Sw
open PySem L2
def own1 (Ms:List (List Int)) (x:Int) : Int:=(ownL 0 Ms x).headD 0
def Owned (Ms:List (List Int)) (x:Int) : Prop:=ownL 0 Ms x=own1 Ms x :: (ownL 0 Ms x).tail
def lwB (Ls Ms:List (List Int)) : Bool:=Ls.all fun L=>decide (((ddI (L.map (own1 Ms))).length:Int)=1)
def spLWithin:Sp:=fun vs H Q _=>∃ (l m:Addr) (ws us:List V) (Ls Ms:List (List Int)),vs=[.ref l,.ref m]∧H l=some (.lst ws)∧Lsts H ws Ls∧H m=some (.lst us)∧Lsts H us Ms∧Ls.length≤1000∧Ms.length≤1000∧(∀ L∈Ls,L.length≤1000∧∀ x∈L,Owned Ms x)∧∀ H',Same H H'→Q (.bl (lwB Ls Ms)) H'
structure TLw (P:Program) (w:World) (K:PySem.W.Frag) (mg:Str→Option Value) (base:Heap) : Prop extends T1 mg K where
 b_set:mg "set" = none
 f__law_owner:FnAt P w K mg base "_law_owner" 1 ["_law_sharing_here", "_law_thing"] spOwner
section
variable {P:Program} {w:World} {K:PySem.W.Frag} {mg:Str→Option Value} {base:Heap}
theorem sc__law_within:FnScope ["_law_one", "_law_other"] ["_law_one", "_law_other"] (defScope (top 53)):=⟨rfl,rfl,rfl,by decide +kernel,rfl,by decide +kernel,by decide +kernel⟩
theorem ok_lwithin {f:Addr} {fd:FuncData} (F:Fun K "_law_within" "_law_within" (top 53) f fd) (T:TLw P w K mg base) : FnOk P w K mg base CX0 2 f fd ["_law_one", "_law_other"] spLWithin:=by
 refine F.ok sc__law_within (fun vs H Q E h=>?_) (fun cdv A outer s H vs Q E hr h=>?_)
 ·obtain ⟨l,m,ws,us,Ls,Ms,rfl,_⟩:=h
  rfl
 ·obtain ⟨l,m,ws,us,Ls,Ms,rfl,hl,xl,hm,xm,ll,lm,lb,k⟩:=h
  refine ⟨_,(pss_one (ps_ret (pe_callB (call_allK (K:=K) rfl rfl) rfl T.b_all (by decide +kernel) (pa_cons (pe_comp (N:=(["_law_part", "_law_other"] : List Str)) (ix:=([none,some 1] : List (Option Nat))) (comp_ok rfl rfl) rfl (pi_listK (K:=K) rfl (pv 0)) (fun _ _ _ _=>(pg_name (i:=0) (show List.Nodup (["_law_part", "_law_other"] : List Str) from by decide +kernel) rfl (Or.inl rfl))) (fun _ _ _ _=>pif_nil) (fun _ _ _ _=>(pe_cmpR op_eq (pe_callB call_lenS rfl T.b_len (by decide +kernel) (pa_cons (pe_callTy (call_setI (K:=K) rfl rfl) rfl T.b_set (by decide +kernel) (pa_cons (pe_comp (N:=(["_law_thing", "_law_other"] : List Str)) (ix:=([none,some 1] : List (Option Nat))) (comp_ok rfl rfl) rfl (pi_listK (K:=K) rfl (pv 0)) (fun _ _ _ _=>(pg_name (i:=0) (show List.Nodup (["_law_thing", "_law_other"] : List Str) from by decide +kernel) rfl (Or.inl rfl))) (fun _ _ _ _=>pif_nil) (fun _ _ _ _=>(pe_callF T.f__law_owner (hr.mono (by first | decide | omega)) rfl (pa_cons (pv 1) (pa_cons (pv 0) pa_nil))))) pa_nil)) pa_nil)) pe_int (nomark _)))) pa_nil)))),?_⟩
  have wl:=xl.length
  refine ⟨_,rfl,l,rfl,⟨_,SqL.of hl⟩,compL (K:=K) (a:=l) (xs:=ws) (k:=0) (fun i ys σ' H'=>ys=((Ls.take i).map fun L=>decide (((ddI (L.map (own1 Ms))).length:Int)=1)).map V.bl∧(∃ v,σ'=[v,some (.ref m)])∧Same H H') (by omega) ⟨rfl,⟨none,rfl⟩,Same.refl _⟩ (fun i ys σ' H' _ q=>SqL.of (q.2.2 _ _ hl)) (fun i ys σ' H' q=>by rw [q.1,List.length_map,List.length_map,List.length_take]; omega) ?_ ?_⟩
  ·rintro i ys σ' H2 z R hz ⟨rfl,⟨v,rfl⟩,s2⟩ done
   obtain ⟨a,L,rfl,ha,hL⟩:=(xl.keep s2).get hz
   obtain ⟨lb1,lb2⟩:=lb L (List.mem_of_getElem? hL)
   have hm2:=s2 _ _ hm
   have xm2:=xm.keep s2
   refine ⟨_,rfl,a,rfl,⟨_,SqL.of ha⟩,compL (K:=K) (a:=a) (xs:=L.map V.int) (k:=0) (fun j ys σ' H'=>ys=((L.take j).map (own1 Ms)).map V.int∧(∃ v,σ'=[v,some (.ref m)])∧Same H2 H') (by rw [List.length_map]; omega) ⟨rfl,⟨none,rfl⟩,Same.refl _⟩ (fun j ys σ' H' _ q=>SqL.of (q.2.2 _ _ ha)) (fun j ys σ' H' q=>by rw [q.1,List.length_map,List.length_map,List.length_take]; omega) ?_ ?_⟩
   ·rintro j ys σ' H3 z' R' hz' ⟨rfl,⟨v',rfl⟩,s3⟩ done'
    obtain ⟨x,rfl,hx⟩:=mem_int hz'
    refine ⟨_,rfl,_,rfl,m,us,Ms,x,_,_,rfl,s3 _ _ hm2,xm2.keep s3,lm,lb2 x (List.mem_of_getElem? hx),fun H4 s4=>done' _ _ _ ⟨?_,⟨_,rfl⟩,s3.trans s4⟩⟩
    rw [take_succ_map (own1 Ms) hx,List.map_append]
    rfl
   ·rintro ys σ' H3 q ⟨rfl,_,s3⟩ fq
    rw [List.length_map,List.take_length]
    have s4:=s3.trans (Same.new (o:=.lst ((L.map (own1 Ms)).map V.int)) fq)
    refine ⟨q,L.map (own1 Ms),rfl,SqL.of upd_same,by rw [List.length_map]; omega,fun q2 fq2=>?_⟩
    have s5:=s4.trans (Same.new (o:=.set (fun k=>(ddI (L.map (own1 Ms))).any (· == k)) (ddI (L.map (own1 Ms))).length) fq2)
    refine ⟨q2,_,_,rfl,upd_same,by have:=ddI_len (L.map (own1 Ms)); rw [List.length_map] at this; omega,?_⟩
    refine ⟨rfl,done _ _ _ ⟨?_,⟨_,rfl⟩,s2.trans s5⟩⟩
    rw [take_succ_map (fun L=>decide (((ddI (L.map (own1 Ms))).length:Int)=1)) hL,List.map_append]
    congr 1
    show [V.bl (decide (V.int _=V.int 1))]=[V.bl _]
    rw [dec_int]
    rfl
  ·rintro ys σ' H2 r ⟨rfl,_,s2⟩ fr
   rw [List.take_of_length_le (by omega)]
   refine ⟨r,Ls.map fun L=>decide (((ddI (L.map (own1 Ms))).length:Int)=1),rfl,SqL.of upd_same,?_⟩
   have:(Ls.map fun L=>decide (((ddI (L.map (own1 Ms))).length:Int)=1)).all id=lwB Ls Ms:=by rw [List.all_map]; rfl
   rw [this]
   exact k _ (s2.trans (Same.new fr))
end
theorem own_spec {x:Int} : ∀ (Ls:List (List Int)) (k:Nat),x∈Ls.flatten→∃ (j:Nat) (r:List Int) (M:List Int),ownL k Ls x=((k+j:Nat) : Int) :: r∧Ls[j]?=some M∧x∈M
 | [],_,h=>by cases h
 | L :: Ls,k,h=>by
  by_cases g:x∈L
  ·refine ⟨0,ownL (k+1) Ls x,L,?_,rfl,g⟩
   show (if x∈L then (k:Int) :: ownL (k+1) Ls x else ownL (k+1) Ls x)=_
   rw [if_pos g]; rfl
  ·rw [List.flatten_cons] at h
   obtain ⟨j,r,M,e,hM,hx⟩:=own_spec Ls (k+1) ((List.mem_append.mp h).resolve_left g)
   refine ⟨j+1,r,M,?_,by rw [List.getElem?_cons_succ]; exact hM,hx⟩
   show (if x∈L then (k:Int) :: ownL (k+1) Ls x else ownL (k+1) Ls x)=_
   rw [if_neg g,e,show k+1+j=k+(j+1) from by omega]
theorem owned_of {x:Int} {Ls:List (List Int)} (h:x∈Ls.flatten) : Owned Ls x∧∃ (j:Nat) (M:List Int),own1 Ls x=(j:Int)∧Ls[j]?=some M∧x∈M:=by
 obtain ⟨j,r,M,e,hM,hx⟩:=own_spec Ls 0 h
 unfold Owned own1
 rw [e]
 exact ⟨rfl,j,M,by rw [Nat.zero_add]; rfl,hM,hx⟩
theorem flat_uniq8 {x:Int} : ∀ {Ls:List (List Int)} {i j:Nat} {A B:List Int},Ls.flatten.Nodup→Ls[i]?=some A→Ls[j]?=some B→x∈A→x∈B→i=j
 | [],_,_,_,_,_,h,_,_,_=>by cases h
 | L :: Ls,0,0,_,_,_,_,_,_,_=>rfl
 | L :: Ls,0,j+1,A,B,nd,hA,hB,xA,xB=>by
  cases hA
  rw [List.getElem?_cons_succ] at hB
  rw [List.flatten_cons] at nd
  exact absurd rfl ((List.nodup_append.mp nd).2.2 x xA x (List.mem_flatten.mpr ⟨B,List.mem_of_getElem? hB,xB⟩))
 | L :: Ls,i+1,0,A,B,nd,hA,hB,xA,xB=>by
  cases hB
  rw [List.getElem?_cons_succ] at hA
  rw [List.flatten_cons] at nd
  exact absurd rfl ((List.nodup_append.mp nd).2.2 x xB x (List.mem_flatten.mpr ⟨A,List.mem_of_getElem? hA,xA⟩))
 | L :: Ls,i+1,j+1,A,B,nd,hA,hB,xA,xB=>by
  rw [List.getElem?_cons_succ] at hA hB
  rw [List.flatten_cons] at nd
  rw [flat_uniq8 (List.nodup_append.mp nd).2.1 hA hB xA xB]
theorem one_len {l:List Int} {j:Int} (nd:l.Nodup) (h : ∀ x∈l,x=j) (m:j∈l) : l.length=1:=by
 match l,nd,h,m with
 | [],_,_,m=>cases m
 | [_],_,_,_=>rfl
 | x :: y :: r,nd,h,_ =>
  have h1:=h x (List.mem_cons_self ..)
  have h2:=h y (List.mem_cons_of_mem _ (List.mem_cons_self ..))
  rw [h1,h2] at nd
  exact absurd (List.mem_cons_self ..) (List.nodup_cons.mp nd).1
theorem within_eq {n:Int} {Ls Ms:List (List Int)} (hL:Cov n Ls) (hM:Cov n Ms) : lwB Ls Ms=withB Ls Ms:=by
 unfold lwB withB
 rw [Bool.eq_iff_iff,List.all_eq_true,List.all_eq_true]
 refine forall_congr' fun L=>forall_congr' fun hLm=>?_
 have inM : ∀ x∈L,x∈Ms.flatten:=fun x hx=>hM.2.mem_iff.mpr (hL.2.mem_iff.mp (List.mem_flatten.mpr ⟨L,hLm,hx⟩))
 have nd:Ms.flatten.Nodup:=hM.fine.2
 rw [decide_eq_true_iff,List.any_eq_true]
 constructor
 ·intro e
  obtain ⟨y,hy⟩:=List.exists_mem_of_ne_nil L (hL.1 L hLm)
  obtain ⟨_,j,M,ej,hj,hyM⟩:=owned_of (inM y hy)
  refine ⟨M,List.mem_of_getElem? hj,?_⟩
  unfold insB
  rw [List.all_eq_true]
  intro x hx
  obtain ⟨_,i,N,ei,hi,hxN⟩:=owned_of (inM x hx)
  have a1:own1 Ms x∈ddI (L.map (own1 Ms)):=ddI_mem.mpr (List.mem_map.mpr ⟨x,hx,rfl⟩)
  have a2:own1 Ms y∈ddI (L.map (own1 Ms)):=ddI_mem.mpr (List.mem_map.mpr ⟨y,hy,rfl⟩)
  have e1:(ddI (L.map (own1 Ms))).length=1:=by omega
  obtain ⟨c,ec⟩:=List.length_eq_one_iff.mp e1
  rw [ec] at a1 a2
  have:(i:Int)=(j:Int):=by rw [← ei,← ej,List.mem_singleton.mp a1,List.mem_singleton.mp a2]
  have:i=j:=by omega
  subst this
  rw [hi] at hj
  cases hj
  exact decide_eq_true hxN
 ·rintro ⟨M,hMm,hin⟩
  unfold insB at hin
  rw [List.all_eq_true] at hin
  obtain ⟨j,hj,ej⟩:=List.mem_iff_getElem.mp hMm
  have hj':Ms[j]?=some M:=by rw [List.getElem?_eq_getElem hj,ej]
  have all : ∀ x∈L,own1 Ms x=(j:Int):=fun x hx=>by
   obtain ⟨_,i,N,ei,hi,hxN⟩:=owned_of (inM x hx)
   rw [ei,flat_uniq8 nd hi hj' hxN (of_decide_eq_true (hin x hx))]
  obtain ⟨y,hy⟩:=List.exists_mem_of_ne_nil L (hL.1 L hLm)
  have:=one_len (l:=ddI (L.map (own1 Ms))) (j:=(j:Int)) (ddI_nodup _) (fun c hc=>by
   obtain ⟨x,hx,e⟩:=List.mem_map.mp (ddI_mem.mp hc)
   rw [← e]; exact all x hx) (ddI_mem.mpr (List.mem_map.mpr ⟨y,hy,all y hy⟩))
  omega
end Sw
namespace Sw
open PySem L2
theorem manyM_flat8 : ∀ (Ls:List (List Int)),manyM Ls=(Ls.flatten.length:Int)
 | []=>rfl
 | L :: r=>by
  have ih:=manyM_flat8 r
  unfold manyM at ih ⊢
  rw [List.map_cons,List.sum_cons,ih,List.flatten_cons,List.length_append]
  omega
theorem Cov.many8 {n:Int} {Ls:List (List Int)} (h:Cov n Ls) (n0 : 0≤n) : manyM Ls=n:=by
 rw [manyM_flat8,h.flen n0]; omega
theorem neLq8' {K:PySem.W.Frag} {H:Hp} {l m:Addr} {vs ws:List V} {r q:List (List Int)} {Q:VK} (h1:H l=some (.lst vs)) (x1:Lsts H vs r) (h2:H m=some (.lst ws)) (x2:Lsts H ws q) (hq:Q (.bl (!decide (r=q))) H) : rNeD K (.ref l) (.ref m) H Q:=by
 refine ⟨fun _=>True,.list (r.map fun p=>PyData.list (p.map PyData.int)),.list (q.map fun p=>PyData.list (p.map PyData.int)),.lst (SqL.of h1) True.intro x1.dat,.lst (SqL.of h2) True.intro x2.dat,?_,?_,?_,?_⟩
 ·unfold PyData.canLay0; exact lay_ll r
 ·unfold PyData.canLay0; exact lay_ll q
 ·unfold PyData.depth; have:=depth_ll r; omega
 ·unfold PyData.eqv; rw [eqv_ll]; exact hq
structure LcP (n:Int) (SS:List (List (List Int))) : Prop where
 len:(SS.length:Int)=n
 first:SS.getD 0 []=alone n
 step : ∀ t,t+1<SS.length→manyM (SS.getD (t+1) [])=n∧jbG (SS.getD t []) (SS.getD (t+1) [])=true
theorem lc_iff {n:Int} {SS:List (List (List Int))} (n1 : 1≤n) (n12:n≤12) (each : ∀ S∈SS,Gs8 n S∨Gs8 (n % 12+1) S) (most:SS.length≤1∨∃ S∈SS,Gs8 n S) : ChG SS↔LcP n SS∨SS=[[[1]]]:=by
 have nm0:=Int.emod_nonneg n (show (12:Int)≠0 by decide)
 have at_ : ∀ t,t<SS.length→SS.getD t []∈SS:=fun t ht=>by
  rw [List.getD_eq_getElem?_getD,List.getElem?_eq_getElem ht]
  exact List.getElem_mem ht
 have lenS : ∀ (h : ∀ t,t+1<SS.length→jbG (SS.getD t []) (SS.getD (t+1) [])=true) (t:Nat),t<SS.length→((SS.getD t []).length:Int)=((SS.getD 0 []).length:Int) - t:=fun h t=>by
  induction t with
  | zero=>intro _; omega
  | succ t ih =>
   intro ht
   have e:=h t ht
   unfold jbG at e
   have:=of_decide_eq_true (Bool.and_eq_true_iff.mp e).1
   have:=ih (by omega)
   omega
 constructor
 ·intro c
  have lp:=List.length_pos_iff.mpr c.ne
  have fl:((SS.getD 0 []).length:Int)=manyM (SS.getD 0 []):=c.first
  have key:(∃ S∈SS,Gs8 n S)→LcP n SS:=fun ⟨S,hS,gS⟩=>by
   have m0:manyM (SS.getD 0 [])=n:=by rw [← c.many S hS,gS.cv.many8 (by omega)]
   have g0:Gs8 n (SS.getD 0 []):=by
    rcases each _ (at_ 0 lp) with g | g
    ·exact g
    ·have:=g.cv.many8 (by omega)
     rw [m0] at this
     rw [← this] at g
     exact g
   have l0:((SS.getD 0 []).length:Int)=n:=by rw [fl,m0]
   refine ⟨?_,(alone_iff8 (by omega) g0).mp (by omega),fun t ht=>⟨by rw [c.many _ (at_ _ ht),m0],c.step t ht⟩⟩
   have:=lenS c.step (SS.length - 1) (by omega)
   have:=c.last
   omega
  rcases most with h | h
  ·match SS,h,c.ne with
   | [S],_,_ =>
    rcases each S List.mem_cons_self with g | g
    ·exact .inl (key ⟨S,List.mem_cons_self,g⟩)
    ·right
     have e1:S.length=1:=c.last
     have e2:(S.length:Int)=manyM S:=c.first
     have e3:=g.cv.many8 (by omega)
     have one:n % 12+1=1:=by omega
     rw [one] at g
     have:=(alone_iff8 (by decide) g).mp (by rw [e1]; rfl)
     rw [this]
     rfl
  ·exact .inl (key h)
 ·rintro (c | e)
  ·have lp : 0<SS.length:=by have:=c.len; omega
   have m0:manyM (SS.getD 0 [])=n:=by rw [c.first]; exact alone_cov8.many8 (by omega)
   have l0:((SS.getD 0 []).length:Int)=n:=by
    rw [c.first]
    unfold alone
    rw [List.length_map,ivl_length]
    omega
   refine ⟨fun z=>by rw [z] at lp; exact absurd lp (by decide),fun S hS=>?_,by rw [m0]; exact l0,?_,fun t ht=>(c.step t ht).2⟩
   ·obtain ⟨i,hi⟩:=List.getElem?_of_mem hS
    have il:=(List.getElem?_eq_some_iff.mp hi).1
    have ed:SS.getD i []=S:=by rw [List.getD_eq_getElem?_getD,hi]; rfl
    rw [m0,← ed]
    cases i with
    | zero=>exact m0
    | succ i=>exact (c.step i il).1
   ·have:=lenS (fun t ht=>(c.step t ht).2) (SS.length - 1) (by omega)
    have:=c.len
    omega
  ·subst e
   exact ⟨by simp,fun S hS=>by rw [List.mem_singleton.mp hS]; rfl,rfl,rfl,fun t ht=>absurd ht (by simp)⟩
def spLic:Sp:=fun vs H Q _=>∃ (q:Addr) (as:List Addr) (uss:List (List V)) (SS:List (List (List Int))) (n:Int),vs=[.ref q,.int n]∧H q=some (.lst (as.map V.ref))∧Shs H as uss SS∧(∀ S∈SS,∃ m:Int,1≤m∧m≤12∧Cov m S)∧SS.length≤13∧1≤n∧n≤12∧∀ b H',(b=true↔LcP n SS)→Same H H'→Q (.bl b) H'
structure TLic (P:Program) (w:World) (K:PySem.W.Frag) (mg:Str→Option Value) (base:Heap) : Prop extends T1 mg K where
 b_sum:mg "sum" = none
 f__law_within:FnAt P w K mg base "_law_within" 2 ["_law_one", "_law_other"] spLWithin
section
variable {P:Program} {w:World} {K:PySem.W.Frag} {mg:Str→Option Value} {base:Heap}
theorem sc__law_is_chain:FnScope ["_law_chain", "_law_n", "_law_k", "_law_ahead", "_law_sharing_here"] ["_law_chain", "_law_n"] (defScope (top 54)):=⟨rfl,rfl,rfl,by decide +kernel,rfl,by decide +kernel,by decide +kernel⟩
theorem ok_lic {f:Addr} {fd:FuncData} (F:Fun K "_law_is_chain" "_law_is_chain" (top 54) f fd) (T:TLic P w K mg base) : FnOk P w K mg base CX0 3 f fd ["_law_chain", "_law_n"] spLic:=by
 refine F.ok sc__law_is_chain (fun vs H Q E h=>?_) (fun cdv A outer s H vs Q E hr h=>?_)
 ·obtain ⟨q,as,uss,SS,n,rfl,_⟩:=h
  rfl
 ·obtain ⟨q,as,uss,SS,n,rfl,hq,x,cvs,few,n1,n12,k⟩:=h
  refine ⟨_,(pss_cons (ps_if (PW.pt (pw_or (pt_cmpR op_ne (pe_callB (call_lenK (K:=K) rfl) rfl T.b_len (by decide +kernel) (pa_cons (pv 0) pa_nil)) (pv 1) (nomark _)) (pw_or1 (pt_cmpR (op_neD hr.units) (pe_ix (ix_listK (K:=K) rfl) (pv 0) pe_int (fun _ _=>rfl)) (pe_comp (N:=(["_law_thing"] : List Str)) (ix:=([none] : List (Option Nat))) (comp_ok rfl rfl) rfl (pi_range2 rfl T.b_range (pa_cons pe_int (pa_cons (pe_op op_add (pv 1) pe_int) pa_nil))) (fun _ _ _ _=>(pg_name (i:=0) (show List.Nodup (["_law_thing"] : List Str) from by decide +kernel) rfl (Or.inl rfl))) (fun _ _ _ _=>pif_nil) (fun _ _ _ _=>(pe_lst (pa_cons (pv 0) pa_nil)))) (nomark _))))) (pss_one (ps_ret pe_bl)) pss_nil)
   (pss_cons (ps_for PassesOwn.never rfl (pi_range1 rfl T.b_range (pa_cons (pe_op op_sub (pv 1) pe_int) pa_nil)) (pg_name (i:=2) sc__law_is_chain.nd rfl (Or.inl rfl)) (pss_cons (ps_par (i:=3) (j:=4) rfl sc__law_is_chain.nd rfl rfl (by decide) rfl rfl (pa_cons (pe_ix (ix_listK (K:=K) rfl) (pv 0) (pv 2) (fun _ _=>rfl)) (pa_cons (pe_ix (ix_listK (K:=K) rfl) (pv 0) (pe_op op_add (pv 2) pe_int) (fun _ _=>rfl)) pa_nil)) rfl)
   (pss_cons (ps_if (PW.pt (pw_or (pt_cmpR op_ne (pe_callB (call_sum (K:=K) rfl rfl) rfl T.b_sum (by decide +kernel) (pa_cons (pe_comp (N:=(["_law_part"] : List Str)) (ix:=([none] : List (Option Nat))) (comp_ok rfl rfl) rfl (pi_listK (K:=K) rfl (pv 4)) (fun _ _ _ _=>(pg_name (i:=0) (show List.Nodup (["_law_part"] : List Str) from by decide +kernel) rfl (Or.inl rfl))) (fun _ _ _ _=>pif_nil) (fun _ _ _ _=>(pe_callB (call_lenK (K:=K) rfl) rfl T.b_len (by decide +kernel) (pa_cons (pv 0) pa_nil)))) pa_nil)) (pv 1) (nomark _)) (pw_or1 (pt_cmpR op_ne (pe_callB (call_lenK (K:=K) rfl) rfl T.b_len (by decide +kernel) (pa_cons (pv 4) pa_nil)) (pe_op op_sub (pe_callB (call_lenK (K:=K) rfl) rfl T.b_len (by decide +kernel) (pa_cons (pv 3) pa_nil)) pe_int) (nomark _))))) (pss_one (ps_ret pe_bl)) pss_nil)
   (pss_one (ps_if (pt_not (pt_val (pe_callF T.f__law_within (hr.mono (by first | decide | omega)) rfl (pa_cons (pv 3) (pa_cons (pv 4) pa_nil))))) (pss_one (ps_ret pe_bl)) pss_nil)))))
   (pss_one (ps_ret pe_bl)))),?_⟩
  have one : 1≤sizeLine:=by decide
  have al:=x.1
  have ull:=x.2.1
  have asl:(as.map V.ref).length=SS.length:=by rw [List.length_map,al]
  have no : ∀ H',¬ LcP n SS→Same H H'→Q (.bl false) H':=fun H' z s=>k false H' ⟨fun q=>(by cases q),fun q=>absurd q z⟩ s
  have each : ∀ (H':Hp),Same H H'→∀ (i:Nat) (v:V),(as.map V.ref)[i]?=some v→∃ (a:Addr) (us:List V) (S:List (List Int)),v=.ref a∧H' a=some (.lst us)∧Lsts H' us S∧SS[i]?=some S:=fun H' s' i v hv=>by
   rw [List.getElem?_map] at hv
   obtain ⟨a,ha,rfl⟩:=Option.map_eq_some_iff.mp hv
   have hi:=(List.getElem?_eq_some_iff.mp ha).1
   obtain ⟨us,hus⟩ : ∃ us,uss[i]?=some us:=⟨_,List.getElem?_eq_getElem (by omega)⟩
   obtain ⟨S,hS⟩ : ∃ S,SS[i]?=some S:=⟨_,List.getElem?_eq_getElem (by omega)⟩
   obtain ⟨h1,h2⟩:=x.2.2 i a us S ha hus hS
   exact ⟨a,us,S,rfl,s' _ _ h1,h2.keep s',hS⟩
  refine ⟨_,rfl,q,_,rfl,.inl (SqL.of hq),_,rfl,rfl,_,rfl,?_⟩
  by_cases cl:(SS.length:Int)=n
  ·refine iteE (by rw [decide_eq_true (congrArg V.int (show (((as.map V.ref).length:Nat) : Int)=n by omega))]; rfl) ?_
   obtain ⟨v0,hv0⟩ : ∃ v,(as.map V.ref)[0]?=some v:=⟨_,List.getElem?_eq_getElem (by omega)⟩
   obtain ⟨a0,u0,S0,rfl,ha0,x0,hS0⟩:=each H (Same.refl _) 0 v0 hv0
   have d0:SS.getD 0 []=S0:=getDG hS0
   refine ⟨_,rfl,q,_,0,_,rfl,rfl,SqL.of hq,atI_nat hv0,?_⟩
   refine ⟨_,rfl,_,_,rfl,rfl,1,n+1,rfl,⟨by decide,by decide,by omega,by omega⟩,compR (k:=0) (fun j ys σ' H'=>Lsts H' ys ((alone n).take j)∧ys.length=j∧(∃ v,σ'=[v])∧Same H H') (by omega) ⟨.nil,rfl,⟨none,rfl⟩,Same.refl _⟩ (fun j ys σ' H'' q=>Nat.le_of_eq q.2.1) ?_ ?_⟩
   ·rintro j ys σ' H3 R hj ⟨xy,yl,⟨v,rfl⟩,s3⟩ done
    have hx:(alone n)[j]?=some [1+(j:Int)]:=by
     unfold alone
     rw [List.getElem?_map,get_ivl (by omega)]; rfl
    refine ⟨_,rfl,one,fun c fc=>done _ _ _ ⟨?_,by rw [List.length_append,yl]; rfl,⟨_,rfl⟩,s3.trans (Same.new fc)⟩⟩
    rw [take_snoc hx]
    exact (xy.keep (Same.new fc)).snoc upd_same
   rintro ys σ' H3 r3 ⟨xy,yl,_,s3⟩ fr3
   have all:(alone n).take (n+1 - 1).toNat=alone n:=List.take_of_length_le (by unfold alone; rw [List.length_map,ivl_length]; omega)
   rw [all] at xy
   have z3:Same H3 (upd H3 r3 (.lst ys)):=Same.new fr3
   have h3:upd H3 r3 (.lst ys) r3=some (.lst ys):=upd_same
   have xy3:=xy.keep z3
   generalize upd H3 r3 (.lst ys)=H4 at z3 h3 xy3 ⊢
   have s4:=s3.trans z3
   refine neLq8' (s4 _ _ ha0) (x0.keep s4) h3 xy3 ⟨_,rfl,?_⟩
   by_cases c0:S0=alone n
   ·refine iteE (by rw [decide_eq_true c0]; rfl) ?_
    have cv0:Cov n (SS.getD 0 []):=by rw [d0,c0]; exact alone_cov8
    refine ⟨_,rfl,_,_,rfl,rfl,_,rfl,by omega,by omega,for_range (fun i σ H'=>(∃ v2 v3 v4,σ=[some (.ref q),some (.int n),v2,v3,v4])∧Same H H'∧Cov n (SS.getD i [])∧∀ t,t<i→manyM (SS.getD (t+1) [])=n∧jbG (SS.getD t []) (SS.getD (t+1) [])=true) ⟨⟨_,_,_,rfl⟩,s4,cv0,fun t h=>absurd h (Nat.not_lt_zero _)⟩ ?_ ?_⟩
    ·rintro i σ H5 hi ⟨⟨v2,v3,v4,rfl⟩,s5,cvi,st⟩
     have hi':i+1<SS.length:=by omega
     have hq5:=s5 _ _ hq
     obtain ⟨va,hva⟩ : ∃ v,(as.map V.ref)[i]?=some v:=⟨_,List.getElem?_eq_getElem (by omega)⟩
     obtain ⟨vb,hvb⟩ : ∃ v,(as.map V.ref)[i+1]?=some v:=⟨_,List.getElem?_eq_getElem (by omega)⟩
     obtain ⟨b1,us1,S1,rfl,hb1,xS1,hS1⟩:=each H5 s5 i va hva
     obtain ⟨b2,us2,S2,rfl,hb2,xS2,hS2⟩:=each H5 s5 (i+1) vb hvb
     have e1:SS.getD i []=S1:=getDG hS1
     have e2:SS.getD (i+1) []=S2:=getDG hS2
     rw [e1] at cvi
     obtain ⟨m,mm1,m12,cv2⟩:=cvs S2 (List.mem_of_getElem? hS2)
     have sz1:=cvi.sizes (by omega)
     have sz2:=cv2.sizes (by omega)
     have l1:=xS1.length
     have l2:=xS2.length
     refine ⟨_,rfl,_,rfl,q,_,_,_,rfl,rfl,SqL.of hq5,at_refI (by omega) (by rw [show (0+(i:Int)).toNat=i by omega]; exact hva),_,rfl,_,rfl,_,_,rfl,rfl,q,_,_,_,rfl,rfl,SqL.of hq5,at_refI (by omega) (by rw [show (0+(i:Int)+1).toNat=i+1 by omega]; exact hvb),_,_,rfl,?_⟩
     refine ⟨_,rfl,b2,rfl,⟨_,SqL.of hb2⟩,compL (K:=K) (a:=b2) (xs:=us2) (k:=0) (fun j ys σ' H'=>ys=((S2.take j).map fun L=>(L.length:Int)).map V.int∧(∃ v,σ'=[v])∧H'=H5) (by omega) ⟨rfl,⟨none,rfl⟩,rfl⟩ (fun j ys σ' H' _ z=>by rw [z.2.2]; exact SqL.of hb2) (fun j ys σ' H' z=>by rw [z.1,List.length_map,List.length_map,List.length_take]; omega) ?_ ?_⟩
     ·rintro j ys σ' H6 v R hv ⟨rfl,⟨v',rfl⟩,rfl⟩ done
      obtain ⟨c,L,rfl,hc,hL⟩:=xS2.get hv
      refine ⟨_,rfl,c,_,rfl,.inl (SqL.of hc),done _ _ _ ⟨?_,⟨_,rfl⟩,rfl⟩⟩
      rw [take_snoc hL,List.map_append,List.map_append,List.length_map]
      rfl
     rintro ys σ' H6 r6 ⟨rfl,_,rfl⟩ fr6
     rw [List.take_of_length_le (by omega)]
     have z6:Same H6 (upd H6 r6 (.lst ((S2.map fun L=>(L.length:Int)).map V.int))):=Same.new fr6
     have h6:upd H6 r6 (.lst ((S2.map fun L=>(L.length:Int)).map V.int)) r6=some (.lst ((S2.map fun L=>(L.length:Int)).map V.int)):=upd_same
     generalize upd H6 r6 (.lst ((S2.map fun L=>(L.length:Int)).map V.int))=H7 at z6 h6 ⊢
     refine ⟨r6,_,rfl,SqL.of h6,_,rfl,rfl,_,rfl,?_⟩
     have em:(S2.map fun L=>(L.length:Int)).sum=manyM S2:=rfl
     rw [em]
     have s7:=s5.trans z6
     by_cases cm:manyM S2=n
     ·refine iteE (by rw [decide_eq_true (congrArg V.int cm)]; rfl) ?_
      have cvn:Cov n S2:=by rw [cv2.many8 (by omega)] at cm; rw [← cm]; exact cv2
      refine ⟨_,rfl,b2,_,rfl,.inl (SqL.of (z6 _ _ hb2)),_,rfl,b1,_,rfl,.inl (SqL.of (z6 _ _ hb1)),_,_,rfl,rfl,rfl,_,rfl,?_⟩
      by_cases cL:(S2.length:Int)=(S1.length:Int) - 1
      ·have ev:V.int ((us2.length:Nat) : Int)=(fun i j:Int=>V.int (i - j)) ((us1.length:Nat) : Int) 1:=congrArg V.int (show ((us2.length:Nat) : Int)=((us1.length:Nat) : Int) - 1 by omega)
       refine iteE (by rw [decide_eq_true ev]; rfl) ?_
       refine ⟨_,rfl,_,rfl,b1,b2,us1,us2,S1,S2,rfl,z6 _ _ hb1,xS1.keep z6,z6 _ _ hb2,xS2.keep z6,by omega,by omega,fun L hL=>⟨by have:=sz1.2 L hL; omega,fun y hy=>?_⟩,fun H8 s8=>⟨_,rfl,?_⟩⟩
       ·exact (owned_of (cvn.2.mem_iff.mpr (cvi.2.mem_iff.mp (List.mem_flatten.mpr ⟨L,hL,hy⟩)))).1
       rw [within_eq cvi cvn]
       cases cw:withB S1 S2 with
       | true =>
        refine iteF ?_
        refine ⟨⟨_,_,_,rfl⟩,s7.trans s8,by rw [e2]; exact cvn,fun t ht=>?_⟩
        by_cases et:t=i
        ·subst et
         rw [e1,e2]
         exact ⟨cm,by unfold jbG; rw [decide_eq_true cL,cw]; rfl⟩
        ·exact st t (by omega)
       | false =>
        refine iteT (no _ (fun c=>?_) (s7.trans s8))
        have:=(c.step i hi').2
        rw [e1,e2] at this
        unfold jbG at this
        rw [cw,Bool.and_false] at this
        cases this
      ·have ev : ¬ V.int ((us2.length:Nat) : Int)=(fun i j:Int=>V.int (i - j)) ((us1.length:Nat) : Int) 1:=fun z=>cL (by have:((us2.length:Nat) : Int)=((us1.length:Nat) : Int) - 1:=V.int.inj z; omega)
       refine iteP (by rw [decide_eq_false ev]; rfl) (no _ (fun c=>cL ?_) s7)
       have:=(c.step i hi').2
       rw [e1,e2] at this
       unfold jbG at this
       exact of_decide_eq_true (Bool.and_eq_true_iff.mp this).1
     ·have ev : ¬ V.int (manyM S2)=V.int n:=fun z=>cm (V.int.inj z)
      refine iteP (by rw [decide_eq_false ev]; rfl) (no _ (fun c=>cm ?_) s7)
      have:=(c.step i hi').1
      rw [e2] at this
      exact this
    ·rintro σ H5 ⟨⟨v2,v3,v4,rfl⟩,s5,_,st⟩
     exact k true H5 ⟨fun _=>⟨cl,by rw [d0]; exact c0,fun t ht=>st t (by omega)⟩,fun _=>rfl⟩ s5
   ·refine iteP (by rw [decide_eq_false c0]; rfl) ?_
    exact no H4 (fun c=>c0 (by rw [← d0]; exact c.first)) s4
  ·refine iteP (by rw [decide_eq_false fun z=>cl (by have:=V.int.inj z; omega)]; rfl) ?_
   exact no H (fun c=>cl c.len) (Same.refl H)
end
end Sw
namespace Sw
open PySem L2
def spRowBy:Sp:=fun vs H Q _=>∃ (l:Addr) (es:List Int),vs=[.ref l]∧H l=some (.lst (es.map V.int))∧TreeM es.length es∧es.length≤100∧∀ l' ws H',H l'=none→H' l'=some (.lst ws)→Exs H' ws (rowM es)→Same H H'→Q (.ref l') H'
structure TRb (mg:Str→Option Value) (K:PySem.W.Frag) : Prop extends T1 mg K where
 b_sorted:mg "sorted" = none
section
variable {P:Program} {w:World} {K:PySem.W.Frag} {mg:Str→Option Value} {base:Heap} {u:Value} {C:Addr}
theorem sc__law_row_by:FnScope ["_law_elders", "_law_names", "_law_thing", "_law_name", "_law_pairs", "_law_place"] ["_law_elders"] (defScope (top 47)):=⟨rfl,rfl,rfl,by decide +kernel,rfl,by decide +kernel,by decide +kernel⟩
theorem ok_rowby {f:Addr} {fd:FuncData} (F:Fun K "_law_row_by" "_law_row_by" (top 47) f fd) (T:TRb mg K) : FnOk P w K mg base CX0 1 f fd ["_law_elders"] spRowBy:=by
 refine F.ok sc__law_row_by (fun vs H Q E h=>?_) (fun cdv A outer s H vs Q E hr h=>?_)
 ·obtain ⟨l,es,rfl,_⟩:=h
  rfl
 ·obtain ⟨l,es,rfl,hl,ht,h100,k⟩:=h
  have hu:=hu_of hr
  refine ⟨_,(pss_cons (ps_set (i:=1) sc__law_row_by.nd rfl (Or.inr rfl) (pe_disp (pps_cons pe_int pe_int pps_nil) rfl rfl (by simp) (by decide)))
   (pss_cons (ps_set (i:=2) sc__law_row_by.nd rfl (Or.inl rfl) pe_int)
   (pss_cons (ps_for PassesOwn.never rfl (pi_range2 rfl T.b_range (pa_cons pe_int (pa_cons (pe_op op_add (pe_callB (call_lenK (K:=K) rfl) rfl T.b_len (by decide +kernel) (pa_cons (pv 0) pa_nil)) pe_int) pa_nil))) (pg_name (i:=3) sc__law_row_by.nd rfl (Or.inl rfl)) (pss_cons (ps_for PassesOwn.never rfl (pi_range2 rfl T.b_range (pa_cons pe_int (pa_cons (pe_op op_add (pe_callB (call_lenK (K:=K) rfl) rfl T.b_len (by decide +kernel) (pa_cons (pv 0) pa_nil)) pe_int) pa_nil))) (pg_name (i:=5) sc__law_row_by.nd rfl (Or.inl rfl)) (pss_one (ps_if (pt_cmpR (op_inK (K:=K) rfl) (pv 2) (pe_tup (pa_cons (pv 5) (pa_cons (pe_ix (ix_listK (K:=K) rfl) (pv 0) (pe_op op_sub (pv 5) pe_int) (fun _ _=>rfl)) pa_nil))) rfl) (pss_one (ps_set (i:=2) sc__law_row_by.nd rfl (Or.inl rfl) (pe_op op_sub (pe_op op_add (pv 5) (pe_ix (ix_listK (K:=K) rfl) (pv 0) (pe_op op_sub (pv 5) pe_int) (fun _ _=>rfl))) (pv 2)))) pss_nil)))
   (pss_one (ps_dput hu (pv 1) (pv 2) (pv 3) rfl))))
   (pss_cons (ps_comp (i:=4) sc__law_row_by.nd rfl rfl (N:=(["_law_place", "_law_names", "_law_elders"] : List Str)) (ix:=([none,some 1,some 0] : List (Option Nat))) (comp_ok rfl rfl) rfl (pi_range2 rfl T.b_range (pa_cons pe_int (pa_cons (pe_op op_add (pe_callB (call_lenK (K:=K) rfl) rfl T.b_len (by decide +kernel) (pa_cons (pv 0) pa_nil)) pe_int) pa_nil))) (fun _ _ _ _=>(pg_name (i:=0) (show List.Nodup (["_law_place", "_law_names", "_law_elders"] : List Str) from by decide +kernel) rfl (Or.inl rfl))) (fun _ _ _ _=>pif_nil) (fun _ _ _ _=>(pe_callB (call_sorted (K:=K) rfl) rfl T.b_sorted (by decide +kernel) (pa_cons (pe_lst (pa_cons (pe_dget hu (pv 1) (pv 0) (fun _ _=>rfl)) (pa_cons (pe_dget hu (pv 1) (pe_ix (ix_listK (K:=K) rfl) (pv 2) (pe_op op_sub (pv 0) pe_int) (fun _ _=>rfl)) (fun _ _=>rfl)) pa_nil))) pa_nil))))
   (pss_one (ps_ret (pe_comp (N:=(["_law_one", "_law_other"] : List Str)) (ix:=([none,none] : List (Option Nat))) (comp_ok rfl rfl) rfl (pi_listK (K:=K) rfl (pv 4)) (fun _ _ _ _=>(pg_lst (K:=K) (n:=2) rfl rfl (pgs_cons (pg_name (i:=0) (show List.Nodup (["_law_one", "_law_other"] : List Str) from by decide +kernel) rfl (Or.inl rfl)) (pgs_cons (pg_name (i:=1) (show List.Nodup (["_law_one", "_law_other"] : List Str) from by decide +kernel) rfl (Or.inl rfl)) pgs_nil)))) (fun _ _ _ _=>pif_nil) (fun _ _ _ _=>(pe_tup (pa_cons (pv 0) (pa_cons (pv 1) pa_nil))))))))))),?_⟩
  have big:(10000000:Nat)≤sizeLine:=by decide
  have two : 2≤sizeLine:=by decide
  have o:=ties_one ht
  have hgT:=ties_good ht
  have tl:=ties_len (es:=es)
  generalize hxs:ledM ((es.length:Int)+1) (tiesM es)=xs at o
  have ldx : ∀ x,1≤x→x≤(es.length:Int)+1→go (tiesM es) x=ld xs x:=fun x a b=>by rw [← hxs,ld_led a b]
  have eat : ∀ (H':Hp) (j:Nat),H' l=some (.lst (es.map V.int))→j<es.length→SqL K H' l (es.map V.int)∧atI (es.map V.int) (1+(j:Int) - 1)=some (V.int (el es j)):=fun H' j h hj=>by
   refine ⟨SqL.of h,at_int (by omega) ?_⟩
   rw [show (1+(j:Int) - 1).toNat=j by omega]
   unfold el
   rw [List.getD_eq_getElem?_getD,List.getElem?_eq_getElem hj]
   rfl
  refine fun d fd0=>?_
  refine ⟨upd_same,[(Sum.inl 0,.int 1)],rfl,by show 1≤15; decide,?_⟩
  have s2:Same H (upd (upd H d (.dK [])) d (.dK (mergeK [] [(Sum.inl 0,.int 1)]))):=Same.put (Same.put (Same.refl _) fd0) fd0
  have h2:upd (upd H d (.dK [])) d (.dK (mergeK [] [(Sum.inl 0,.int 1)])) d=some (.dK (dkP (nmL xs 1))):=upd_same
  generalize upd (upd H d (.dK [])) d (.dK (mergeK [] [(Sum.inl 0,.int 1)]))=H2 at s2 h2 ⊢
  refine ⟨_,rfl,l,_,rfl,.inl (SqL.of (s2 _ _ hl)),_,_,rfl,rfl,2,_,rfl,⟨by decide,by decide,by rw [List.length_map]; omega,by rw [List.length_map]; omega⟩,?_⟩
  rw [show (((es.map V.int).length:Int)+2 - 2).toNat=es.length by rw [List.length_map]; omega]
  refine for_range (fun i σ H'=>(∃ v3 v4 v5,σ=[some (.ref l),some (.ref d),some (.int (itn (ld xs) i 1 - 1)),v3,v4,v5])∧Same H H'∧H' d=some (.dK (dkP (nmL xs (i+1))))) ⟨⟨_,_,_,rfl⟩,s2,h2⟩ ?_ ?_
  ·rintro i σ H3 hi ⟨⟨v3,v4,v5,rfl⟩,s3,h3⟩
   have xi:=itn_in o.ord (Int.le_refl 1) o.pos i
   refine ⟨_,rfl,l,_,rfl,.inl (SqL.of (s3 _ _ hl)),_,_,rfl,rfl,1,_,rfl,⟨by decide,by decide,by rw [List.length_map]; omega,by rw [List.length_map]; omega⟩,?_⟩
   rw [show (((es.map V.int).length:Int)+1 - 1).toNat=es.length by rw [List.length_map]; omega]
   refine for_range (fun j σ H'=>(∃ v4 v5,σ=[some (.ref l),some (.ref d),some (.int (go ((tiesM es).take j) (itn (ld xs) i 1) - 1)),some (.int (2+(i:Int))),v4,v5])∧Same H3 H') ⟨⟨_,_,rfl⟩,Same.refl _⟩ ?_ ?_
   ·rintro j σ H4 hj ⟨⟨w4,w5,rfl⟩,s4⟩
    have hl4:=s4 _ _ (s3 _ _ hl)
    obtain ⟨q1,q2⟩:=eat H4 j hl4 hj
    refine ⟨_,rfl,_,rfl,_,rfl,_,rfl,_,_,rfl,rfl,l,_,_,_,rfl,rfl,q1,q2,two,fun t ft=>?_⟩
    have s5:Same H4 (upd H4 t (.tup [.int (1+(j:Int)),.int (el es j)])):=Same.new ft
    refine ⟨t,_,rfl,.inr (SqT.of upd_same),rfl,rfl,_,rfl,?_⟩
    have hl5:=s5 _ _ hl4
    generalize upd H4 t (.tup [.int (1+(j:Int)),.int (el es j)])=H5 at s5 hl5 ⊢
    have e1:go ((tiesM es).take (j+1)) (itn (ld xs) i 1) - 1=if go ((tiesM es).take j) (itn (ld xs) i 1) - 1=(j:Int)+1∨go ((tiesM es).take j) (itn (ld xs) i 1) - 1=el es j then (j:Int)+1+el es j - (go ((tiesM es).take j) (itn (ld xs) i 1) - 1) else go ((tiesM es).take j) (itn (ld xs) i 1) - 1:=by
     rw [go_take (ties_at hj),← tie_go,show go ((tiesM es).take j) (itn (ld xs) i 1) - 1+1=go ((tiesM es).take j) (itn (ld xs) i 1) by omega]
    have e2:inV (V.int (go ((tiesM es).take j) (itn (ld xs) i 1) - 1)) [V.int (1+(j:Int)),V.int (el es j)]=decide (go ((tiesM es).take j) (itn (ld xs) i 1) - 1=(j:Int)+1∨go ((tiesM es).take j) (itn (ld xs) i 1) - 1=el es j):=by
     rw [Bool.eq_iff_iff]
     simp [inV,eqV]
     omega
    have e2':(if false=true then !inV (V.int (go ((tiesM es).take j) (itn (ld xs) i 1) - 1)) [V.int (1+(j:Int)),V.int (el es j)] else inV (V.int (go ((tiesM es).take j) (itn (ld xs) i 1) - 1)) [V.int (1+(j:Int)),V.int (el es j)])=decide (go ((tiesM es).take j) (itn (ld xs) i 1) - 1=(j:Int)+1∨go ((tiesM es).take j) (itn (ld xs) i 1) - 1=el es j):=by rw [if_neg Bool.false_ne_true,e2]
    by_cases hc:go ((tiesM es).take j) (itn (ld xs) i 1) - 1=(j:Int)+1∨go ((tiesM es).take j) (itn (ld xs) i 1) - 1=el es j
    ·refine iteP (by rw [e2']; exact decide_eq_true hc) ?_
     obtain ⟨q1,q2⟩:=eat H5 j hl5 hj
     refine ⟨_,rfl,_,rfl,_,rfl,_,_,rfl,rfl,l,_,_,_,rfl,rfl,q1,q2,_,_,rfl,rfl,_,rfl,_,_,rfl,rfl,?_⟩
     refine ⟨?_,s4.trans s5⟩
     rw [if_pos hc] at e1
     rw [e1,show (j:Int)+1=1+(j:Int) by omega]
     exact ⟨_,_,rfl⟩
    ·refine iteE (by rw [e2']; exact decide_eq_false hc) ?_
     refine ⟨?_,s4.trans s5⟩
     rw [if_neg hc] at e1
     rw [e1]
     exact ⟨_,_,rfl⟩
   ·rintro σ H4 ⟨⟨w4,w5,rfl⟩,s4⟩
    rw [List.take_of_length_le (by omega),ldx _ xi.1 xi.2]
    have h4:=s4 _ _ h3
    refine ⟨_,rfl,_,rfl,_,rfl,d,_,rfl,DPut.k (k:=Sum.inl (itn (ld xs) (i+1) 1 - 1)) h4 (by rw [dkP_len,nmL_len]; omega),?_⟩
    rw [dkP_put (nmL_new o (k:=i+1) (by omega))]
    refine ⟨⟨_,_,_,rfl⟩,Same.put (s3.trans s4) fd0,?_⟩
    rw [upd_same,nmL_succ (i+1),show ((i+1:Nat) : Int)+1=2+(i:Int) by omega]
  ·rintro σ H3 ⟨⟨v3,v4,v5,rfl⟩,s3,h3⟩
   have hl3:=s3 _ _ hl
   have nn:((es.length:Int)+1).toNat=es.length+1:=by omega
   have nd3:=nmL_keys o (k:=es.length+1) (by omega)
   have gA : ∀ (H':Hp) (y:Int),H' d=some (.dK (dkP (nmL xs (es.length+1))))→0≤y→y≤es.length→DGet H' d (.int y) (some (.int (nu xs (y+1)))):=fun H' y h a b=>by
    have g:=DGet.k (k:=Sum.inl y) h
    have m:=nmL_at o (y:=y) a (by omega)
    rw [nn] at m
    rw [dkP_in nd3 m] at g
    exact g
   refine ⟨_,rfl,l,_,rfl,.inl (SqL.of hl3),_,_,rfl,rfl,1,_,rfl,⟨by decide,by decide,by rw [List.length_map]; omega,by rw [List.length_map]; omega⟩,?_⟩
   rw [show (((es.map V.int).length:Int)+1 - 1).toNat=es.length by rw [List.length_map]; omega]
   refine compR (k:=0) (fun j ys σ' H'=>(∃ v,σ'=[v,some (.ref d),some (.ref l)])∧Same H3 H'∧Lsts H' ys (((rowM es).take j).map fun e=>[e.1,e.2])) (by omega) ⟨⟨none,rfl⟩,Same.refl _,.nil⟩ (fun j ys σ' H' q=>by have:=q.2.2.length; rw [List.length_map,List.length_take] at this; omega) ?_ ?_
   ·rintro j ys σ' H4 R hj ⟨⟨v,rfl⟩,s4,x4⟩ done
    have ei:=el_in ht hj
    have h4:=s4 _ _ h3
    obtain ⟨q1,q2⟩:=eat H4 j (s4 _ _ hl3) hj
    refine ⟨_,rfl,_,rfl,d,_,rfl,gA H4 (1+(j:Int)) h4 (by omega) (by omega),_,rfl,_,rfl,_,rfl,_,_,rfl,rfl,l,_,_,_,rfl,rfl,q1,q2,d,_,rfl,gA H4 (el es j) h4 ei.1 ei.2,two,fun p fp=>?_⟩
    refine ⟨p,[nu xs (1+(j:Int)+1),nu xs (el es j+1)],rfl,SqL.of upd_same,(by show 2<64; decide),fun l2 ns' fl2 pm pw=>?_⟩
    have en:=srt2 pm pw
    subst en
    have s5:Same H4 (upd H4 p (.lst [V.int (nu xs (1+(j:Int)+1)),V.int (nu xs (el es j+1))])):=Same.new fp
    have s6:=s5.trans (Same.new (o:=.lst ([min (nu xs (1+(j:Int)+1)) (nu xs (el es j+1)),max (nu xs (1+(j:Int)+1)) (nu xs (el es j+1))].map V.int)) fl2)
    refine done _ _ _ ⟨⟨_,rfl⟩,s4.trans s6,?_⟩
    have ra:(rowM es)[j]?=some (min (nu xs (1+(j:Int)+1)) (nu xs (el es j+1)),max (nu xs (1+(j:Int)+1)) (nu xs (el es j+1))):=by
     have:=(rowM_tied ht).at hj
     rw [hxs] at this
     rw [this]
     unfold lab
     dsimp only
     rw [show (j:Int)+2=1+(j:Int)+1 by omega,Int.min_comm,Int.max_comm]
    rw [take_succ_map (fun e:Int × Int=>[e.1,e.2]) ra]
    exact (x4.keep s6).snoc upd_same
   ·rintro ys σ' H4 q ⟨⟨v,rfl⟩,s4,x4⟩ fq
    have rl:=(rowM_tied ht).len
    rw [List.take_of_length_le (by omega)] at x4
    have s5:Same H4 (upd H4 q (.lst ys)):=Same.new fq
    have hq:upd H4 q (.lst ys) q=some (.lst ys):=upd_same
    have x5:=x4.keep s5
    have a5:=s3.trans (s4.trans s5)
    generalize upd H4 q (.lst ys)=H5 at s5 hq x5 a5 ⊢
    have yl:=x5.length
    rw [List.length_map] at yl
    refine ⟨_,rfl,q,rfl,⟨_,SqL.of hq⟩,compLG (K:=K) (a:=q) (xs:=ys) (fun j zs σ' H'=>(∃ v0 v1,σ'=[v0,v1])∧Same H5 H'∧Exs H' zs ((rowM es).take j)) (by omega) ⟨⟨none,none,rfl⟩,Same.refl _,.nil⟩ (fun j zs σ' H' _ q'=>SqL.of (q'.2.1 _ _ hq)) (fun j zs σ' H' q'=>by have:=q'.2.2.length; rw [List.length_take] at this; omega) ?_ ?_⟩
    ·rintro j zs σ' H6 x R hx ⟨⟨v0,v1,rfl⟩,s6,x6⟩ done
     obtain ⟨b,ns,rfl,hb,hn⟩:=x5.get hx
     rw [List.getElem?_map] at hn
     obtain ⟨⟨e1,e2⟩,he,rfl⟩ : ∃ e,(rowM es)[j]?=some e∧[e.1,e.2]=ns:=by
      cases c:(rowM es)[j]? with
      | none=>rw [c] at hn; cases hn
      | some e=>rw [c] at hn; exact ⟨e,rfl,Option.some.inj hn⟩
     refine ⟨b,_,rfl,SqL.of (s6 _ _ hb),rfl,_,_,rfl,_,_,rfl,rfl,_,rfl,_,rfl,two,fun t ft=>?_⟩
     refine done _ _ _ ⟨⟨_,_,rfl⟩,s6.trans (Same.new ft),?_⟩
     rw [List.take_succ,he]
     exact (x6.keep (Same.tups (Same.new ft))).snoc upd_same
    ·rintro zs σ' H6 q' ⟨_,s6,x6⟩ fq'
     rw [List.take_of_length_le (by omega)] at x6
     exact k q' zs _ ((a5.trans s6).free fq') upd_same (x6.keep (Same.tups (Same.new fq'))) (a5.trans (s6.trans (Same.new fq')))
end
end Sw
namespace Sw
open PySem L2
theorem repI {H:Hp} {a:Addr} {c:Int} {k:Nat} {Q:VK} (h1:H a=some (.lst [.int c])) (hk:k≤1000) (q : ∀ p H',H p=none→H' p=some (.lst ((List.replicate k c).map V.int))→Same H H'→Q (.ref p) H') : rRep (.ref a) (.int (k:Int)) H Q:=by
 have big:(10000000:Nat)≤sizeLine:=by decide
 refine ⟨a,k,_,rfl,rfl,h1,by omega,by omega,?_,fun p hp=>q p _ hp ?_ (Same.new hp)⟩
 ·show 1 * k≤_; omega
 ·rw [upd_same]
  congr 2
  rw [List.map_replicate]
  show (List.replicate k [V.int c]).flatten=_
  clear q hk h1
  induction k with
  | zero=>rfl
  | succ k ih=>rw [List.replicate_succ,List.replicate_succ,List.flatten_cons,ih]; rfl
theorem repI' {H:Hp} {a:Addr} {c:Int} {m:Int} {Q:VK} (h1:H a=some (.lst [.int c])) (h0 : 0≤m) (hk:m≤1000) (q : ∀ p H',H p=none→H' p=some (.lst ((List.replicate m.toNat c).map V.int))→Same H H'→Q (.ref p) H') : rRep (.ref a) (.int m) H Q:=by
 have e:((m.toNat:Nat) : Int)=m:=Int.toNat_of_nonneg h0
 rw [← e]
 exact repI h1 (by omega) fun p H' a b c=>q p H' a b c
def spTreeG:Sp:=fun vs H Q _=>∃ (z n:Int),vs=[.int z,.int n]∧0≤z∧0≤n∧n≤100∧∀ l es H',H l=none→H' l=some (.lst (es.map V.int))→TreeM n es→Same H H'→Q (.ref l) H'
section
variable {P:Program} {w:World} {K:PySem.W.Frag} {mg:Str→Option Value} {base:Heap}
theorem sc__law_tree:FnScope ["_law_number_here", "_law_many", "_law_left", "_law_come", "_law_elders", "_law_k", "_law_place"] ["_law_number_here", "_law_many"] (defScope (top 46)):=⟨rfl,rfl,rfl,by decide +kernel,rfl,by decide +kernel,by decide +kernel⟩
theorem ok_ltree {f:Addr} {fd:FuncData} (F:Fun K "_law_tree" "_law_tree" (top 46) f fd) (T:T1 mg K) : FnOk P w K mg base CX0 1 f fd ["_law_number_here", "_law_many"] spTreeG:=by
 refine F.ok sc__law_tree (fun vs H Q E h=>?_) (fun cdv A outer s H vs Q E hr h=>?_)
 ·obtain ⟨z,n,rfl,_⟩:=h
  rfl
 ·obtain ⟨z,n,rfl,z0,n0,n1,k⟩:=h
  refine ⟨_,(pss_cons (ps_set (i:=2) sc__law_tree.nd rfl (Or.inl rfl) (pe_callTy (call_list_rng rfl) rfl T.b_list (by decide +kernel) (pa_cons (pe_callTy call_range rfl T.b_range (by decide +kernel) (pa_cons pe_int (pa_cons (pe_op op_add (pv 1) pe_int) pa_nil))) pa_nil)))
   (pss_cons (ps_set (i:=3) sc__law_tree.nd rfl (Or.inl rfl) (pe_lst (pa_cons pe_int pa_nil)))
   (pss_cons (ps_set (i:=4) sc__law_tree.nd rfl (Or.inl rfl) (pe_op op_rep (pe_lst (pa_cons pe_int pa_nil)) (pv 1)))
   (pss_cons (ps_for PassesOwn.never rfl (pi_range1 rfl T.b_range (pa_cons (pv 1) pa_nil)) (pg_name (i:=5) sc__law_tree.nd rfl (Or.inl rfl)) (pss_cons (ps_set (i:=6) sc__law_tree.nd rfl (Or.inl rfl) (pe_bmK (K:=K) rfl PySem.F.plainAttrs_list PySem.F.slot_list_pop PySem.F.type_list_pop mt_popAt (pv 2) (pa_cons (pe_op op_mod (pv 0) (pe_callB (call_lenK (K:=K) rfl) rfl T.b_len (by decide +kernel) (pa_cons (pv 2) pa_nil))) pa_nil)))
   (pss_cons (ps_set (i:=0) sc__law_tree.nd rfl (Or.inl rfl) (pe_op op_fdivL (pv 0) (pe_op op_sub (pv 1) (pv 5))))
   (pss_cons (ps_asg (pe_ix (ix_listK (K:=K) rfl) (pv 3) (pe_op op_mod (pv 0) (pe_callB (call_lenK (K:=K) rfl) rfl T.b_len (by decide +kernel) (pa_cons (pv 3) pa_nil))) (fun _ _=>rfl)) (pg_sub (pv 4) (pe_op op_sub (pv 6) pe_int) set_list))
   (pss_cons (ps_set (i:=0) sc__law_tree.nd rfl (Or.inl rfl) (pe_op op_fdivL (pv 0) (pe_callB (call_lenK (K:=K) rfl) rfl T.b_len (by decide +kernel) (pa_cons (pv 3) pa_nil))))
   (pss_one (ps_expr (pe_bmK (K:=K) rfl PySem.F.plainAttrs_list PySem.F.slot_list_append PySem.F.type_list_append mt_append (pv 3) (pa_cons (pv 6) pa_nil)))))))))
   (pss_one (ps_ret (pv 4))))))),?_⟩
  have big:(10000000:Nat)≤sizeLine:=by decide
  have one1 : 1≤sizeLine:=by decide
  refine ⟨_,rfl,_,_,rfl,rfl,.inr ⟨_,_,rfl,fun rg hrg=>⟨rg,_,_,rfl,upd_same,by omega,by omega,by omega,by omega,fun l hl=>?_⟩⟩⟩
  have s1:=(Same.new (o:=.rng 1 (n+1)) hrg).trans (Same.new (o:=.lst ((ivl 1 (n+1)).map V.int)) hl)
  have fl:H l=none:=(Same.new (o:=.rng 1 (n+1)) hrg).free hl
  have h1:upd (upd H rg (.rng 1 (n+1))) l (.lst ((ivl 1 (n+1)).map V.int)) l=some (.lst ((ivl 1 (n+1)).map V.int)):=upd_same
  generalize upd (upd H rg (.rng 1 (n+1))) l (.lst ((ivl 1 (n+1)).map V.int))=H1 at s1 h1 ⊢
  refine ⟨one1,fun lc hlc=>?_⟩
  have s2:Same H1 (upd H1 lc (.lst [.int 0])):=Same.new hlc
  have h2:upd H1 lc (.lst [.int 0]) lc=some (.lst ([0].map V.int)):=upd_same
  have flc:H lc=none:=s1.free hlc
  have nlc:l≠lc:=ne_of_none h1 hlc
  have h1':=s2 _ _ h1
  have s2:=s1.trans s2
  generalize upd H1 lc (.lst [.int 0])=H2 at s2 h2 h1' ⊢
  refine ⟨one1,fun l0 hl0=>⟨_,rfl,repI' upd_same n0 (by omega) fun le H3 fle h3 s3=>?_⟩⟩
  have s3:=(Same.new (o:=.lst [.int 0]) hl0).trans s3
  have fle2:H2 le=none:=(Same.new (o:=.lst [.int 0]) hl0).free fle
  have fle0:H le=none:=s2.free fle2
  have nle:l≠le:=ne_of_none h1' fle2
  have nce:lc≠le:=ne_of_none h2 fle2
  refine ⟨_,rfl,_,rfl,by omega,by omega,?_⟩
  refine for_range (fun i σ H'=>∃ z' cm ls es v5 v6,σ=[some (.int z'),some (.int n),some (.ref l),some (.ref lc),some (.ref le),v5,v6]∧0≤z'∧Same H H'∧H' l=some (.lst (ls.map V.int))∧H' lc=some (.lst ((0 :: cm).map V.int))∧H' le=some (.lst (es.map V.int))∧cm.length=i∧Ord n (cm++ls)∧es.length=n.toNat∧(∀ e∈es,0≤e∧e≤n)∧Grown es (0 :: cm))
   ⟨z,[],ivl 1 (n+1),_,_,_,rfl,z0,s2.trans s3,s3 _ _ h1',s3 _ _ h2,h3,rfl,ord_plain n,by rw [List.length_replicate],fun e he=>?_,⟨rfl,fun j x j1 hx=>?_⟩⟩ ?_ ?_
  ·rw [(List.mem_replicate.mp he).2]; omega
  ·have:=(List.getElem?_eq_some_iff.mp hx).1
   simp at this
   omega
  ·rintro i σ H4 hi ⟨z',cm,ls,es,v5,v6,rfl,z0',s4,hL,hC,hE,cml,o,esl,eb,gr⟩
   have ol:=o.length
   rw [List.length_append] at ol
   have lpos:(0:Int)<((ls.map V.int).length:Int):=by rw [List.length_map]; omega
   have r0:=Int.emod_nonneg z' (Int.ne_of_gt lpos)
   have r1:=Int.emod_lt_of_pos z' lpos
   obtain ⟨g,hg⟩:=get_lt (ns:=ls) (k:=(z' % ((ls.map V.int).length:Int)).toNat) (by rw [List.length_map] at r1 ⊢; omega)
   have lsm:((ls.map V.int).length:Int)=ls.length:=by rw [List.length_map]
   refine ⟨_,rfl,.inl ⟨rfl,_,SqL.of hL⟩,_,rfl,_,rfl,l,_,rfl,.inl (SqL.of hL),_,_,rfl,rfl,lpos,l,_,_,(z' % ((ls.map V.int).length:Int)).toNat,_,rfl,rfl,hL,by omega,by omega,(ixN_seq (ixN_lt r0 r1)).1,map_get hg,?_⟩
   have o2:=pop_perm o hg
   have s5:Same H (upd H4 l (.lst ((ls.map V.int).eraseIdx (z' % ((ls.map V.int).length:Int)).toNat))):=Same.put s4 fl
   have hL5:upd H4 l (.lst ((ls.map V.int).eraseIdx (z' % ((ls.map V.int).length:Int)).toNat)) l=some (.lst ((ls.eraseIdx (z' % ((ls.map V.int).length:Int)).toNat).map V.int)):=by rw [upd_same,eraseIdx_map]
   have hC5:upd H4 l (.lst ((ls.map V.int).eraseIdx (z' % ((ls.map V.int).length:Int)).toNat)) lc=some (.lst ((0 :: cm).map V.int)):=by rw [upd_ne nlc.symm]; exact hC
   have hE5:upd H4 l (.lst ((ls.map V.int).eraseIdx (z' % ((ls.map V.int).length:Int)).toNat)) le=some (.lst (es.map V.int)):=by rw [upd_ne nle.symm]; exact hE
   generalize upd H4 l (.lst ((ls.map V.int).eraseIdx (z' % ((ls.map V.int).length:Int)).toNat))=H5 at s5 hL5 hC5 hE5 ⊢
   generalize ls.eraseIdx (z' % ((ls.map V.int).length:Int)).toNat=ls2 at o2 hL5
   have gb : 1≤g∧g≤n:=by
    have:=o2.mem.mp (List.mem_append_left ls2 (List.mem_append_right cm (List.mem_singleton.mpr rfl)))
    omega
   have gni:g∉(0 :: cm):=by
    have nd:=(List.nodup_append.mp (o2.nodup)).1
    intro hz
    rcases List.mem_cons.mp hz with hz | hz
    ·omega
    ·exact (List.nodup_append.mp nd).2.2 g hz g (List.mem_singleton.mpr rfl) rfl
   have cin : ∀ x∈(0 :: cm),0≤x∧x≤n:=fun x hx=>by
    rcases List.mem_cons.mp hx with rfl | hx
    ·omega
    ·have:=o.mem.mp (List.mem_append_left ls hx)
     omega
   refine ⟨_,rfl,_,rfl,_,rfl,_,_,rfl,rfl,_,_,rfl,rfl,⟨by omega,by omega⟩,?_⟩
   have z1 : 0≤z' / (n - (0+(i:Int))):=Int.ediv_nonneg z0' (by omega)
   obtain ⟨z2,ez⟩ : ∃ z2:Int,z' / (n - (0+(i:Int)))=z2:=⟨_,rfl⟩
   have cpos:(0:Int)<(((0 :: cm).map V.int).length:Int):=by rw [List.length_map,List.length_cons]; omega
   have c0:=Int.emod_nonneg (z' / (n - (0+(i:Int)))) (Int.ne_of_gt cpos)
   have c1:=Int.emod_lt_of_pos (z' / (n - (0+(i:Int)))) cpos
   have cme:(((0 :: cm).map V.int).length:Int)=(cm.length:Int)+1:=by rw [List.length_map,List.length_cons]; omega
   obtain ⟨y,hy⟩:=get_lt (ns:=0 :: cm) (k:=((z' / (n - (0+(i:Int)))) % (((0 :: cm).map V.int).length:Int)).toNat) (by rw [List.length_cons]; omega)
   refine ⟨_,rfl,_,rfl,_,rfl,lc,_,rfl,.inl (SqL.of hC5),_,_,rfl,rfl,cpos,lc,_,_,_,rfl,rfl,SqL.of hC5,at_int c0 hy,?_⟩
   have yb:=cin y (List.mem_of_getElem? hy)
   refine ⟨_,rfl,_,rfl,_,_,rfl,rfl,le,_,_,(g - 1).toNat,rfl,rfl,hE5,ixN_lt (by omega) (by rw [List.length_map]; omega),?_⟩
   have s6:Same H (upd H5 le (.lst ((es.map V.int).set (g - 1).toNat (.int y)))):=Same.put s5 fle0
   have hE6:upd H5 le (.lst ((es.map V.int).set (g - 1).toNat (.int y))) le=some (.lst ((es.set (g - 1).toNat y).map V.int)):=by rw [upd_same,List.map_set]
   have hC6:upd H5 le (.lst ((es.map V.int).set (g - 1).toNat (.int y))) lc=some (.lst ((0 :: cm).map V.int)):=by rw [upd_ne nce]; exact hC5
   have hL6:upd H5 le (.lst ((es.map V.int).set (g - 1).toNat (.int y))) l=some (.lst (ls2.map V.int)):=by rw [upd_ne nle]; exact hL5
   generalize upd H5 le (.lst ((es.map V.int).set (g - 1).toNat (.int y)))=H6 at s6 hE6 hC6 hL6 ⊢
   refine ⟨_,rfl,_,rfl,lc,_,rfl,.inl (SqL.of hC6),_,_,rfl,rfl,⟨cpos,by rw [List.length_map,List.length_cons]; omega⟩,?_⟩
   refine ⟨_,rfl,.inl ⟨rfl,_,SqL.of hC6⟩,_,rfl,lc,_,_,rfl,rfl,hC6,by rw [List.length_map,List.length_cons]; omega,?_⟩
   refine ⟨_,cm++[g],ls2,es.set (g - 1).toNat y,_,_,rfl,Int.ediv_nonneg z1 (by omega),Same.put s6 flc,by rw [upd_ne nlc]; exact hL6,?_,by rw [upd_ne nce.symm]; exact hE6,?_,o2,by rw [List.length_set]; exact esl,fun e he=>?_,?_⟩
   ·rw [upd_same]
    show some (HO.lst ((0 :: cm).map V.int++[V.int g]))=some (HO.lst ((0 :: (cm++[g])).map V.int))
    rw [← List.cons_append,List.map_append]
    rfl
   ·rw [List.length_append,cml]; rfl
   ·rcases List.mem_or_eq_of_mem_set he with he | rfl
    ·exact eb e he
    ·exact yb
   ·rw [← List.cons_append]
    exact gr.snoc gni gb.1 (by omega) hy
  ·rintro σ H4 ⟨z',cm,ls,es,v5,v6,rfl,z0',s4,hL,hC,hE,cml,o,esl,eb,gr⟩
   have ol:=o.length
   rw [List.length_append] at ol
   have lsn:ls=[]:=List.eq_nil_of_length_eq_zero (by omega)
   subst lsn
   rw [List.append_nil] at o
   refine ⟨_,rfl,k le es H4 fle0 hE ⟨esl,eb,fun p p1 p2=>?_⟩ s4⟩
   have pm:p∈cm:=o.mem.mpr ⟨by omega,by omega⟩
   obtain ⟨j,hj,ej⟩:=List.mem_iff_getElem.mp pm
   have:=gr.home (j+1) p (by rw [List.getElem?_cons_succ,List.getElem?_eq_getElem hj,ej])
   exact ups_mono this (by omega)
end
end Sw
namespace Sw
open PySem L2
section
variable {P:Program} {w:World} {K:PySem.W.Frag} {mg:Str→Option Value} {base:Heap}
theorem sc__law_great:FnScope ["_law_n"] ["_law_n"] (defScope (top 44)):=⟨rfl,rfl,rfl,by decide +kernel,rfl,by decide +kernel,by decide +kernel⟩
theorem ok_lgreat {f:Addr} {fd:FuncData} (F:Fun K "_law_great" "_law_great" (top 44) f fd) (T:T1 mg K) : FnOk P w K mg base CX0 1 f fd ["_law_n"] spGreat:=by
 refine F.ok sc__law_great (fun vs H Q E h=>?_) (fun cdv A outer s H vs Q E hr h=>?_)
 ·obtain ⟨n,rfl,_⟩:=h
  rfl
 ·obtain ⟨n,rfl,n1,n2,k⟩:=h
  refine ⟨_,(pss_one (ps_ret (pe_callTy (call_tuple_ofK (K:=K) rfl) rfl T.b_tuple (by decide +kernel) (pa_cons (pe_comp (N:=(["_law_k", "_law_n"] : List Str)) (ix:=([none,some 0] : List (Option Nat))) (comp_ok rfl rfl) rfl (pi_range2 rfl T.b_range (pa_cons pe_int (pa_cons (pe_op op_add (pv 0) pe_int) pa_nil))) (fun _ _ _ _=>(pg_name (i:=0) (show List.Nodup (["_law_k", "_law_n"] : List Str) from by decide +kernel) rfl (Or.inl rfl))) (fun _ _ _ _=>pif_nil) (fun _ _ _ _=>(pe_op op_add (pe_op op_mod (pv 0) (pv 1)) pe_int))) pa_nil)))),?_⟩
  refine ⟨_,rfl,_,_,rfl,rfl,1,n+1,rfl,⟨by decide,by decide,by omega,by omega⟩,compR (k:=0) (fun i ys σ' H''=>ys=((ivl 1 (n+1)).take i).map (fun x=>V.int (x % n+1))∧(∃ v,σ'=[v,some (.int n)])∧H''=H) (by omega) ⟨rfl,⟨none,rfl⟩,rfl⟩ (fun i ys σ' H'' q=>by rw [q.1,List.length_map,List.length_take]; omega) ?_ ?_⟩
  ·rintro i ys σ' H'' R hi ⟨rfl,⟨v,rfl⟩,rfl⟩ done
   have hx:(ivl 1 (n+1))[i]?=some (1+(i:Int)):=get_ivl (by omega)
   refine ⟨_,rfl,_,rfl,_,_,rfl,rfl,n1,_,_,rfl,rfl,done _ _ _ ⟨?_,⟨_,rfl⟩,rfl⟩⟩
   exact (take_succ_map (fun x=>V.int (x % n+1)) hx).symm
  ·rintro ys σ' H'' p ⟨rfl,_,rfl⟩ hp
   refine ⟨p,_,rfl,.inl ⟨SqL.of upd_same,fun r hr=>?_⟩⟩
   have s1:=Same.new (o:=.lst (((ivl 1 (n+1)).take (n+1 - 1).toNat).map (fun x=>V.int (x % n+1)))) hp
   refine k r _ (s1.free hr) ?_ (s1.trans (Same.new hr))
   rw [upd_same,List.take_of_length_le (by rw [ivl_length]; exact Nat.le_refl _),List.map_map]
   rfl
end
end Sw
namespace Sw
open PySem L2
section
variable {P:Program} {w:World} {K:PySem.W.Frag} {mg:Str→Option Value} {base:Heap}
theorem sc__law_led:FnScope ["_law_n", "_law_row", "_law_goals", "_law_thing", "_law_a", "_law_b"] ["_law_n", "_law_row"] (defScope (top 45)):=⟨rfl,rfl,rfl,by decide +kernel,rfl,by decide +kernel,by decide +kernel⟩
theorem ok_lled2 {f:Addr} {fd:FuncData} (F:Fun K "_law_led" "_law_led" (top 45) f fd) (T:T1 mg K) : FnOk P w K mg base CX0 1 f fd ["_law_n", "_law_row"] spLed:=by
 refine F.ok sc__law_led (fun vs H Q E h=>?_) (fun cdv A outer s H vs Q E hr h=>?_)
 ·obtain ⟨n,l,es,row,rfl,_⟩:=h
  rfl
 ·obtain ⟨n,l0,es,row,rfl,hn0,hn1,hl0,hx,hg,k⟩:=h
  have hu:=hu_of hr
  refine ⟨_,(pss_cons (ps_set (i:=2) sc__law_led.nd rfl (Or.inl rfl) (pe_lst pa_nil))
   (pss_cons (ps_for PassesOwn.never rfl (pi_range2 rfl T.b_range (pa_cons pe_int (pa_cons (pe_op op_add (pv 0) pe_int) pa_nil))) (pg_name (i:=3) sc__law_led.nd rfl (Or.inl rfl)) (pss_cons (ps_for PassesOwn.never rfl (pi_listK (K:=K) rfl (pv 1)) (pg_tupK (K:=K) (n:=2) rfl rfl (pgs_cons (pg_name (i:=4) sc__law_led.nd rfl (Or.inl rfl)) (pgs_cons (pg_name (i:=5) sc__law_led.nd rfl (Or.inl rfl)) pgs_nil))) (pss_one (ps_if (pt_cmpR (op_inK (K:=K) rfl) (pv 3) (pe_tup (pa_cons (pv 4) (pa_cons (pv 5) pa_nil))) rfl) (pss_one (ps_set (i:=3) sc__law_led.nd rfl (Or.inl rfl) (pe_op op_sub (pe_op op_add (pv 4) (pv 5)) (pv 3)))) pss_nil)))
   (pss_one (ps_expr (pe_bmK (K:=K) rfl PySem.F.plainAttrs_list PySem.F.slot_list_append PySem.F.type_list_append mt_append (pv 2) (pa_cons (pv 3) pa_nil))))))
   (pss_one (ps_ret (pe_callTy (call_tuple_ofK (K:=K) rfl) rfl T.b_tuple (by decide +kernel) (pa_cons (pv 2) pa_nil)))))),?_⟩
  have two : 2≤sizeLine:=by decide
  refine ⟨Nat.zero_le _,fun l hl=>?_⟩
  refine ⟨_,rfl,_,_,rfl,rfl,1,n+1,rfl,⟨by decide,by decide,by omega,by omega⟩,for_range (fun i σ H'=>∃ (v3 v4 v5:Option V),σ=[some (.int n),some (.ref l0),some (.ref l),v3,v4,v5]∧Same H H'∧H' l=some (.lst (((ivl 1 (n+1)).take i).map fun x=>V.int (go row x))))
   ⟨none,none,none,rfl,Same.new hl,upd_same⟩ ?_ ?_⟩
  ·rintro i σ H' hi ⟨v3,v4,v5,rfl,s1,h1⟩
   refine ⟨_,rfl,l0,rfl,⟨_,SqL.of (s1 _ _ hl0)⟩,for_list (K:=K) (a:=l0) (xs:=es) (fun j σ H''=>∃ (v4 v5:Option V),σ=[some (.int n),some (.ref l0),some (.ref l),some (.int (go (row.take j) (1+i))),v4,v5]∧Same H H''∧H'' l=some (.lst (((ivl 1 (n+1)).take i).map fun x=>V.int (go row x))))
    ⟨v4,v5,rfl,s1,h1⟩ (fun j σ H'' _ ⟨_,_,_,s3,_⟩=>SqL.of (s3 _ _ hl0)) ?_ ?_⟩
   ·rintro j y σ H'' hj ⟨v4,v5,rfl,s3,h3⟩
    obtain ⟨te,a,b,rfl,hte,hrow⟩:=hx.get hj
    have hab:a≠b:=by have:=hg (a,b) (List.mem_of_getElem? hrow); simp only at this; omega
    generalize hy:go (row.take j) (1+(i:Int))=y
    have e1:go (row.take (j+1)) (1+(i:Int))=if y=a∨y=b then a+b - y else y:=by
     rw [go_take hrow,hy]
     unfold swp
     dsimp only
     by_cases h1:y=a
     ·rw [if_pos h1,if_pos (.inl h1)]; omega
     ·rw [if_neg h1]
      by_cases h2:y=b
      ·rw [if_pos h2,if_pos (.inr h2)]; omega
      ·rw [if_neg h2,if_neg (by omega)]
    have e2:(if false=true then !inV (V.int y) [V.int a,V.int b] else inV (V.int y) [V.int a,V.int b])=decide (y=a∨y=b):=by
     rw [if_neg Bool.false_ne_true,Bool.eq_iff_iff]
     simp [inV,eqV]
     omega
    refine ⟨te,_,rfl,SqT.of (s3 _ _ hte),rfl,_,_,rfl,_,_,rfl,rfl,_,rfl,_,rfl,_,rfl,two,fun t ft=>?_⟩
    have s4:Same H'' (upd H'' t (.tup [.int a,.int b])):=Same.new ft
    refine ⟨t,_,rfl,.inr (SqT.of upd_same),rfl,rfl,_,rfl,?_⟩
    have h4:=s4 _ _ h3
    generalize upd H'' t (.tup [.int a,.int b])=H4 at s4 h4 ⊢
    by_cases hc:y=a∨y=b
    ·refine iteP (by rw [e2]; exact decide_eq_true hc) ?_
     refine ⟨_,rfl,_,rfl,_,_,rfl,rfl,_,rfl,_,_,rfl,rfl,?_⟩
     rw [if_pos hc] at e1
     rw [e1]
     exact ⟨_,_,rfl,s3.trans s4,h4⟩
    ·refine iteE (by rw [e2]; exact decide_eq_false hc) ?_
     rw [if_neg hc] at e1
     rw [e1]
     exact ⟨_,_,rfl,s3.trans s4,h4⟩
   ·rintro σ H'' ⟨v4,v5,rfl,s3,h3⟩
    rw [hx.length,List.take_length]
    refine ⟨_,rfl,.inl ⟨rfl,_,SqL.of h3⟩,_,rfl,l,_,_,rfl,rfl,h3,?_,?_⟩
    ·rw [List.length_map,List.length_take,ivl_length]
     have:(1000:Nat)<sizeLine:=by decide
     omega
    ·refine ⟨_,_,_,rfl,fun c o e=>?_,?_⟩
     ·rw [upd_ne (ne_of_none e hl)]; exact s3 c o e
     ·rw [upd_same,take_succ_map (fun x=>V.int (go row x)) (get_ivl hi)]
  ·rintro σ H' ⟨v3,v4,v5,rfl,s1,h1⟩
   have e:(ivl 1 (n+1)).take ((n+1 - 1).toNat)=ivl 1 (n+1):=List.take_of_length_le (by rw [ivl_length]; exact Nat.le_refl _)
   rw [e] at h1
   refine ⟨_,rfl,l,_,rfl,.inl ⟨SqL.of h1,fun t ht=>?_⟩⟩
   refine k t _ (s1.free ht) ?_ (s1.trans (Same.new ht))
   rw [upd_same]
   unfold ledM
   rw [List.map_map]
   rfl
end
end Sw
namespace Sw
open PySem L2
structure TLr6 (mg:Str→Option Value) (K:PySem.W.Frag) : Prop extends T1 mg K where
 b_sorted:mg "sorted" = none
theorem itn_new {n:Int} {xs:List Int} (o:Ord n xs) {x:Int} (h1 : 1≤x) (h2:x≤n) {j:Nat} (hj:j<per xs x) : itn (ld xs) j x∉(List.range j).map fun k=>itn (ld xs) k x:=by
 intro z
 obtain ⟨k,hk,e⟩:=List.mem_map.mp z
 have hk:=List.mem_range.mp hk
 have nd:=orb_nodup o h1 h2
 unfold orb at nd
 have:=List.pairwise_iff_getElem.mp nd k j (by simp; omega) (by simp; omega) hk
 simp at this
 exact this e
section
variable {P:Program} {w:World} {K:PySem.W.Frag} {mg:Str→Option Value} {base:Heap}
theorem sc__law_rounds:FnScope ["_law_order", "_law_found", "_law_met", "_law_thing", "_law_here"] ["_law_order"] (defScope (top 49)):=⟨rfl,rfl,rfl,by decide +kernel,rfl,by decide +kernel,by decide +kernel⟩
theorem ok_lr6 {f:Addr} {fd:FuncData} (F:Fun K "_law_rounds" "_law_rounds" (top 49) f fd) (T:TLr6 mg K) : FnOk P w K mg base CX0 1 f fd ["_law_order"] spShb:=by
 refine F.ok sc__law_rounds (fun vs H Q E h=>?_) (fun cdv A outer s H vs Q E hr h=>?_)
 ·obtain ⟨t,n,xs,rfl,_⟩:=h
  rfl
 ·obtain ⟨t,n,xs,rfl,ht,o,hn,k⟩:=h
  refine ⟨_,(pss_cons (ps_set (i:=1) sc__law_rounds.nd rfl (Or.inl rfl) (pe_lst pa_nil))
   (pss_cons (ps_set (i:=2) sc__law_rounds.nd rfl (Or.inl rfl) (pe_lst pa_nil))
   (pss_cons (ps_for PassesOwn.never rfl (pi_range2 rfl T.b_range (pa_cons pe_int (pa_cons (pe_op op_add (pe_callB (call_lenK (K:=K) rfl) rfl T.b_len (by decide +kernel) (pa_cons (pv 0) pa_nil)) pe_int) pa_nil))) (pg_name (i:=3) sc__law_rounds.nd rfl (Or.inl rfl)) (pss_one (ps_if (pt_cmpR (op_notInK (K:=K) rfl) (pv 3) (pv 2) rfl) (pss_cons (ps_set (i:=4) sc__law_rounds.nd rfl (Or.inl rfl) (pe_lst pa_nil))
   (pss_cons (ps_while PassesOwn.never (pt_cmpR (op_notInK (K:=K) rfl) (pv 3) (pv 4) rfl) (pss_cons (ps_expr (pe_bmK (K:=K) rfl PySem.F.plainAttrs_list PySem.F.slot_list_append PySem.F.type_list_append mt_append (pv 4) (pa_cons (pv 3) pa_nil)))
   (pss_one (ps_set (i:=3) sc__law_rounds.nd rfl (Or.inl rfl) (pe_ix (ix_tupK (K:=K) rfl) (pv 0) (pe_op op_sub (pv 3) pe_int) (fun _ _=>rfl))))))
   (pss_cons (ps_set (i:=2) sc__law_rounds.nd rfl (Or.inl rfl) (pe_op op_cat (pv 2) (pv 4)))
   (pss_one (ps_expr (pe_bmK (K:=K) rfl PySem.F.plainAttrs_list PySem.F.slot_list_append PySem.F.type_list_append mt_append (pv 1) (pa_cons (pe_callB (call_sorted (K:=K) rfl) rfl T.b_sorted (by decide +kernel) (pa_cons (pv 4) pa_nil)) pa_nil))))))) pss_nil)))
   (pss_one (ps_ret (pe_callB (call_sortedR (K:=K) rfl hr.units) rfl T.b_sorted (by decide +kernel) (pa_cons (pv 1) pa_nil))))))),?_⟩
  have ol:=o.length
  have big:(10000000:Nat)≤sizeLine:=by decide
  have sf:=sh_facts o
  refine ⟨Nat.zero_le _,fun lf hlf=>⟨Nat.zero_le _,fun lm hlm=>?_⟩⟩
  have nfm:lf≠lm:=by intro z; subst z; rw [upd_same] at hlm; cases hlm
  have s1:Same H (upd H lf (.lst [])):=Same.new hlf
  have s2:=s1.trans (Same.new (o:=.lst []) hlm)
  refine ⟨_,rfl,t,_,rfl,.inr (SqT.of (s2 _ _ ht)),_,_,rfl,rfl,1,_,rfl,⟨by decide,by decide,by omega,by rw [List.length_map]; omega⟩,?_⟩
  refine for_range (fun i σ H'=>∃ lm ws ms v3 v4,σ=[some (.ref t),some (.ref lf),some (.ref lm),v3,v4]∧Same H H'∧lf≠lm∧H' lf=some (.lst ws)∧H' lm=some (.lst (ms.map V.int))∧Lsts H' ws ((((ivl 1 (n+1)).take i).filter (least xs)).map fun m=>srtA (orb xs m))∧Fresh H ws∧V.ref lf∉ws∧ws.length≤i∧ms.length≤i * 1000∧∀ y,y∈ms↔∃ m∈((ivl 1 (n+1)).take i).filter (least xs),y∈orb xs m)
   ⟨lm,[],[],_,_,rfl,s2,nfm,by rw [upd_ne nfm,upd_same],upd_same,.nil,Fresh.nil,by simp,Nat.le_refl _,Nat.le_refl _,by intro y; simp⟩ ?_ ?_
  ·rintro i σ H' hi ⟨lm,ws,ms,v3,v4,rfl,s3,nfm,hf3,hm3,x3,fr3,nf3,wl,ml,mm⟩
   rw [List.length_map] at hi
   have hi':(i:Int)<n:=by omega
   have ef:((ivl 1 (n+1)).take (i+1))=(ivl 1 (n+1)).take i++[1+(i:Int)]:=by rw [List.take_succ,get_ivl (by omega)]; rfl
   have b1:(1:Int)≤1+i:=by omega
   have b2:(1:Int)+i≤n:=by omega
   have ml2:=met_least o hi'
   refine ⟨_,rfl,_,rfl,lm,_,rfl,.inl (SqL.of hm3),rfl,flat_ints ms,_,rfl,?_⟩
   show if (!inV (.int (1+(i:Int))) (ms.map V.int))=true then _ else _
   rw [inV_int]
   refine ite2 (fun c=>?_) (fun c=>?_)
   ·have c : ¬ (1+(i:Int))∈ms:=by simpa using c
    have hL:least xs (1+i)=true:=ml2.mpr (fun z=>c ((mm _).mpr z))
    refine ⟨Nat.zero_le _,fun la hla=>?_⟩
    have fla:H la=none:=s3.free hla
    have nfa:lf≠la:=ne_of_none hf3 hla
    have nma:lm≠la:=ne_of_none hm3 hla
    have pl:=per_le o b1 b2
    have pp : 1≤per xs (1+(i:Int)):=by unfold per; omega
    refine ⟨fun m σ H2=>∃ j,m=per xs (1+i) - j∧j≤per xs (1+i)∧σ=[some (.ref t),some (.ref lf),some (.ref lm),some (.int (itn (ld xs) j (1+(i:Int)))),some (.ref la)]∧H2=upd H' la (.lst (((List.range j).map fun k=>itn (ld xs) k (1+i)).map V.int)),⟨_,0,rfl,by omega,rfl,rfl⟩,?_⟩
    rintro m σ H2 ⟨j,rfl,j2,rfl,rfl⟩
    have ir:=itn_in o b1 b2 j
    have s4:Same H (upd H' la (.lst (((List.range j).map fun k=>itn (ld xs) k (1+i)).map V.int))):=Same.put s3 fla
    have gt:atI (xs.map V.int) (itn (ld xs) j (1+i) - 1)=some (.int (itn (ld xs) (j+1) (1+i))):=at_int (ns:=xs) (i:=itn (ld xs) j (1+i) - 1) (by omega) (ld_get o ir.1 ir.2)
    refine ⟨_,rfl,_,rfl,la,_,rfl,.inl (SqL.of upd_same),rfl,flat_ints _,_,rfl,?_⟩
    show if (!inV (.int (itn (ld xs) j (1+(i:Int)))) (((List.range j).map fun k=>itn (ld xs) k (1+(i:Int))).map V.int))=true then _ else _
    rw [inV_int]
    refine ite2 (fun c2=>?_) (fun c2=>?_)
    ·have c2:itn (ld xs) j (1+(i:Int))∉(List.range j).map fun k=>itn (ld xs) k (1+(i:Int)):=by simpa using c2
     have lt:j<per xs (1+i):=by
      by_cases e:j=per xs (1+i)
      ·exfalso
       apply c2
       rw [e,per_eq o b1 b2]
       exact List.mem_map.mpr ⟨0,List.mem_range.mpr (by omega),rfl⟩
      ·omega
     refine ⟨fun σ' H2=>σ'=[some (.ref t),some (.ref lf),some (.ref lm),some (.int (itn (ld xs) (j+1) (1+(i:Int)))),some (.ref la)]∧H2=upd H' la (.lst (((List.range (j+1)).map fun k=>itn (ld xs) k (1+i)).map V.int)),fun σ' H2 ⟨e1,e2⟩=>⟨_,(by show per xs (1+i) - (j+1)<_; omega),j+1,rfl,by omega,e1,e2⟩,?_⟩
     refine ⟨_,rfl,.inl ⟨rfl,_,SqL.of upd_same⟩,_,rfl,la,_,_,rfl,rfl,upd_same,by simp; omega,?_⟩
     rw [upd_upd]
     have s5:Same H (upd H' la (.lst (((List.range j).map fun k=>itn (ld xs) k (1+i)).map V.int++[V.int (itn (ld xs) j (1+(i:Int)))]))):=Same.put s3 fla
     refine ⟨_,rfl,_,rfl,_,_,rfl,rfl,t,_,_,_,rfl,rfl,SqT.of (s5 _ _ ht),gt,rfl,?_⟩
     rw [List.range_succ,List.map_append,List.map_append]
     rfl
    ·have e:j=per xs (1+i):=by
      apply Classical.byContradiction
      intro z
      have:=itn_new o b1 b2 (j:=j) (by omega)
      exact c2 (by simpa using this)
     subst e
     have hla4:upd H' la (.lst (((List.range (per xs (1+i))).map fun k=>itn (ld xs) k (1+i)).map V.int)) la=some (.lst ((orb xs (1+i)).map V.int)):=upd_same
     have hf4:upd H' la (.lst (((List.range (per xs (1+i))).map fun k=>itn (ld xs) k (1+i)).map V.int)) lf=some (.lst ws):=by rw [upd_ne nfa]; exact hf3
     have hm4:upd H' la (.lst (((List.range (per xs (1+i))).map fun k=>itn (ld xs) k (1+i)).map V.int)) lm=some (.lst (ms.map V.int)):=by rw [upd_ne nma]; exact hm3
     have x4:=x3.keep (Same.new (o:=.lst (((List.range (per xs (1+i))).map fun k=>itn (ld xs) k (1+i)).map V.int)) hla)
     generalize upd H' la (.lst (((List.range (per xs (1+i))).map fun k=>itn (ld xs) k (1+i)).map V.int))=H4 at s4 hla4 hf4 hm4 x4 ⊢
     have ol2:=orb_length xs (1+i)
     refine ⟨_,rfl,_,rfl,lm,la,_,_,rfl,rfl,hm4,hla4,by rw [List.length_map,List.length_map]; omega,fun l5 f5=>?_⟩
     have s5:Same H4 (upd H4 l5 (.lst (ms.map V.int++(orb xs (1+i)).map V.int))):=Same.new f5
     have g5:upd H4 l5 (.lst (ms.map V.int++(orb xs (1+i)).map V.int)) l5=some (.lst ((ms++orb xs (1+i)).map V.int)):=by rw [upd_same,List.map_append]
     have nf5:lf≠l5:=ne_of_none hf4 f5
     generalize upd H4 l5 (.lst (ms.map V.int++(orb xs (1+i)).map V.int))=H5 at s5 g5 ⊢
     have hf5:=s5 _ _ hf4
     refine ⟨_,rfl,.inl ⟨rfl,_,SqL.of hf5⟩,?_⟩
     refine ⟨_,rfl,la,orb xs (1+i),rfl,SqL.of (s5 _ _ hla4),by omega,fun l6 r6 f6 pm pw=>?_⟩
     have e6:=srtA_is pm pw
     have s6:Same H5 (upd H5 l6 (.lst (r6.map V.int))):=Same.new f6
     have g6:upd H5 l6 (.lst (r6.map V.int)) l6=some (.lst (r6.map V.int)):=upd_same
     have nf6:lf≠l6:=ne_of_none hf5 f6
     have n56:l5≠l6:=ne_of_none g5 f6
     generalize upd H5 l6 (.lst (r6.map V.int))=H6 at s6 g6 ⊢
     have hf6:=s6 _ _ hf5
     have S5:=s4.trans s5
     have S6:=S5.trans s6
     have x6:=(x4.keep s5).keep s6
     refine ⟨lf,_,_,rfl,rfl,hf6,by omega,?_⟩
     refine ⟨l5,ws++[.ref l6],ms++orb xs (1+i),_,_,rfl,Same.put S6 hlf,nf5,upd_same,?_,?_,fr3.snoc (x4.keep s5) f6 (S5.free f6),?_,?_,?_,?_⟩
     ·rw [upd_ne nf5.symm]; exact s6 _ _ g5
     ·rw [ef,List.filter_append,List.map_append,List.filter_cons_of_pos hL]
      refine Lsts.off (x6.snoc (by rw [g6,e6])) ?_
      intro z
      rcases List.mem_append.mp z with z | z
      ·exact nf3 z
      ·exact nf6 (by simpa using z)
     ·intro z
      rcases List.mem_append.mp z with z | z
      ·exact nf3 z
      ·exact nf6 (by simpa using z)
     ·rw [List.length_append,List.length_singleton]; omega
     ·rw [List.length_append]; omega
     ·intro y
      rw [ef,List.filter_append,List.filter_cons_of_pos hL,List.filter_nil,List.mem_append,mm]
      constructor
      ·rintro (⟨m,h1,h2⟩ | h)
       ·exact ⟨m,List.mem_append_left _ h1,h2⟩
       ·exact ⟨1+i,List.mem_append_right _ (List.mem_singleton.mpr rfl),h⟩
      ·rintro ⟨m,h1,h2⟩
       rcases List.mem_append.mp h1 with z | z
       ·exact .inl ⟨m,z,h2⟩
       ·rw [List.mem_singleton.mp z] at h2; exact .inr h2
   ·have c:(1+(i:Int))∈ms:=by simpa using c
    have hL:least xs (1+i)=false:=by
     cases e:least xs (1+(i:Int)) with
     | false=>rfl
     | true=>exact absurd ((mm _).mp c) (ml2.mp e)
    have e2:((ivl 1 (n+1)).take (i+1)).filter (least xs)=((ivl 1 (n+1)).take i).filter (least xs):=by
     rw [ef,List.filter_append,List.filter_cons_of_neg (by rw [hL]; decide),List.filter_nil,List.append_nil]
    refine ⟨lm,ws,ms,_,_,rfl,s3,nfm,hf3,hm3,?_,fr3,nf3,by omega,by omega,?_⟩
    ·rw [e2]; exact x3
    ·rw [e2]; exact mm
  ·rintro σ H' ⟨lm,ws,ms,v3,v4,rfl,s3,nfm,hf3,hm3,x3,fr3,nf3,wl,ml,mm⟩
   have e3:(ivl 1 (n+1)).take (((xs.map V.int).length:Int)+1 - 1).toNat=ivl 1 (n+1):=List.take_of_length_le (by rw [ivl_length,List.length_map]; omega)
   rw [e3] at x3
   have ex:(((ivl 1 (n+1)).filter (least xs)).map fun m=>srtA (orb xs m))=shM n xs:=by unfold shM rndM; rw [List.map_map]; rfl
   rw [ex] at x3
   rw [List.length_map] at wl
   refine ⟨_,rfl,lf,ws,_,rfl,SqL.of hf3,by omega,hds_of x3 sf,fun l2 f2=>?_⟩
   refine k l2 _ ⟨ws,s3.free f2,upd_same,x3.keep (Same.new f2),fr3,fun z=>?_⟩ (s3.trans (Same.new f2))
   obtain ⟨o',e⟩:=x3.mem z
   rw [f2] at e; cases e
end
end Sw
namespace Sw
open PySem L2
theorem eqv_lll : ∀ (r q:List (List (List Int))),PyData.eqvAll (r.map shE) (q.map shE)=decide (r=q)
 | [],[]=>by simp [PyData.eqvAll]
 | [],m :: r=>by simp [PyData.eqvAll]
 | n :: r,[]=>by simp [PyData.eqvAll]
 | n :: r,m :: q=>by
  rw [List.map_cons,List.map_cons]; unfold PyData.eqvAll; rw [eqv_lll r q]
  have e:PyData.eqv (shE n) (shE m)=decide (n=m):=by unfold shE PyData.eqv; exact eqv_ll n m
  rw [e]
  by_cases h1:n=m <;> by_cases h2:r=q <;> simp [h1,h2]
theorem nice_lll (SS:List (List (List Int))) : Nice 5 (.list (SS.map shE)):=(nice_list (k:=3) fun d hd=>by
 obtain ⟨S,_,rfl⟩:=List.mem_map.mp hd
 refine nice_list (k:=2) fun d hd=>?_
 obtain ⟨L,_,rfl⟩:=List.mem_map.mp hd
 exact nice_list (k:=1) (nice_ints L)).mono (by decide)
theorem neLL8 {K:PySem.W.Frag} {H:Hp} {t u:Addr} {vs ws:List V} {SS TT:List (List (List Int))} {Q:VK} (h1:H t=some (.lst vs)) (d1:DTs H (fun _=>True) vs (SS.map shE)) (h2:H u=some (.lst ws)) (d2:DTs H (fun _=>True) ws (TT.map shE)) (q:Q (.bl (!decide (SS=TT))) H) : rNeD K (.ref t) (.ref u) H Q:=by
 refine ⟨fun _=>True,.list (SS.map shE),.list (TT.map shE),(DT.lst h1 True.intro d1).dat,(DT.lst h2 True.intro d2).dat,(nice_lll SS).lay,(nice_lll TT).lay,by have:=(nice_lll SS).dp; omega,?_⟩
 unfold PyData.eqv; rw [eqv_lll]; exact q
theorem eqLL8 {K:PySem.W.Frag} {H:Hp} {t u:Addr} {vs ws:List V} {SS TT:List (List (List Int))} {Q:VK} (h1:H t=some (.lst vs)) (d1:DTs H (fun _=>True) vs (SS.map shE)) (h2:H u=some (.lst ws)) (d2:DTs H (fun _=>True) ws (TT.map shE)) (q:Q (.bl (decide (SS=TT))) H) : rEqD K (.ref t) (.ref u) H Q:=by
 refine ⟨fun _=>True,.list (SS.map shE),.list (TT.map shE),(DT.lst h1 True.intro d1).dat,(DT.lst h2 True.intro d2).dat,(nice_lll SS).lay,(nice_lll TT).lay,by have:=(nice_lll SS).dp; omega,?_⟩
 unfold PyData.eqv; rw [eqv_lll]; exact q
theorem eqT8 {K:PySem.W.Frag} {H:Hp} {t u:Addr} {ns ms:List Int} {Q:VK} (h1:H t=some (.tup (ns.map V.int))) (h2:H u=some (.tup (ms.map V.int))) (q:Q (.bl (decide (ns=ms))) H) : rEqD K (.ref t) (.ref u) H Q:=by
 refine ⟨fun _=>True,.tuple (ns.map PyData.int),.tuple (ms.map PyData.int),.tup (SqT.of h1) True.intro (ints_dat ns),.tup (SqT.of h2) True.intro (ints_dat ms),?_,?_,?_,?_⟩
 ·unfold PyData.canLay0; exact lay_ints ns
 ·unfold PyData.canLay0; exact lay_ints ms
 ·unfold PyData.depth; rw [depth_ints]; decide
 ·unfold PyData.eqv; rw [eqv_ints]; exact q
theorem Exs.app8 {H:Hp} : ∀ {vs us:List V} {r q:List (Int × Int)},Exs H vs r→Exs H us q→Exs H (vs++us) (r++q)
 | _,_,_,_,.nil,y=>y
 | _,_,_,_,.cons g x,y=>.cons g (x.app8 y)
theorem Exs.dropB8 {H:Hp} : ∀ {vs:List V} {r:List (Int × Int)} (k:Nat),Exs H vs r→Exs H (vs.drop k) (r.drop k)
 | _,_,_,.nil=>by rw [List.drop_nil,List.drop_nil]; exact .nil
 | _,_,0,.cons h x=>.cons h x
 | _,_,k+1,.cons h x=>x.dropB8 k
theorem begM_len8 (R:List (Int × Int)) : (begM R).length=R.length+1:=by unfold begM; rw [List.length_map,List.length_range]
theorem begM_at8 {R:List (Int × Int)} {i:Nat} {S:List (List Int)} (h:(begM R)[i]?=some S) : i≤R.length∧S=shM ((R.length:Int)+1) (ledM ((R.length:Int)+1) (R.take i)):=by
 have hi:=(List.getElem?_eq_some_iff.mp h).1
 rw [begM_len8] at hi
 unfold begM at h
 rw [List.getElem?_map,List.getElem?_range hi] at h
 exact ⟨by omega,(Option.some.inj h).symm⟩
theorem beg_gsd {R:List (Int × Int)} (hg:Good ((R.length:Int)+1) R) (gr:ledM ((R.length:Int)+1) R=grM ((R.length:Int)+1)) {S:List (List Int)} (h:S∈begM R) : Gs8 ((R.length:Int)+1) S:=by
 obtain ⟨i,hi⟩:=List.getElem?_of_mem h
 obtain ⟨il,rfl⟩:=begM_at8 hi
 have hg':Good ((R.length:Int)+1) (R.take i):=fun e he=>hg e (List.mem_of_mem_take he)
 have o:=ord_led hg'
 exact ⟨⟨(sh_facts o).ne,(sh_facts o).cov⟩,shg_lex (sh_facts o)⟩
theorem not12 : ¬ ledM ((([(1,2),(1,2)] : List (Int × Int)).length:Int)+1) [(1,2),(1,2)]=grM ((([(1,2),(1,2)] : List (Int × Int)).length:Int)+1):=by decide
structure TL (P:Program) (w:World) (K:PySem.W.Frag) (mg:Str→Option Value) (base:Heap) : Prop extends T1 mg K where
 b_min:mg "min" = none
 b_max:mg "max" = none
 f__law_number:FnAt P w K mg base "_law_number" 2 ["_law_script", "_law_k"] (spNum K)
 f__law_size:FnAt P w K mg base "_law_size" 1 ["_law_number_here"] spSize
 f__law_tree:FnAt P w K mg base "_law_tree" 1 ["_law_number_here", "_law_many"] spTreeG
 f__law_led:FnAt P w K mg base "_law_led" 1 ["_law_n", "_law_row"] spLed
 f__law_great:FnAt P w K mg base "_law_great" 1 ["_law_n"] spGreat
 f__law_rounds:FnAt P w K mg base "_law_rounds" 1 ["_law_order"] spShb
 f__law_row_by:FnAt P w K mg base "_law_row_by" 1 ["_law_elders"] spRowBy
 f__law_spoilt:FnAt P w K mg base "_law_spoilt" 2 ["_law_chain", "_law_n", "_law_number_here"] spSp8
 f__law_is_chain:FnAt P w K mg base "_law_is_chain" 3 ["_law_chain", "_law_n"] spLic
 f__law_asked:FnAt P w K mg base "_law_asked" 8 ["_law_way", "_law_thing"] spAq8
section
variable {P:Program} {w:World} {K:PySem.W.Frag} {mg:Str→Option Value} {base:Heap} {C:Addr}
theorem sc_law:FnScope ["_law_script", "_law_k", "_law_number_here", "_law_n", "_law_row", "_law_chain", "_law_spoilt_here", "_law_due", "_law_at", "_law_a", "_law_pair", "_law_bent"] ["_law_script"] (defScope (top 57)):=⟨rfl,rfl,rfl,by decide +kernel,rfl,by decide +kernel,by decide +kernel⟩
theorem ok_law {f:Addr} {fd:FuncData} (F:Fun K "law" "law" (top 57) f fd) (T:TL P w K mg base) : FnOk P w K mg base CX0 9 f fd ["_law_script"] (spLaw K):=by
 refine F.ok sc_law (fun vs H Q E h=>?_) (fun cdv A outer s H vs Q E hr h=>?_)
 ·obtain ⟨a,ns,rfl,_⟩:=h
  rfl
 ·obtain ⟨a,ns,rfl,hS,hlen,k⟩:=h
  refine ⟨_,(pss_cons (ps_for PassesOwn.never rfl (pi_range1 rfl T.b_range (pa_cons (pe_callB (call_max2 rfl) rfl T.b_max (by decide +kernel) (pa_cons pe_int (pa_cons (pe_callB (call_min2 rfl) rfl T.b_min (by decide +kernel) (pa_cons (pe_callB (call_lenK (K:=K) rfl) rfl T.b_len (by decide +kernel) (pa_cons (pv 0) pa_nil)) (pa_cons pe_int pa_nil))) pa_nil))) pa_nil)) (pg_name (i:=1) sc_law.nd rfl (Or.inl rfl)) (pss_cons (ps_set (i:=2) sc_law.nd rfl (Or.inl rfl) (pe_callF T.f__law_number (hr.mono (by first | decide | omega)) rfl (pa_cons (pv 0) (pa_cons (pv 1) pa_nil))))
   (pss_cons (ps_set (i:=3) sc_law.nd rfl (Or.inr rfl) (pe_callF T.f__law_size (hr.mono (by first | decide | omega)) rfl (pa_cons (pv 2) pa_nil)))
   (pss_cons (ps_set (i:=4) sc_law.nd rfl (Or.inr rfl) (pe_callF T.f__law_row_by (hr.mono (by first | decide | omega)) rfl (pa_cons (pe_callF T.f__law_tree (hr.mono (by first | decide | omega)) rfl (pa_cons (pe_op op_fdivL (pe_op op_fdivL (pv 2) pe_int) (pe_op op_pow pe_int pe_int)) (pa_cons (pe_op op_sub (pv 3) pe_int) pa_nil))) pa_nil)))
   (pss_cons (ps_comp (i:=5) sc_law.nd rfl rfl (N:=(["_law_many", "_law_n", "_law_row"] : List Str)) (ix:=([none,some 3,some 4] : List (Option Nat))) (comp_ok rfl rfl) rfl (pi_range1 rfl T.b_range (pa_cons (pv 3) pa_nil)) (fun _ _ _ _=>(pg_name (i:=0) (show List.Nodup (["_law_many", "_law_n", "_law_row"] : List Str) from by decide +kernel) rfl (Or.inl rfl))) (fun _ _ _ _=>pif_nil) (fun _ _ _ _=>(pe_callF T.f__law_rounds (hr.mono (by first | decide | omega)) rfl (pa_cons (pe_callF T.f__law_led (hr.mono (by first | decide | omega)) rfl (pa_cons (pv 1) (pa_cons (pe_slice (sl_listK (K:=K) rfl) (pv 2) po_none (po_some (pv 0))) pa_nil))) pa_nil))))
   (pss_cons (ps_set (i:=6) sc_law.nd rfl (Or.inl rfl) (pe_callF T.f__law_spoilt (hr.mono (by first | decide | omega)) rfl (@pa_cons _ _ _ _ _ (pv 5) (@pa_cons _ _ _ _ _ (pv 3) (@pa_cons _ _ _ _ _ (pe_op op_mod (pe_op op_fdivL (pv 2) pe_int) (pe_op op_pow pe_int pe_int)) pa_nil st_bin) st_name) st_name)))
   (pss_cons (ps_set (i:=7) sc_law.nd rfl (Or.inl rfl) (pe_ifExp (PW.pt (pw_and (pt_cmpR (op_neD hr.units) (pv 6) (pe_lst pa_nil) (nomark _)) (pw_and1 (pt_val (pe_callF T.f__law_is_chain (hr.mono (by first | decide | omega)) rfl (pa_cons (pv 6) (pa_cons (pv 3) pa_nil))))))) pe_str pe_str))
   (pss_cons (ps_if (pt_cmpR (op_eqD hr.units) (pv 6) (pe_lst (pa_cons (pe_lst (pa_cons (pe_lst (pa_cons pe_int pa_nil)) pa_nil)) pa_nil)) (nomark _)) (pss_one (ps_set (i:=7) sc_law.nd rfl (Or.inl rfl) pe_str)) pss_nil)
   (pss_cons (ps_if (pt_cmpR op_ne (pe_callF T.f__law_asked (hr.mono (by first | decide | omega)) rfl (pa_cons pe_int (pa_cons (pv 6) pa_nil))) (pv 7) (nomark _)) (pss_one (ps_ret pe_bl)) pss_nil)
   (pss_one (ps_if (pt_cmpR op_gt (pv 3) pe_int (nomark _)) (pss_cons (ps_set (i:=8) sc_law.nd rfl (Or.inl rfl) (pe_op op_mod (pe_op op_fdivL (pv 2) pe_int) (pe_op op_sub (pv 3) pe_int)))
   (pss_cons (ps_set (i:=9) sc_law.nd rfl (Or.inl rfl) (pe_op op_add pe_int (pe_op op_mod (pe_op op_fdivL (pv 2) pe_int) pe_int)))
   (pss_cons (ps_set (i:=10) sc_law.nd rfl (Or.inl rfl) (pe_tup (pa_cons (pe_callB (call_min2 rfl) rfl T.b_min (by decide +kernel) (pa_cons (pv 9) (pa_cons (pe_op op_add (pe_op op_mod (pv 9) pe_int) pe_int) pa_nil))) (pa_cons (pe_callB (call_max2 rfl) rfl T.b_max (by decide +kernel) (pa_cons (pv 9) (pa_cons (pe_op op_add (pe_op op_mod (pv 9) pe_int) pe_int) pa_nil))) pa_nil))))
   (pss_cons (ps_set (i:=11) sc_law.nd rfl (Or.inl rfl) (pe_op op_cat (pe_op op_cat (pe_slice (sl_listK (K:=K) rfl) (pv 4) po_none (po_some (pv 8))) (pe_lst (pa_cons (pv 10) pa_nil))) (pe_slice (sl_listK (K:=K) rfl) (pv 4) (po_some (pe_op op_add (pv 8) pe_int)) po_none)))
   (pss_cons (ps_set (i:=7) sc_law.nd rfl (Or.inl rfl) (pe_ifExp (PW.pt (pw_and (pt_cmpR op_le (pe_ix (ix_tupK (K:=K) rfl) (pv 10) pe_int (fun _ _=>rfl)) (pv 3) (nomark _)) (pw_and1 (pt_cmpR (op_eqD hr.units) (pe_callF T.f__law_led (hr.mono (by first | decide | omega)) rfl (pa_cons (pv 3) (pa_cons (pv 11) pa_nil))) (pe_callF T.f__law_great (hr.mono (by first | decide | omega)) rfl (pa_cons (pv 3) pa_nil)) (nomark _))))) pe_str pe_str))
   (pss_one (ps_if (pt_cmpR op_ne (pe_callF T.f__law_asked (hr.mono (by first | decide | omega)) rfl (pa_cons pe_int (pa_cons (pv 11) pa_nil))) (pv 7) (nomark _)) (pss_one (ps_ret pe_bl)) pss_nil))))))) pss_nil)))))))))))
   (pss_one (ps_ret (pe_and (pe_cmpR op_eq (pe_callF T.f__law_asked (hr.mono (by first | decide | omega)) rfl (pa_cons pe_int (pa_cons (pe_lst pa_nil) pa_nil))) pe_str (nomark _)) (pe_one (pe_cmpR op_eq (pe_callF T.f__law_asked (hr.mono (by first | decide | omega)) rfl (pa_cons pe_int (pa_cons (pe_lst (pa_cons (pe_tup (pa_cons pe_int (pa_cons pe_int pa_nil))) (pa_cons (pe_tup (pa_cons pe_int (pa_cons pe_int pa_nil))) pa_nil))) pa_nil))) pe_str (nomark _))))))),?_⟩
  have big:(10000000:Nat)≤sizeLine:=by decide
  have two : 2≤sizeLine:=by decide
  have one : 1≤sizeLine:=by decide
  refine ⟨_,rfl,a,_,rfl,.inl hS,_,_,rfl,_,_,rfl,_,rfl,?b1,?b2,?_⟩
  case b1=>rw [List.length_map]; split <;> (try split) <;> omega
  case b2=>rw [List.length_map]; split <;> (try split) <;> omega
  refine for_range (fun i σ H'=>(∃ v1 v2 v3 v4 v5 v6 v7 v8 v9 v10 v11,σ=[some (.ref a),v1,v2,v3,v4,v5,v6,v7,v8,v9,v10,v11])∧Same H H'∧i≤100) ⟨⟨_,_,_,_,_,_,_,_,_,_,_,rfl⟩,Same.refl _,by decide⟩ ?_ ?_
  ·rintro i σ H0 hi ⟨⟨v1,v2,v3,v4,v5,v6,v7,v8,v9,v10,v11,rfl⟩,s0,_⟩
   have hi:i<13:=by
    have:((if (if (12:Int)<((ns.map V.int).length:Int) then (12:Int) else ((ns.map V.int).length:Int)) > 1 then (if (12:Int)<((ns.map V.int).length:Int) then (12:Int) else ((ns.map V.int).length:Int)) else 1)).toNat≤12:=by split <;> (try split) <;> omega
    exact Nat.lt_succ_of_le (Nat.le_trans (Nat.le_of_lt hi) (Nat.le_trans this (by decide)))
   have p16:(0:Int)<10 ^ Int.toNat 16:=by decide
   refine ⟨_,rfl,_,rfl,a,ns,_,rfl,s0.seq hS,by omega,by omega,fun z z0=>?_⟩
   refine ⟨_,rfl,z,rfl,z0,fun n H1 n1 n12 s1=>?_⟩
   have zz : 0≤z / 16 / 10 ^ Int.toNat 16:=Int.ediv_nonneg (Int.ediv_nonneg z0 (by decide)) (by decide)
   refine ⟨_,rfl,_,_,rfl,rfl,⟨by decide,by decide⟩,_,_,rfl,rfl,⟨by decide,by decide,by decide⟩,_,_,rfl,rfl,⟨by decide,by decide⟩,_,rfl,_,_,rfl,rfl,_,_,rfl,zz,by omega,by omega,fun lt es H2 flt hlt ht s2=>?_⟩
   have el:es.length=(n - 1).toNat:=ht.len
   have ht':TreeM es.length es:=by rw [show (es.length:Int)=n - 1 by omega]; exact ht
   refine ⟨lt,es,rfl,hlt,ht',by omega,fun lr ws H3 flr hlr xr s3=>?_⟩
   have tied:=rowM_tied ht'
   have led:=rowM_led ht'
   have good:=tied.good
   have rl:=tied.len
   have wl:=xr.length
   generalize rowM es=R at tied led good rl wl xr
   have good':Good ((R.length:Int)+1) R:=by rw [rl]; exact good
   have led':ledM ((R.length:Int)+1) R=grM ((R.length:Int)+1):=by rw [rl]; exact led
   have en:n=(R.length:Int)+1:=by omega
   have A3:Same H H3:=s0.trans (s1.trans (s2.trans s3))
   clear tied led good ht ht' hlt flt
   subst en
   have bl:=begM_len8 R
   refine ⟨_,rfl,_,rfl,by omega,by omega,compR (k:=0) (fun i ys σ' H'=>(∃ as uss,ys=as.map V.ref∧Shs H' as uss ((begM R).take i))∧(∃ v,σ'=[v,some (.int ((R.length:Int)+1)),some (.ref lr)])∧Same H3 H') (by omega) ⟨⟨[],[],rfl,Shs.nil⟩,⟨none,rfl⟩,Same.refl _⟩ (fun i ys σ' H' z=>by obtain ⟨⟨as,uss,e,x⟩,_⟩:=z; have:=x.1; rw [e,List.length_map,this,List.length_take]; omega) ?_ ?_⟩
   ·rintro i ys σ' H4 RR hi ⟨⟨as,uss,rfl,x4⟩,⟨v,rfl⟩,s4⟩ done
    have hl4:=s4 _ _ hlr
    have hi':i<R.length+1:=by omega
    have ci:cutV ws none (some (0+(i:Int)))=ws.take i:=by rw [cutT9 (by omega) (by omega),show (0+(i:Int)).toNat=i by omega]
    refine ⟨_,rfl,_,rfl,?_⟩
    dsimp only [tNoPart]
    refine ⟨_,rfl,_,rfl,lr,ws,rfl,SqL.of hl4,fun l3 f3=>?_⟩
    have s5:Same H4 (upd H4 l3 (.lst (cutV ws none (some (0+(i:Int)))))):=Same.new f3
    have g5:upd H4 l3 (.lst (cutV ws none (some (0+(i:Int))))) l3=some (.lst (ws.take i)):=by rw [upd_same,ci]
    generalize upd H4 l3 (.lst (cutV ws none (some (0+(i:Int)))))=H5 at s5 g5 ⊢
    have x5:Exs H5 (ws.take i) (R.take i):=(xr.keep (Same.tups (s4.trans s5))).takeB i
    have hg':Good ((R.length:Int)+1) (R.take i):=fun e he=>good' e (List.mem_of_mem_take he)
    refine ⟨_,l3,_,_,rfl,by omega,by omega,g5,x5,hg',fun t H6 ft ht s6=>?_⟩
    refine ⟨t,(R.length:Int)+1,_,rfl,ht,ord_led hg',by omega,fun q H7 sq s7=>?_⟩
    obtain ⟨us,fq,hq,xq,frq,nq⟩:=sq
    have a7:=s5.trans (s6.trans s7)
    have ht2:(begM R)[i]?=some (shM ((R.length:Int)+1) (ledM ((R.length:Int)+1) (R.take i))):=by unfold begM; rw [List.getElem?_map,List.getElem?_range hi']; rfl
    refine done _ _ _ ⟨⟨as++[q],uss++[us],by rw [List.map_append]; rfl,?_⟩,⟨_,rfl⟩,s4.trans a7⟩
    rw [take_snoc ht2]
    exact (x4.keep a7).snoc hq xq
   rintro ys σ' H4 ld ⟨⟨ad,ud,rfl,xd⟩,_,s4⟩ fd
   rw [List.take_of_length_le (by omega)] at xd
   have s5:Same H4 (upd H4 ld (.lst (ad.map V.ref))):=Same.new fd
   have hld:upd H4 ld (.lst (ad.map V.ref)) ld=some (.lst (ad.map V.ref)):=upd_same
   replace xd:=xd.keep s5
   generalize upd H4 ld (.lst (ad.map V.ref))=H5 at s5 hld xd ⊢
   have A5:=A3.trans (s4.trans s5)
   have hlr5:=s5 _ _ (s4 _ _ hlr)
   have xr5:=xr.keep (Same.tups (s4.trans s5))
   have gs : ∀ S∈begM R,Gs8 ((R.length:Int)+1) S:=fun S hS=>beg_gsd good' led' hS
   have zp : 0≤z / 16 % 10 ^ Int.toNat 16:=Int.emod_nonneg _ (by decide)
   -- the spoilt chain
   refine ⟨_,rfl,_,rfl,_,rfl,_,_,rfl,rfl,⟨by decide,by decide⟩,_,_,rfl,rfl,⟨by decide,by decide,by decide⟩,_,_,rfl,rfl,p16,ld,ad,ud,begM R,_,_,rfl,hld,xd,gs,by rw [bl]; rfl,by omega,by omega,zp,fun q as uss SS H6 hq xq sp s6=>?_⟩
   have A6:=A5.trans s6
   have hlr6:=s6 _ _ hlr5
   have xr6:=xr5.keep (Same.tups s6)
   generalize hn:(R.length:Int)+1=n at *
   have nm0:=Int.emod_nonneg n (show (12:Int)≠0 by decide)
   have nm1:=Int.emod_lt_of_pos n (show (0:Int)<12 by decide)
   have fw:=sp.few
   have cvs : ∀ S∈SS,∃ m:Int,1≤m∧m≤12∧Cov m S:=fun S hS=>by
    rcases sp.each S hS with g | g
    ·exact ⟨n,by omega,by omega,g.cv⟩
    ·exact ⟨n % 12+1,by omega,by omega,g.cv⟩
   have few:FewS SS:=⟨by omega,fun S hS=>by
    obtain ⟨m,m1,m12,c⟩:=cvs S hS
    have sz:=c.sizes (by omega)
    exact ⟨by have:=sz.1; omega,fun L hL=>by have:=sz.2 L hL; omega⟩⟩
   have key:=lc_iff (n:=n) (by omega) (by omega) sp.each sp.most
   have dq:DTs H6 (fun _=>True) (as.map V.ref) (SS.map shE):=xq.dts8 fun _ _ _=>True.intro
   refine gNJ ?_
   dsimp only
   -- what is due
   refine seq_byJ (t:=tAsg _ _) (fun σ' H'=>∃ u:Str,σ'=[some (.ref a),some (.int (0+(i:Int))),some (.int z),some (.int n),some (.ref lr),some (.ref ld),some (.ref q),some (.str u),v8,v9,v10,v11]∧Same H6 H'∧(u = "told" ∧ LcP n SS∨u = "NoChain" ∧ ¬ LcP n SS)) (fun D' hD=>?_) ?_
   ·refine ⟨_,rfl,Nat.zero_le _,fun r0 fr0=>?_⟩
    have s7:Same H6 (upd H6 r0 (.lst [])):=Same.new fr0
    have h7:upd H6 r0 (.lst []) r0=some (.lst []):=upd_same
    generalize upd H6 r0 (.lst [])=H7 at s7 h7 ⊢
    refine neLL8 (TT:=[]) (s7 _ _ hq) (DTs.same dq s7) h7 .nil ⟨_,rfl,?_⟩
    by_cases em:SS=[]
    ·refine iteE (by rw [decide_eq_true em]; rfl) (iteF ?_)
     exact hD _ _ ⟨_,rfl,s7,.inr ⟨rfl,fun c=>by have:=c.len; rw [em] at this; have:(([] : List (List (List Int))).length:Int)=0:=rfl; omega⟩⟩
    ·refine iteP (by rw [decide_eq_false em]; rfl) ?_
     refine ⟨_,rfl,_,rfl,q,as,uss,SS,n,rfl,s7 _ _ hq,xq.keep s7,cvs,by omega,by omega,by omega,fun b H8 hb s8=>⟨_,rfl,?_⟩⟩
     cases b with
     | true=>exact iteT (hD _ _ ⟨_,rfl,s7.trans s8,.inl ⟨rfl,hb.mp rfl⟩⟩)
     | false=>exact iteF (hD _ _ ⟨_,rfl,s7.trans s8,.inr ⟨rfl,fun c=>absurd (hb.mpr c) Bool.false_ne_true⟩⟩)
   rintro σ H7 ⟨u,rfl,s7,hu⟩
   refine seq_byJ (t:=tIfS _ _ _) (fun σ' H'=>∃ u:Str,σ'=[some (.ref a),some (.int (0+(i:Int))),some (.int z),some (.int n),some (.ref lr),some (.ref ld),some (.ref q),some (.str u),v8,v9,v10,v11]∧Same H7 H'∧(u = "told" ∧ ChG SS∨u = "NoChain" ∧ ¬ ChG SS)) (fun D' hD=>?_) ?_
   ·refine ⟨_,rfl,one,fun r1 f1=>?_⟩
    have z1:Same H7 (upd H7 r1 (.lst [.int 1])):=Same.new f1
    have h1:upd H7 r1 (.lst [.int 1]) r1=some (.lst ([(1:Int)].map V.int)):=upd_same
    generalize upd H7 r1 (.lst [.int 1])=G1 at z1 h1 ⊢
    refine ⟨one,fun r2 f2=>?_⟩
    have z2:Same G1 (upd G1 r2 (.lst [.ref r1])):=Same.new f2
    have h2:upd G1 r2 (.lst [.ref r1]) r2=some (.lst [.ref r1]):=upd_same
    generalize upd G1 r2 (.lst [.ref r1])=G2 at z2 h2 ⊢
    refine ⟨one,fun r3 f3=>?_⟩
    have z3:Same G2 (upd G2 r3 (.lst [.ref r2])):=Same.new f3
    have h3:upd G2 r3 (.lst [.ref r2]) r3=some (.lst [.ref r2]):=upd_same
    generalize upd G2 r3 (.lst [.ref r2])=G3 at z3 h3 ⊢
    have z13:=z1.trans (z2.trans z3)
    have dT:DTs G3 (fun _=>True) [.ref r2] ([[[(1:Int)]]].map shE):=.cons (.lst (z3 _ _ h2) True.intro (.cons (.lst (z3 _ _ (z2 _ _ h1)) True.intro (DTs.ints [1])) .nil)) .nil
    refine eqLL8 (TT:=[[[1]]]) (z13 _ _ (s7 _ _ hq)) (DTs.same dq (s7.trans z13)) h3 dT ⟨_,rfl,?_⟩
    by_cases e1:SS=[[[1]]]
    ·refine iteP (decide_eq_true e1) ?_
     exact hD _ _ ⟨_,rfl,z13,.inl ⟨rfl,key.mpr (.inr e1)⟩⟩
    ·refine iteE (decide_eq_false e1) ?_
     refine hD _ _ ⟨u,rfl,z13,?_⟩
     rcases hu with ⟨e,c⟩ | ⟨e,c⟩
     ·exact .inl ⟨e,key.mpr (.inl c)⟩
     ·exact .inr ⟨e,fun z=>(key.mp z).elim c e1⟩
   clear hu u
   rintro σ H8 ⟨u,rfl,s8,hu⟩
   have s78:=s7.trans s8
   refine ⟨_,rfl,.inr ⟨q,as,uss,SS,rfl,s78 _ _ hq,xq.keep s78,few,cvs,fun t H9 s9 htt=>?_⟩⟩
   have ett:t=u:=by
    rcases htt with ⟨e,c⟩ | ⟨e,c⟩ <;> rcases hu with ⟨e',c'⟩ | ⟨e',c'⟩
    ·rw [e,e']
    ·exact absurd c c'
    ·exact absurd c' c
    ·rw [e,e']
   refine ⟨_,rfl,rfl,_,rfl,iteE (by rw [decide_eq_true (congrArg V.str ett)]; rfl) ?_⟩
   have A9:=A6.trans (s78.trans s9)
   have hlr9:=(s78.trans s9) _ _ hlr6
   have xr9:=xr6.keep (Same.tups (s78.trans s9))
   -- the bent row
   refine ⟨_,rfl,_,_,rfl,rfl,_,rfl,ite2 (fun cn=>?_) (fun cn=>⟨⟨_,_,_,_,_,_,_,_,_,_,_,rfl⟩,A9,by omega⟩)⟩
   have cn : 1<n:=of_decide_eq_true cn
   obtain ⟨at',hat⟩ : ∃ x:Int,z / 16 % (n - 1)=x:=⟨_,rfl⟩
   have a0 : 0≤at':=by rw [← hat]; exact Int.emod_nonneg _ (by omega)
   have a1:at'<n - 1:=by rw [← hat]; exact Int.emod_lt_of_pos _ (by omega)
   refine ⟨_,rfl,_,_,rfl,rfl,⟨by decide,by decide⟩,_,rfl,_,_,rfl,rfl,_,_,rfl,rfl,by omega,?_⟩
   refine gNJ ?_
   dsimp only
   rw [hat]
   obtain ⟨aa,haa⟩ : ∃ x:Int,1+z / 192 % 12=x:=⟨_,rfl⟩
   have aa1 : 1≤aa∧aa≤12:=by
    have:=Int.emod_nonneg (z / 192) (show (12:Int)≠0 by decide)
    have:=Int.emod_lt_of_pos (z / 192) (show (0:Int)<12 by decide)
    omega
   refine ⟨_,rfl,_,_,rfl,rfl,⟨by decide,by decide⟩,_,_,rfl,rfl,(show (0:Int)<12 by decide),_,_,rfl,rfl,?_⟩
   refine gNJ ?_
   dsimp only
   rw [haa]
   refine ⟨_,rfl,_,rfl,_,_,rfl,rfl,(show (0:Int)<12 by decide),_,_,rfl,rfl,_,_,rfl,_,rfl,_,rfl,_,_,rfl,rfl,(show (0:Int)<12 by decide),_,_,rfl,rfl,_,_,rfl,two,fun tp ftp=>?_⟩
   obtain ⟨mn,hmn⟩ : ∃ x:Int,(if aa % 12+1<aa then aa % 12+1 else aa)=x:=⟨_,rfl⟩
   obtain ⟨mx,hmx⟩ : ∃ x:Int,(if aa % 12+1 > aa then aa % 12+1 else aa)=x:=⟨_,rfl⟩
   have mm : 1≤mn∧mn<mx:=by
    have:aa % 12+1=aa+1∨(aa=12∧aa % 12+1=1):=by omega
    rcases this with e | ⟨e,e2⟩
    ·rw [e,if_neg (by omega)] at hmn
     rw [e,if_pos (by omega)] at hmx
     omega
    ·rw [e2,if_pos (by omega)] at hmn
     rw [e2,if_neg (by omega)] at hmx
     omega
   rw [hmn,hmx]
   have z10:Same H9 (upd H9 tp (.tup [.int mn,.int mx])):=Same.new ftp
   have htp:upd H9 tp (.tup [.int mn,.int mx]) tp=some (.tup [.int mn,.int mx]):=upd_same
   generalize upd H9 tp (.tup [.int mn,.int mx])=H10 at z10 htp ⊢
   have hlr10:=z10 _ _ hlr9
   have xr10:=xr9.keep (Same.tups z10)
   refine ⟨_,rfl,_,rfl,at',rfl,lr,ws,rfl,SqL.of hlr10,fun q1 e1=>?_⟩
   rw [cutT9 a0 (by omega)]
   have z11:Same H10 (upd H10 q1 (.lst (ws.take at'.toNat))):=Same.new e1
   have h11:upd H10 q1 (.lst (ws.take at'.toNat)) q1=some (.lst (ws.take at'.toNat)):=upd_same
   generalize upd H10 q1 (.lst (ws.take at'.toNat))=G1 at z11 h11 ⊢
   refine ⟨_,rfl,one,fun q2 e2=>?_⟩
   have z12:Same G1 (upd G1 q2 (.lst [.ref tp])):=Same.new e2
   have h12:upd G1 q2 (.lst [.ref tp]) q2=some (.lst [.ref tp]):=upd_same
   generalize upd G1 q2 (.lst [.ref tp])=G2 at z12 h12 ⊢
   refine ⟨q1,q2,_,_,rfl,rfl,z12 _ _ h11,h12,by rw [List.length_take]; show _+1≤_; omega,fun q3 e3=>?_⟩
   have z13:Same G2 (upd G2 q3 (.lst (ws.take at'.toNat++[.ref tp]))):=Same.new e3
   have h13:upd G2 q3 (.lst (ws.take at'.toNat++[.ref tp])) q3=some (.lst (ws.take at'.toNat++[.ref tp])):=upd_same
   generalize upd G2 q3 (.lst (ws.take at'.toNat++[.ref tp]))=G3 at z13 h13 ⊢
   have y13:=z11.trans (z12.trans z13)
   refine ⟨_,rfl,_,rfl,_,_,rfl,rfl,_,rfl,?_⟩
   try unfold tNoPart
   refine ⟨lr,ws,rfl,SqL.of (y13 _ _ hlr10),fun q4 e4=>?_⟩
   rw [cutDg (by omega)]
   have z14:Same G3 (upd G3 q4 (.lst (ws.drop (at'+1).toNat))):=Same.new e4
   have h14:upd G3 q4 (.lst (ws.drop (at'+1).toNat)) q4=some (.lst (ws.drop (at'+1).toNat)):=upd_same
   generalize upd G3 q4 (.lst (ws.drop (at'+1).toNat))=G4 at z14 h14 ⊢
   refine ⟨q3,q4,_,_,rfl,rfl,z14 _ _ h13,h14,by rw [List.length_append,List.length_take,List.length_drop]; show _+1+_≤_; omega,fun lb flb=>?_⟩
   have z15:Same G4 (upd G4 lb (.lst (ws.take at'.toNat++[.ref tp]++ws.drop (at'+1).toNat))):=Same.new flb
   have h15:upd G4 lb (.lst (ws.take at'.toNat++[.ref tp]++ws.drop (at'+1).toNat)) lb=some (.lst (ws.take at'.toNat++[.ref tp]++ws.drop (at'+1).toNat)):=upd_same
   generalize upd G4 lb (.lst (ws.take at'.toNat++[.ref tp]++ws.drop (at'+1).toNat))=H11 at z15 h15 ⊢
   have y15:=y13.trans (z14.trans z15)
   have xb:Exs H11 (ws.take at'.toNat++[.ref tp]++ws.drop (at'+1).toNat) (R.take at'.toNat++[(mn,mx)]++R.drop (at'+1).toNat):=(((xr10.keep (Same.tups y15)).takeB _).app8 (.cons (y15 _ _ htp) .nil)).app8 ((xr10.keep (Same.tups y15)).dropB8 _)
   have bl8:(R.take at'.toNat++[(mn,mx)]++R.drop (at'+1).toNat).length=R.length:=by
    rw [List.length_append,List.length_append,List.length_take,List.length_drop]
    show _+1+_=_
    omega
   have bmem : ∀ e∈R.take at'.toNat++[(mn,mx)]++R.drop (at'+1).toNat,e∈R∨e=(mn,mx):=fun e he=>by
    rcases List.mem_append.mp he with he | he
    ·rcases List.mem_append.mp he with he | he
     ·exact .inl (List.mem_of_mem_take he)
     ·exact .inr (List.mem_singleton.mp he)
    ·exact .inl (List.mem_of_mem_drop he)
   have min':(mn,mx)∈R.take at'.toNat++[(mn,mx)]++R.drop (at'+1).toNat:=List.mem_append_left _ (List.mem_append_right _ (List.mem_singleton.mpr rfl))
   have bpos : ∀ e∈R.take at'.toNat++[(mn,mx)]++R.drop (at'+1).toNat,1≤e.1∧e.1<e.2:=fun e he=>by
    rcases bmem e he with h | rfl
    ·have:=good' e h; exact ⟨this.1,this.2.1⟩
    ·exact mm
   generalize R.take at'.toNat++[(mn,mx)]++R.drop (at'+1).toNat=B at xb bl8 bmem bpos min'
   generalize ws.take at'.toNat++[.ref tp]++ws.drop (at'+1).toNat=wb at xb h15
   have s915:=z10.trans y15
   have bn:(B.length:Int)+1=n:=by omega
   refine gNJ ?_
   dsimp only
   refine seq_byJ (t:=tAsg _ _) (fun σ' H'=>∃ u:Str,σ'=[some (.ref a),some (.int (0+(i:Int))),some (.int z),some (.int n),some (.ref lr),some (.ref ld),some (.ref q),some (.str u),some (.int at'),some (.int aa),some (.ref tp),some (.ref lb)]∧Same H11 H'∧(u = "told" ∧ ledM n B=grM n∨u = "NotGreat" ∧ ledM n B≠grM n)) (fun D' hD=>?_) ?_
   ·refine ⟨_,rfl,tp,_,1,_,rfl,rfl,SqT.of (y15 _ _ htp),rfl,_,rfl,_,_,rfl,rfl,_,rfl,ite2 (fun c=>?_) (fun c=>?_)⟩
    ·have c:mx≤n:=of_decide_eq_true c
     have goodB:Good n B:=fun e he=>by
      rcases bmem e he with h | rfl
      ·exact good' e h
      ·exact ⟨mm.1,mm.2,c⟩
     refine ⟨_,rfl,_,rfl,n,lb,wb,B,rfl,by omega,by omega,h15,xb,goodB,fun tt H12 ftt htt s12=>⟨_,rfl,n,rfl,by omega,by omega,fun tg H13 ftg htg s13=>eqT8 (s13 _ _ htt) htg ⟨_,rfl,ite2 (fun c9=>hD _ _ ⟨_,rfl,s12.trans s13,.inl ⟨rfl,of_decide_eq_true c9⟩⟩) (fun c9=>hD _ _ ⟨_,rfl,s12.trans s13,.inr ⟨rfl,fun z=>c9 (decide_eq_true z)⟩⟩)⟩⟩⟩
    ·have c : ¬ mx≤n:=fun z=>c (decide_eq_true z)
     refine iteF (hD _ _ ⟨_,rfl,Same.refl _,.inr ⟨rfl,fun z=>c ?_⟩⟩)
     have:=great_good (row:=B) bpos (by rw [bn]; exact z) _ min'
     rw [bn] at this
     exact this.2.2
   clear hu ett htt
   rintro σ H12 ⟨u',rfl,s12,hu'⟩
   refine ⟨_,rfl,.inl ⟨lb,wb,B,rfl,s12 _ _ h15,xb.keep (Same.tups s12),bpos,by omega,fun t' H13 s13 htt'=>?_⟩⟩
   rw [bn] at htt'
   have ett:t'=u':=by
    rcases htt' with ⟨e,c⟩ | ⟨e,c⟩ <;> rcases hu' with ⟨e',c'⟩ | ⟨e',c'⟩
    ·rw [e,e']
    ·exact absurd c c'
    ·exact absurd c' c
    ·rw [e,e']
   refine ⟨_,rfl,rfl,_,rfl,iteE (by rw [decide_eq_true (congrArg V.str ett)]; rfl) ?_⟩
   exact ⟨⟨_,_,_,_,_,_,_,_,_,_,_,rfl⟩,A9.trans (s915.trans (s12.trans s13)),by omega⟩
  ·rintro σ H1 ⟨⟨v1,v2,v3,v4,v5,v6,v7,v8,v9,v10,v11,rfl⟩,s1,_⟩
   refine ⟨Nat.zero_le _,fun r0 fr0=>?_⟩
   have z1:Same H1 (upd H1 r0 (.lst [])):=Same.new fr0
   have h1:upd H1 r0 (.lst []) r0=some (.lst (([] : List Addr).map V.ref)):=upd_same
   generalize upd H1 r0 (.lst [])=H2 at z1 h1 ⊢
   refine .inr ⟨r0,[],[],[],rfl,h1,Shs.nil,⟨by decide,fun S hS=>by cases hS⟩,fun S hS=>(by cases hS),fun t H3 s3 ht=>?_⟩
   have et:t = "NoChain" := by
    rcases ht with ⟨_,c⟩ | ⟨e,_⟩
    ·exact absurd rfl c.ne
    ·exact e
   refine ⟨rfl,_,rfl,iteP (decide_eq_true (congrArg (fun x:String=>V.str (Str.ofString x)) et)) ?_⟩
   refine ⟨two,fun t1 f1=>?_⟩
   have y1:Same H3 (upd H3 t1 (.tup [.int 1,.int 2])):=Same.new f1
   have g1:upd H3 t1 (.tup [.int 1,.int 2]) t1=some (.tup [.int 1,.int 2]):=upd_same
   generalize upd H3 t1 (.tup [.int 1,.int 2])=H4 at y1 g1 ⊢
   refine ⟨two,fun t2 f2=>?_⟩
   have y2:Same H4 (upd H4 t2 (.tup [.int 1,.int 2])):=Same.new f2
   have g2:upd H4 t2 (.tup [.int 1,.int 2]) t2=some (.tup [.int 1,.int 2]):=upd_same
   generalize upd H4 t2 (.tup [.int 1,.int 2])=H5 at y2 g2 ⊢
   refine ⟨two,fun l3 f3=>?_⟩
   have y3:Same H5 (upd H5 l3 (.lst [.ref t1,.ref t2])):=Same.new f3
   have g3:upd H5 l3 (.lst [.ref t1,.ref t2]) l3=some (.lst [.ref t1,.ref t2]):=upd_same
   generalize upd H5 l3 (.lst [.ref t1,.ref t2])=H6 at y3 g3 ⊢
   refine .inl ⟨l3,_,[(1,2),(1,2)],rfl,g3,.cons (y3 _ _ (y2 _ _ g1)) (.cons (y3 _ _ g2) .nil),fun e he=>?_,by decide,fun t' H7 s7 ht'=>?_⟩
   ·rcases List.mem_cons.mp he with rfl | he
    ·decide
    ·rw [List.mem_singleton.mp he]; decide
   have et':t' = "NotGreat" := by
    rcases ht' with ⟨_,c⟩ | ⟨e,_⟩
    ·exact absurd c not12
    ·exact e
   refine ⟨rfl,?_⟩
   rw [decide_eq_true (congrArg (fun x:String=>V.str (Str.ofString x)) et')]
   exact k H7
end
end Sw
namespace Sw
open PySem L2
section
variable {P:Program} {w:World} {K:PySem.W.Frag} {mg:Str→Option Value} {base:Heap}
theorem sc_plain:FnScope ["n"] ["n"] (defScope (top 18)):=⟨rfl,rfl,rfl,by decide +kernel,rfl,by decide +kernel,by decide +kernel⟩
theorem ok_plain {f:Addr} {fd:FuncData} (F:Fun K "plain" "plain" (top 18) f fd) (T:T1 mg K) : FnOk P w K mg base CX0 1 f fd ["n"] spPlain:=by
 refine F.ok sc_plain (fun vs H Q E h=>?_) (fun cdv A outer s H vs Q E hr h=>?_)
 ·obtain ⟨t,rfl,_⟩:=h
  rfl
 ·obtain ⟨n,rfl,h0,h1,k⟩:=h
  refine ⟨_,(pss_one (ps_ret (pe_callTy (call_tuple_rng rfl) rfl T.b_tuple (by decide +kernel) (pa_cons (pe_callTy call_range rfl T.b_range (by decide +kernel) (pa_cons pe_int (pa_cons (pe_op op_add (pv 0) pe_int) pa_nil))) pa_nil)))),?_⟩
  refine ⟨_,rfl,_,_,rfl,rfl,.inr ⟨_,_,rfl,fun r hr=>⟨r,_,_,rfl,upd_same,by omega,by omega,by omega,by omega,fun t ht=>?_⟩⟩⟩
  have ne:t≠r:=by intro z; subst z; rw [upd_same] at ht; cases ht
  rw [upd_ne ne] at ht
  exact k t _ ht upd_same fun b o e=>by rw [upd_ne (ne_of_none e ht),upd_ne (ne_of_none e hr)]; exact e
end
end Sw
namespace Sw
open PySem L2
section
variable {P:Program} {w:World} {K:PySem.W.Frag} {mg:Str→Option Value} {base:Heap}
theorem sc_exchanged:FnScope ["exchange", "thing", "a", "b"] ["exchange", "thing"] (defScope (top 27)):=⟨rfl,rfl,rfl,by decide +kernel,rfl,by decide +kernel,by decide +kernel⟩
theorem ok_ex {f:Addr} {fd:FuncData} (F:Fun K "exchanged" "exchanged" (top 27) f fd) : FnOk P w K mg base CX0 1 f fd ["exchange", "thing"] spEx:=by
 refine F.ok sc_exchanged (fun vs H Q E h=>?_) (fun cdv A outer s H vs Q E hr h=>?_)
 ·obtain ⟨t,a,b,x,rfl,_⟩:=h
  rfl
 ·obtain ⟨t,a,b,x,rfl,ht,k⟩:=h
  refine ⟨_,(pss_cons (ps_asg (pv 0) (pg_tupK (K:=K) (n:=2) rfl rfl (pgs_cons (pg_name (i:=2) sc_exchanged.nd rfl (Or.inl rfl)) (pgs_cons (pg_name (i:=3) sc_exchanged.nd rfl (Or.inl rfl)) pgs_nil))))
   (pss_cons (ps_if (pt_cmpR op_eq (pv 1) (pv 2) (nomark _)) (pss_one (ps_ret (pv 3))) pss_nil)
   (pss_cons (ps_if (pt_cmpR op_eq (pv 1) (pv 3) (nomark _)) (pss_one (ps_ret (pv 2))) pss_nil)
   (pss_one (ps_ret (pv 1)))))),?_⟩
  refine ⟨_,rfl,t,_,rfl,SqT.of ht,rfl,_,_,rfl,_,_,rfl,rfl,?_⟩
  unfold swp at k
  refine ⟨_,rfl,_,rfl,rfl,_,rfl,ite2 (fun c=>?_) (fun c=>?_)⟩
  ·have c:x=a:=by simpa using c
   rw [if_pos c] at k
   exact ⟨_,rfl,k⟩
  ·have c : ¬ x=a:=by simpa using c
   rw [if_neg c] at k
   refine ⟨_,rfl,_,rfl,rfl,_,rfl,ite2 (fun c=>?_) (fun c=>?_)⟩
   ·have c:x=b:=by simpa using c
    rw [if_pos c] at k
    exact ⟨_,rfl,k⟩
   ·have c : ¬ x=b:=by simpa using c
    rw [if_neg c] at k
    exact ⟨_,rfl,k⟩
end
end Sw
namespace Sw
open PySem L2
structure TR0 (P:Program) (w:World) (K:PySem.W.Frag) (mg:Str→Option Value) (base:Heap) : Prop extends T1 mg K where
 b_min:mg "min" = none
 f_round_from:FnAt P w K mg base "round_from" 1 ["order", "first"] spRf
section
variable {P:Program} {w:World} {K:PySem.W.Frag} {mg:Str→Option Value} {base:Heap}
theorem sc_round_from:FnScope ["order", "first", "found", "thing"] ["order", "first"] (defScope (top 22)):=⟨rfl,rfl,rfl,by decide +kernel,rfl,by decide +kernel,by decide +kernel⟩
theorem ok_rf {f:Addr} {fd:FuncData} (F:Fun K "round_from" "round_from" (top 22) f fd) : FnOk P w K mg base CX0 1 f fd ["order", "first"] spRf:=by
 refine F.ok sc_round_from (fun vs H Q E h=>?_) (fun cdv A outer s H vs Q E hr h=>?_)
 ·obtain ⟨t,n,x,xs,rfl,_⟩:=h
  rfl
 ·obtain ⟨t,n,x,xs,rfl,ht,o,hn,x1,x2,k⟩:=h
  refine ⟨_,(pss_cons (ps_set (i:=2) sc_round_from.nd rfl (Or.inl rfl) (pe_lst (pa_cons (pv 1) pa_nil)))
   (pss_cons (ps_set (i:=3) sc_round_from.nd rfl (Or.inl rfl) (pe_ix (ix_tupK (K:=K) rfl) (pv 0) (pe_op op_sub (pv 1) pe_int) (fun _ _=>rfl)))
   (pss_cons (ps_while PassesOwn.never (pt_cmpR op_ne (pv 3) (pv 1) (nomark _)) (pss_cons (ps_expr (pe_bmK (K:=K) rfl PySem.F.plainAttrs_list PySem.F.slot_list_append PySem.F.type_list_append mt_append (pv 2) (pa_cons (pv 3) pa_nil)))
   (pss_one (ps_set (i:=3) sc_round_from.nd rfl (Or.inl rfl) (pe_ix (ix_tupK (K:=K) rfl) (pv 0) (pe_op op_sub (pv 3) pe_int) (fun _ _=>rfl))))))
   (pss_one (ps_ret (pv 2)))))),?_⟩
  have ol:=o.length
  have big:(100000:Nat)≤sizeLine:=by decide
  refine ⟨_,rfl,(by show 1≤sizeLine; decide),fun l hl=>?_⟩
  have s1:Same H (upd H l (.lst [V.int x])):=Same.new hl
  refine ⟨_,rfl,_,rfl,_,_,rfl,rfl,t,_,_,_,rfl,rfl,SqT.of (s1 _ _ ht),at_int (by omega) (ld_get o x1 x2),?_⟩
  refine ⟨fun m σ H'=>∃ i,m=per xs x - i∧1≤i∧i≤per xs x∧σ=[some (.ref t),some (.int x),some (.ref l),some (.int (itn (ld xs) i x))]∧Same H H'∧H' l=some (.lst (((List.range i).map fun k=>itn (ld xs) k x).map V.int)),⟨_,1,rfl,Nat.le_refl _,by unfold per; omega,rfl,s1,upd_same⟩,?_⟩
  rintro m σ H' ⟨i,rfl,i1,i2,rfl,s2,h2⟩
  have pl:=per_le o x1 x2
  have ir:=itn_in o x1 x2 i
  refine ⟨_,rfl,_,rfl,rfl,_,rfl,ite2 (fun c=>?_) (fun c=>?_)⟩
  ·have c:itn (ld xs) i x≠x:=by simpa using c
   have lt:i<per xs x:=by
    by_cases e:i=per xs x
    ·rw [e] at c; exact absurd (per_eq o x1 x2) c
    ·omega
   refine ⟨fun σ' H'=>σ'=[some (.ref t),some (.int x),some (.ref l),some (.int (itn (ld xs) (i+1) x))]∧Same H H'∧H' l=some (.lst (((List.range (i+1)).map fun k=>itn (ld xs) k x).map V.int)),fun σ' H' ⟨e1,e2,e3⟩=>⟨_,(by show per xs x - (i+1)<_; omega),i+1,rfl,by omega,by omega,e1,e2,e3⟩,?_⟩
   refine ⟨_,rfl,.inl ⟨rfl,_,SqL.of h2⟩,_,rfl,l,_,_,rfl,rfl,h2,by simp; omega,?_⟩
   have s3:Same H (upd H' l (.lst (((List.range i).map fun k=>itn (ld xs) k x).map V.int++[.int (itn (ld xs) i x)]))):=fun b ob e=>by rw [upd_ne (ne_of_none e hl)]; exact s2 b ob e
   refine ⟨_,rfl,_,rfl,_,_,rfl,rfl,t,_,_,_,rfl,rfl,SqT.of (s3 _ _ ht),at_int (by omega) (ld_get o ir.1 ir.2),?_⟩
   refine ⟨rfl,s3,?_⟩
   rw [upd_same,List.range_succ,List.map_append,List.map_append]
   rfl
  ·have c:itn (ld xs) i x=x:=by simpa using c
   have e:i=per xs x:=by
    apply Classical.byContradiction
    intro z
    exact per_ne (by omega) (by omega) c
   subst e
   exact ⟨_,rfl,k l H' hl h2 s2⟩
theorem sc_rounds:FnScope ["order", "begun"] ["order"] (defScope (top 23)):=⟨rfl,rfl,rfl,by decide +kernel,rfl,by decide +kernel,by decide +kernel⟩
theorem ok_rounds {f:Addr} {fd:FuncData} (F:Fun K "rounds" "rounds" (top 23) f fd) (T:TR0 P w K mg base) : FnOk P w K mg base CX0 3 f fd ["order"] spRounds:=by
 refine F.ok sc_rounds (fun vs H Q E h=>?_) (fun cdv A outer s H vs Q E hr h=>?_)
 ·obtain ⟨t,n,xs,rfl,_⟩:=h
  rfl
 ·obtain ⟨t,n,xs,rfl,ht,o,hn,k⟩:=h
  refine ⟨_,(pss_cons (ps_comp (i:=1) sc_rounds.nd rfl rfl (N:=(["first", "order"] : List Str)) (ix:=([none,some 0] : List (Option Nat))) (comp_ok rfl rfl) rfl (pi_range2 rfl T.b_range (pa_cons pe_int (pa_cons (pe_op op_add (pe_callB (call_lenK (K:=K) rfl) rfl T.b_len (by decide +kernel) (pa_cons (pv 0) pa_nil)) pe_int) pa_nil))) (fun _ _ _ _=>(pg_name (i:=0) (show List.Nodup (["first", "order"] : List Str) from by decide +kernel) rfl (Or.inl rfl))) (fun _ _ _ _=>pif_nil) (fun _ _ _ _=>(pe_callF T.f_round_from (hr.mono (by first | decide | omega)) rfl (pa_cons (pv 1) (pa_cons (pv 0) pa_nil)))))
   (pss_one (ps_ret (pe_comp (N:=(["found"] : List Str)) (ix:=([none] : List (Option Nat))) (comp_ok rfl rfl) rfl (pi_listK (K:=K) rfl (pv 1)) (fun _ _ _ _=>(pg_name (i:=0) (show List.Nodup (["found"] : List Str) from by decide +kernel) rfl (Or.inl rfl))) (fun _ _ _ _=>(pif_one (pt_cmpR op_eq (pe_ix (ix_listK (K:=K) rfl) (pv 0) pe_int (fun _ _=>rfl)) (pe_callB (call_minL (K:=K) rfl rfl) rfl T.b_min (by decide +kernel) (pa_cons (pv 0) pa_nil)) (nomark _)))) (fun _ _ _ _=>(pv 0)))))),?_⟩
  have ol:=o.length
  have big:(100000:Nat)≤sizeLine:=by decide
  refine ⟨_,rfl,t,_,rfl,.inr (SqT.of ht),_,_,rfl,rfl,1,_,rfl,⟨by decide,by decide,by omega,by rw [List.length_map]; omega⟩,compR (k:=0) (fun i ys σ' H'=>(∃ v,σ'=[v,some (.ref t)])∧Same H H'∧Lsts H' ys (((ivl 1 (n+1)).take i).map (orb xs))∧Fresh H ys∧ys.length=i) (by rw [List.length_map]; omega) ⟨⟨none,rfl⟩,Same.refl _,.nil,Fresh.nil,rfl⟩ (fun i ys σ' H' q=>Nat.le_of_eq q.2.2.2.2) ?_ ?_⟩
  ·rintro i ys σ' H' R hi ⟨⟨v,rfl⟩,s1,x1,f1,l1⟩ done
   rw [List.length_map] at hi
   refine ⟨_,rfl,_,rfl,t,n,1+(i:Int),xs,rfl,s1 _ _ ht,o,hn,by omega,by omega,fun l H2 hl h2 s2=>done _ _ _ ⟨⟨_,rfl⟩,s1.trans s2,?_,f1.snoc x1 hl (s1.free hl),?_⟩⟩
   ·rw [take_succ_map (orb xs) (get_ivl (lo:=1) (hi:=n+1) (i:=i) (by omega))]
    exact (x1.keep s2).snoc h2
   ·rw [List.length_append,l1]; rfl
  ·rintro ys σ' H' p ⟨⟨v,rfl⟩,s1,x1,f1,l1⟩ hp
   have et:(ivl 1 (n+1)).take (((xs.map V.int).length:Int)+1 - 1).toNat=ivl 1 (n+1):=List.take_of_length_le (by rw [ivl_length,List.length_map]; omega)
   rw [et] at x1
   rw [List.length_map] at l1
   have s2:=s1.trans (Same.new (o:=.lst ys) hp)
   have x2:=x1.keep (Same.new (o:=.lst ys) hp)
   have h2:upd H' p (.lst ys) p=some (.lst ys):=upd_same
   generalize upd H' p (.lst ys)=H2 at s2 x2 h2 ⊢
   refine ⟨_,rfl,p,rfl,⟨_,SqL.of h2⟩,compLif (K:=K) (a:=p) (xs:=ys) (k:=0) (fun i zs σ' H''=>(∃ v,σ'=[v])∧H''=H2∧zs.Sublist (ys.take i)∧Lsts H2 zs ((((ivl 1 (n+1)).take i).filter (least xs)).map (orb xs))) (by omega) ⟨⟨none,rfl⟩,rfl,List.nil_sublist _,.nil⟩
    (fun i zs σ' H'' _ q=>by rw [q.2.1]; exact SqL.of h2) (fun i zs σ' H'' q=>by have:=q.2.2.1.length_le; rw [List.length_take] at this; omega) ?_ ?_⟩
   ·rintro i zs σ' H'' x R hx ⟨⟨v,rfl⟩,rfl,sb,lx⟩ done
    obtain ⟨a,ns,rfl,ha,hns⟩:=x2.get hx
    rw [List.getElem?_map] at hns
    have hi:i<(n+1 - 1).toNat:=by
     have:=List.getElem?_eq_some_iff.mp hx
     obtain ⟨z,_⟩:=this
     rw [x2.length,List.length_map,ivl_length] at z
     exact z
    have gi:=get_ivl hi
    rw [gi] at hns
    cases hns
    have ib1:(1:Int)≤1+i:=by omega
    have ib2:(1:Int)+i≤n:=by omega
    have h0:(orb xs (1+i))[0]?=some (1+(i:Int)):=by
     unfold orb
     rw [List.getElem?_map,List.getElem?_range (by unfold per; omega)]
     rfl
    have et2:(ys.take (i+1))=ys.take i++[.ref a]:=by rw [List.take_succ,hx]; rfl
    have ef:((ivl 1 (n+1)).take (i+1))=(ivl 1 (n+1)).take i++[1+(i:Int)]:=by rw [List.take_succ,gi]; rfl
    -- the least one
    obtain ⟨M,M1,M2⟩ : ∃ M,M∈orb xs (1+i)∧∀ b∈orb xs (1+i),M≤b:=least_ex (List.ne_nil_of_mem (List.mem_of_getElem? h0))
    refine ⟨_,rfl,a,_,_,_,rfl,rfl,SqL.of ha,at_int (by omega) h0,_,rfl,a,_,M,rfl,SqL.of ha,M1,M2,rfl,_,rfl,?_⟩
    have el:decide (V.int (1+(i:Int))=V.int M)=least xs (1+i):=by
     rw [Bool.eq_iff_iff]
     unfold least
     rw [List.all_eq_true]
     simp only [decide_eq_true_eq]
     constructor
     ·intro e b hb
      cases e
      exact M2 b hb
     ·intro h
      have e1:=h M M1
      have e2:=M2 _ (List.mem_of_getElem? h0)
      rw [Int.le_antisymm e1 e2]
    rw [el]
    cases hL:least xs (1+(i:Int)) with
    | true =>
     refine iteT ⟨_,rfl,done _ _ _ ⟨⟨_,rfl⟩,rfl,?_,?_⟩⟩
     ·rw [et2]; exact sb.append (List.Sublist.refl _)
     ·rw [ef,List.filter_append,List.map_append,List.filter_cons_of_pos hL]
      exact lx.snoc ha
    | false =>
     refine iteF (done _ _ _ ⟨⟨_,rfl⟩,rfl,?_,?_⟩)
     ·rw [et2]; exact sb.trans (List.sublist_append_left _ _)
     ·rw [ef,List.filter_append,List.map_append,List.filter_cons_of_neg (by rw [hL]; decide),List.filter_nil,List.map_nil,List.append_nil]
      exact lx
   ·rintro zs σ' H'' q ⟨⟨v,rfl⟩,rfl,sb,lx⟩ hq
    rw [List.take_of_length_le (Nat.le_refl _)] at sb
    have e3:(ivl 1 (n+1)).take ys.length=ivl 1 (n+1):=List.take_of_length_le (by rw [ivl_length,l1]; omega)
    rw [e3] at lx
    refine k q zs _ (s2.free hq) upd_same (lx.keep (Same.new hq)) (f1.sub sb) (fun z=>?_) (s2.trans (Same.new hq))
    obtain ⟨ns,e⟩:=lx.mem z
    rw [hq] at e
    cases e
end
end Sw
namespace Sw
open PySem L2
theorem all_mk {l:PySem.W.OpenLaw} {w:World} {K:PySem.W.Frag} {h:Heap} {mg:Str→Option Value} {fa:Addr} (X:K.In h) (G:h.Ns mainGlobals mg) (hfa:mg "law" = some (.ref fa))
  {f0:Addr} {od0 an0:Option Addr} {sl0:Array (Option Value)} {oc0 kV0 dc0 pm0 cd0 ct0:Value}
  {f1:Addr} {od1 an1:Option Addr} {sl1:Array (Option Value)} {oc1 kV1 dc1 pm1 cd1 ct1:Value}
  {f2:Addr} {od2 an2:Option Addr} {sl2:Array (Option Value)} {oc2 kV2 dc2 pm2 cd2 ct2:Value}
  {f3:Addr} {od3 an3:Option Addr} {sl3:Array (Option Value)} {oc3 kV3 dc3 pm3 cd3 ct3:Value}
  {f4:Addr} {od4 an4:Option Addr} {sl4:Array (Option Value)} {oc4 kV4 dc4 pm4 cd4 ct4:Value}
  {f5:Addr} {od5 an5:Option Addr} {sl5:Array (Option Value)} {oc5 kV5 dc5 pm5 cd5 ct5:Value}
  {f6:Addr} {od6 an6:Option Addr} {sl6:Array (Option Value)} {oc6 kV6 dc6 pm6 cd6 ct6:Value}
  {f7:Addr} {od7 an7:Option Addr} {sl7:Array (Option Value)} {oc7 kV7 dc7 pm7 cd7 ct7:Value}
  {f8:Addr} {od8 an8:Option Addr} {sl8:Array (Option Value)} {oc8 kV8 dc8 pm8 cd8 ct8:Value}
  {f9:Addr} {od9 an9:Option Addr} {sl9:Array (Option Value)} {oc9 kV9 dc9 pm9 cd9 ct9:Value}
  {f10:Addr} {od10 an10:Option Addr} {sl10:Array (Option Value)} {oc10 kV10 dc10 pm10 cd10 ct10:Value}
  {f11:Addr} {od11 an11:Option Addr} {sl11:Array (Option Value)} {oc11 kV11 dc11 pm11 cd11 ct11:Value}
  {f12:Addr} {od12 an12:Option Addr} {sl12:Array (Option Value)} {oc12 kV12 dc12 pm12 cd12 ct12:Value}
  {f13:Addr} {od13 an13:Option Addr} {sl13:Array (Option Value)} {oc13 kV13 dc13 pm13 cd13 ct13:Value}
  {f14:Addr} {od14 an14:Option Addr} {sl14:Array (Option Value)} {oc14 kV14 dc14 pm14 cd14 ct14:Value}
  {f15:Addr} {od15 an15:Option Addr} {sl15:Array (Option Value)} {oc15 kV15 dc15 pm15 cd15 ct15:Value}
  {f16:Addr} {od16 an16:Option Addr} {sl16:Array (Option Value)} {oc16 kV16 dc16 pm16 cd16 ct16:Value}
  {f17:Addr} {od17 an17:Option Addr} {sl17:Array (Option Value)} {oc17 kV17 dc17 pm17 cd17 ct17:Value}
  {f18:Addr} {od18 an18:Option Addr} {sl18:Array (Option Value)} {oc18 kV18 dc18 pm18 cd18 ct18:Value}
  {f19:Addr} {od19 an19:Option Addr} {sl19:Array (Option Value)} {oc19 kV19 dc19 pm19 cd19 ct19:Value}
  {f20:Addr} {od20 an20:Option Addr} {sl20:Array (Option Value)} {oc20 kV20 dc20 pm20 cd20 ct20:Value}
  {f21:Addr} {od21 an21:Option Addr} {sl21:Array (Option Value)} {oc21 kV21 dc21 pm21 cd21 ct21:Value}
  {f22:Addr} {od22 an22:Option Addr} {sl22:Array (Option Value)} {oc22 kV22 dc22 pm22 cd22 ct22:Value}
  {f23:Addr} {od23 an23:Option Addr} {sl23:Array (Option Value)} {oc23 kV23 dc23 pm23 cd23 ct23:Value}
  {f24:Addr} {od24 an24:Option Addr} {sl24:Array (Option Value)} {oc24 kV24 dc24 pm24 cd24 ct24:Value}
  {f25:Addr} {od25 an25:Option Addr} {sl25:Array (Option Value)} {oc25 kV25 dc25 pm25 cd25 ct25:Value}
  {f26:Addr} {od26 an26:Option Addr} {sl26:Array (Option Value)} {oc26 kV26 dc26 pm26 cd26 ct26:Value}
  {f27:Addr} {od27 an27:Option Addr} {sl27:Array (Option Value)} {oc27 kV27 dc27 pm27 cd27 ct27:Value}
  {f28:Addr} {od28 an28:Option Addr} {sl28:Array (Option Value)} {oc28 kV28 dc28 pm28 cd28 ct28:Value}
  {f29:Addr} {od29 an29:Option Addr} {sl29:Array (Option Value)} {oc29 kV29 dc29 pm29 cd29 ct29:Value}
  {f30:Addr} {od30 an30:Option Addr} {sl30:Array (Option Value)} {oc30 kV30 dc30 pm30 cd30 ct30:Value}
  {f31:Addr} {od31 an31:Option Addr} {sl31:Array (Option Value)} {oc31 kV31 dc31 pm31 cd31 ct31:Value}
  {f32:Addr} {od32 an32:Option Addr} {sl32:Array (Option Value)} {oc32 kV32 dc32 pm32 cd32 ct32:Value}
  {f33:Addr} {od33 an33:Option Addr} {sl33:Array (Option Value)} {oc33 kV33 dc33 pm33 cd33 ct33:Value}
  {f34:Addr} {od34 an34:Option Addr} {sl34:Array (Option Value)} {oc34 kV34 dc34 pm34 cd34 ct34:Value}
  {f35:Addr} {od35 an35:Option Addr} {sl35:Array (Option Value)} {oc35 kV35 dc35 pm35 cd35 ct35:Value}
  {f36:Addr} {od36 an36:Option Addr} {sl36:Array (Option Value)} {oc36 kV36 dc36 pm36 cd36 ct36:Value}
  {f37:Addr} {od37 an37:Option Addr} {sl37:Array (Option Value)} {oc37 kV37 dc37 pm37 cd37 ct37:Value}
  {f38:Addr} {od38 an38:Option Addr} {sl38:Array (Option Value)} {oc38 kV38 dc38 pm38 cd38 ct38:Value}
  (a0:PySem.W.nsIn K mainGlobals "is_whole" = some (some (.ref f0))) (l0:K.lookup f0=some ⟨oc0,od0,.func (PySem.W.fnOf "is_whole" "is_whole" (defArgs (top 15)) (defBody (top 15)) (defScope (top 15)) .none kV0 dc0 pm0 an0 cd0 ct0),sl0⟩) (c0:PySem.W.codeIn K cd0 "is_whole" = true) (k0:PySem.W.keepIn K (.ref f0)=true)
  (a1:PySem.W.nsIn K mainGlobals "is_between" = some (some (.ref f1))) (l1:K.lookup f1=some ⟨oc1,od1,.func (PySem.W.fnOf "is_between" "is_between" (defArgs (top 16)) (defBody (top 16)) (defScope (top 16)) .none kV1 dc1 pm1 an1 cd1 ct1),sl1⟩) (c1:PySem.W.codeIn K cd1 "is_between" = true) (k1:PySem.W.keepIn K (.ref f1)=true)
  (a2:PySem.W.nsIn K mainGlobals "plain" = some (some (.ref f2))) (l2:K.lookup f2=some ⟨oc2,od2,.func (PySem.W.fnOf "plain" "plain" (defArgs (top 18)) (defBody (top 18)) (defScope (top 18)) .none kV2 dc2 pm2 an2 cd2 ct2),sl2⟩) (c2:PySem.W.codeIn K cd2 "plain" = true) (k2:PySem.W.keepIn K (.ref f2)=true)
  (a3:PySem.W.nsIn K mainGlobals "great" = some (some (.ref f3))) (l3:K.lookup f3=some ⟨oc3,od3,.func (PySem.W.fnOf "great" "great" (defArgs (top 19)) (defBody (top 19)) (defScope (top 19)) .none kV3 dc3 pm3 an3 cd3 ct3),sl3⟩) (c3:PySem.W.codeIn K cd3 "great" = true) (k3:PySem.W.keepIn K (.ref f3)=true)
  (a4:PySem.W.nsIn K mainGlobals "then" = some (some (.ref f4))) (l4:K.lookup f4=some ⟨oc4,od4,.func (PySem.W.fnOf "then" "then" (defArgs (top 20)) (defBody (top 20)) (defScope (top 20)) .none kV4 dc4 pm4 an4 cd4 ct4),sl4⟩) (c4:PySem.W.codeIn K cd4 "then" = true) (k4:PySem.W.keepIn K (.ref f4)=true)
  (a5:PySem.W.nsIn K mainGlobals "back" = some (some (.ref f5))) (l5:K.lookup f5=some ⟨oc5,od5,.func (PySem.W.fnOf "back" "back" (defArgs (top 21)) (defBody (top 21)) (defScope (top 21)) .none kV5 dc5 pm5 an5 cd5 ct5),sl5⟩) (c5:PySem.W.codeIn K cd5 "back" = true) (k5:PySem.W.keepIn K (.ref f5)=true)
  (a6:PySem.W.nsIn K mainGlobals "round_from" = some (some (.ref f6))) (l6:K.lookup f6=some ⟨oc6,od6,.func (PySem.W.fnOf "round_from" "round_from" (defArgs (top 22)) (defBody (top 22)) (defScope (top 22)) .none kV6 dc6 pm6 an6 cd6 ct6),sl6⟩) (c6:PySem.W.codeIn K cd6 "round_from" = true) (k6:PySem.W.keepIn K (.ref f6)=true)
  (a7:PySem.W.nsIn K mainGlobals "rounds" = some (some (.ref f7))) (l7:K.lookup f7=some ⟨oc7,od7,.func (PySem.W.fnOf "rounds" "rounds" (defArgs (top 23)) (defBody (top 23)) (defScope (top 23)) .none kV7 dc7 pm7 an7 cd7 ct7),sl7⟩) (c7:PySem.W.codeIn K cd7 "rounds" = true) (k7:PySem.W.keepIn K (.ref f7)=true)
  (a8:PySem.W.nsIn K mainGlobals "check_rounds" = some (some (.ref f8))) (l8:K.lookup f8=some ⟨oc8,od8,.func (PySem.W.fnOf "check_rounds" "check_rounds" (defArgs (top 24)) (defBody (top 24)) (defScope (top 24)) .none kV8 dc8 pm8 an8 cd8 ct8),sl8⟩) (c8:PySem.W.codeIn K cd8 "check_rounds" = true) (k8:PySem.W.keepIn K (.ref f8)=true)
  (a9:PySem.W.nsIn K mainGlobals "made" = some (some (.ref f9))) (l9:K.lookup f9=some ⟨oc9,od9,.func (PySem.W.fnOf "made" "made" (defArgs (top 25)) (defBody (top 25)) (defScope (top 25)) .none kV9 dc9 pm9 an9 cd9 ct9),sl9⟩) (c9:PySem.W.codeIn K cd9 "made" = true) (k9:PySem.W.keepIn K (.ref f9)=true)
  (a10:PySem.W.nsIn K mainGlobals "exchanged" = some (some (.ref f10))) (l10:K.lookup f10=some ⟨oc10,od10,.func (PySem.W.fnOf "exchanged" "exchanged" (defArgs (top 27)) (defBody (top 27)) (defScope (top 27)) .none kV10 dc10 pm10 an10 cd10 ct10),sl10⟩) (c10:PySem.W.codeIn K cd10 "exchanged" = true) (k10:PySem.W.keepIn K (.ref f10)=true)
  (a11:PySem.W.nsIn K mainGlobals "led" = some (some (.ref f11))) (l11:K.lookup f11=some ⟨oc11,od11,.func (PySem.W.fnOf "led" "led" (defArgs (top 28)) (defBody (top 28)) (defScope (top 28)) .none kV11 dc11 pm11 an11 cd11 ct11),sl11⟩) (c11:PySem.W.codeIn K cd11 "led" = true) (k11:PySem.W.keepIn K (.ref f11)=true)
  (a12:PySem.W.nsIn K mainGlobals "check_great" = some (some (.ref f12))) (l12:K.lookup f12=some ⟨oc12,od12,.func (PySem.W.fnOf "check_great" "check_great" (defArgs (top 29)) (defBody (top 29)) (defScope (top 29)) .none kV12 dc12 pm12 an12 cd12 ct12),sl12⟩) (c12:PySem.W.codeIn K cd12 "check_great" = true) (k12:PySem.W.keepIn K (.ref f12)=true)
  (a13:PySem.W.nsIn K mainGlobals "many_things" = some (some (.ref f13))) (l13:K.lookup f13=some ⟨oc13,od13,.func (PySem.W.fnOf "many_things" "many_things" (defArgs (top 31)) (defBody (top 31)) (defScope (top 31)) .none kV13 dc13 pm13 an13 cd13 ct13),sl13⟩) (c13:PySem.W.codeIn K cd13 "many_things" = true) (k13:PySem.W.keepIn K (.ref f13)=true)
  (a14:PySem.W.nsIn K mainGlobals "order_by" = some (some (.ref f14))) (l14:K.lookup f14=some ⟨oc14,od14,.func (PySem.W.fnOf "order_by" "order_by" (defArgs (top 32)) (defBody (top 32)) (defScope (top 32)) .none kV14 dc14 pm14 an14 cd14 ct14),sl14⟩) (c14:PySem.W.codeIn K cd14 "order_by" = true) (k14:PySem.W.keepIn K (.ref f14)=true)
  (a15:PySem.W.nsIn K mainGlobals "is_inside" = some (some (.ref f15))) (l15:K.lookup f15=some ⟨oc15,od15,.func (PySem.W.fnOf "is_inside" "is_inside" (defArgs (top 33)) (defBody (top 33)) (defScope (top 33)) .none kV15 dc15 pm15 an15 cd15 ct15),sl15⟩) (c15:PySem.W.codeIn K cd15 "is_inside" = true) (k15:PySem.W.keepIn K (.ref f15)=true)
  (a16:PySem.W.nsIn K mainGlobals "within" = some (some (.ref f16))) (l16:K.lookup f16=some ⟨oc16,od16,.func (PySem.W.fnOf "within" "within" (defArgs (top 34)) (defBody (top 34)) (defScope (top 34)) .none kV16 dc16 pm16 an16 cd16 ct16),sl16⟩) (c16:PySem.W.codeIn K cd16 "within" = true) (k16:PySem.W.keepIn K (.ref f16)=true)
  (a17:PySem.W.nsIn K mainGlobals "shared_by" = some (some (.ref f17))) (l17:K.lookup f17=some ⟨oc17,od17,.func (PySem.W.fnOf "shared_by" "shared_by" (defArgs (top 35)) (defBody (top 35)) (defScope (top 35)) .none kV17 dc17 pm17 an17 cd17 ct17),sl17⟩) (c17:PySem.W.codeIn K cd17 "shared_by" = true) (k17:PySem.W.keepIn K (.ref f17)=true)
  (a18:PySem.W.nsIn K mainGlobals "beginnings" = some (some (.ref f18))) (l18:K.lookup f18=some ⟨oc18,od18,.func (PySem.W.fnOf "beginnings" "beginnings" (defArgs (top 36)) (defBody (top 36)) (defScope (top 36)) .none kV18 dc18 pm18 an18 cd18 ct18),sl18⟩) (c18:PySem.W.codeIn K cd18 "beginnings" = true) (k18:PySem.W.keepIn K (.ref f18)=true)
  (a19:PySem.W.nsIn K mainGlobals "joins_two" = some (some (.ref f19))) (l19:K.lookup f19=some ⟨oc19,od19,.func (PySem.W.fnOf "joins_two" "joins_two" (defArgs (top 37)) (defBody (top 37)) (defScope (top 37)) .none kV19 dc19 pm19 an19 cd19 ct19),sl19⟩) (c19:PySem.W.codeIn K cd19 "joins_two" = true) (k19:PySem.W.keepIn K (.ref f19)=true)
  (a20:PySem.W.nsIn K mainGlobals "is_chain" = some (some (.ref f20))) (l20:K.lookup f20=some ⟨oc20,od20,.func (PySem.W.fnOf "is_chain" "is_chain" (defArgs (top 38)) (defBody (top 38)) (defScope (top 38)) .none kV20 dc20 pm20 an20 cd20 ct20),sl20⟩) (c20:PySem.W.codeIn K cd20 "is_chain" = true) (k20:PySem.W.keepIn K (.ref f20)=true)
  (a21:PySem.W.nsIn K mainGlobals "exchange_between" = some (some (.ref f21))) (l21:K.lookup f21=some ⟨oc21,od21,.func (PySem.W.fnOf "exchange_between" "exchange_between" (defArgs (top 39)) (defBody (top 39)) (defScope (top 39)) .none kV21 dc21 pm21 an21 cd21 ct21),sl21⟩) (c21:PySem.W.codeIn K cd21 "exchange_between" = true) (k21:PySem.W.keepIn K (.ref f21)=true)
  (a22:PySem.W.nsIn K mainGlobals "row_of_chain" = some (some (.ref f22))) (l22:K.lookup f22=some ⟨oc22,od22,.func (PySem.W.fnOf "row_of_chain" "row_of_chain" (defArgs (top 40)) (defBody (top 40)) (defScope (top 40)) .none kV22 dc22 pm22 an22 cd22 ct22),sl22⟩) (c22:PySem.W.codeIn K cd22 "row_of_chain" = true) (k22:PySem.W.keepIn K (.ref f22)=true)
  (a23:PySem.W.nsIn K mainGlobals "_law_cell" = some (some (.ref f23))) (l23:K.lookup f23=some ⟨oc23,od23,.func (PySem.W.fnOf "_law_cell" "_law_cell" (defArgs (top 42)) (defBody (top 42)) (defScope (top 42)) .none kV23 dc23 pm23 an23 cd23 ct23),sl23⟩) (c23:PySem.W.codeIn K cd23 "_law_cell" = true) (k23:PySem.W.keepIn K (.ref f23)=true)
  (a24:PySem.W.nsIn K mainGlobals "_law_number" = some (some (.ref f24))) (l24:K.lookup f24=some ⟨oc24,od24,.func (PySem.W.fnOf "_law_number" "_law_number" (defArgs (top 43)) (defBody (top 43)) (defScope (top 43)) .none kV24 dc24 pm24 an24 cd24 ct24),sl24⟩) (c24:PySem.W.codeIn K cd24 "_law_number" = true) (k24:PySem.W.keepIn K (.ref f24)=true)
  (a25:PySem.W.nsIn K mainGlobals "_law_great" = some (some (.ref f25))) (l25:K.lookup f25=some ⟨oc25,od25,.func (PySem.W.fnOf "_law_great" "_law_great" (defArgs (top 44)) (defBody (top 44)) (defScope (top 44)) .none kV25 dc25 pm25 an25 cd25 ct25),sl25⟩) (c25:PySem.W.codeIn K cd25 "_law_great" = true) (k25:PySem.W.keepIn K (.ref f25)=true)
  (a26:PySem.W.nsIn K mainGlobals "_law_led" = some (some (.ref f26))) (l26:K.lookup f26=some ⟨oc26,od26,.func (PySem.W.fnOf "_law_led" "_law_led" (defArgs (top 45)) (defBody (top 45)) (defScope (top 45)) .none kV26 dc26 pm26 an26 cd26 ct26),sl26⟩) (c26:PySem.W.codeIn K cd26 "_law_led" = true) (k26:PySem.W.keepIn K (.ref f26)=true)
  (a27:PySem.W.nsIn K mainGlobals "_law_tree" = some (some (.ref f27))) (l27:K.lookup f27=some ⟨oc27,od27,.func (PySem.W.fnOf "_law_tree" "_law_tree" (defArgs (top 46)) (defBody (top 46)) (defScope (top 46)) .none kV27 dc27 pm27 an27 cd27 ct27),sl27⟩) (c27:PySem.W.codeIn K cd27 "_law_tree" = true) (k27:PySem.W.keepIn K (.ref f27)=true)
  (a28:PySem.W.nsIn K mainGlobals "_law_row_by" = some (some (.ref f28))) (l28:K.lookup f28=some ⟨oc28,od28,.func (PySem.W.fnOf "_law_row_by" "_law_row_by" (defArgs (top 47)) (defBody (top 47)) (defScope (top 47)) .none kV28 dc28 pm28 an28 cd28 ct28),sl28⟩) (c28:PySem.W.codeIn K cd28 "_law_row_by" = true) (k28:PySem.W.keepIn K (.ref f28)=true)
  (a29:PySem.W.nsIn K mainGlobals "_law_size" = some (some (.ref f29))) (l29:K.lookup f29=some ⟨oc29,od29,.func (PySem.W.fnOf "_law_size" "_law_size" (defArgs (top 48)) (defBody (top 48)) (defScope (top 48)) .none kV29 dc29 pm29 an29 cd29 ct29),sl29⟩) (c29:PySem.W.codeIn K cd29 "_law_size" = true) (k29:PySem.W.keepIn K (.ref f29)=true)
  (a30:PySem.W.nsIn K mainGlobals "_law_rounds" = some (some (.ref f30))) (l30:K.lookup f30=some ⟨oc30,od30,.func (PySem.W.fnOf "_law_rounds" "_law_rounds" (defArgs (top 49)) (defBody (top 49)) (defScope (top 49)) .none kV30 dc30 pm30 an30 cd30 ct30),sl30⟩) (c30:PySem.W.codeIn K cd30 "_law_rounds" = true) (k30:PySem.W.keepIn K (.ref f30)=true)
  (a31:PySem.W.nsIn K mainGlobals "_law_sharing" = some (some (.ref f31))) (l31:K.lookup f31=some ⟨oc31,od31,.func (PySem.W.fnOf "_law_sharing" "_law_sharing" (defArgs (top 50)) (defBody (top 50)) (defScope (top 50)) .none kV31 dc31 pm31 an31 cd31 ct31),sl31⟩) (c31:PySem.W.codeIn K cd31 "_law_sharing" = true) (k31:PySem.W.keepIn K (.ref f31)=true)
  (a32:PySem.W.nsIn K mainGlobals "_law_owner" = some (some (.ref f32))) (l32:K.lookup f32=some ⟨oc32,od32,.func (PySem.W.fnOf "_law_owner" "_law_owner" (defArgs (top 51)) (defBody (top 51)) (defScope (top 51)) .none kV32 dc32 pm32 an32 cd32 ct32),sl32⟩) (c32:PySem.W.codeIn K cd32 "_law_owner" = true) (k32:PySem.W.keepIn K (.ref f32)=true)
  (a33:PySem.W.nsIn K mainGlobals "_law_kind" = some (some (.ref f33))) (l33:K.lookup f33=some ⟨oc33,od33,.func (PySem.W.fnOf "_law_kind" "_law_kind" (defArgs (top 52)) (defBody (top 52)) (defScope (top 52)) .none kV33 dc33 pm33 an33 cd33 ct33),sl33⟩) (c33:PySem.W.codeIn K cd33 "_law_kind" = true) (k33:PySem.W.keepIn K (.ref f33)=true)
  (a34:PySem.W.nsIn K mainGlobals "_law_within" = some (some (.ref f34))) (l34:K.lookup f34=some ⟨oc34,od34,.func (PySem.W.fnOf "_law_within" "_law_within" (defArgs (top 53)) (defBody (top 53)) (defScope (top 53)) .none kV34 dc34 pm34 an34 cd34 ct34),sl34⟩) (c34:PySem.W.codeIn K cd34 "_law_within" = true) (k34:PySem.W.keepIn K (.ref f34)=true)
  (a35:PySem.W.nsIn K mainGlobals "_law_is_chain" = some (some (.ref f35))) (l35:K.lookup f35=some ⟨oc35,od35,.func (PySem.W.fnOf "_law_is_chain" "_law_is_chain" (defArgs (top 54)) (defBody (top 54)) (defScope (top 54)) .none kV35 dc35 pm35 an35 cd35 ct35),sl35⟩) (c35:PySem.W.codeIn K cd35 "_law_is_chain" = true) (k35:PySem.W.keepIn K (.ref f35)=true)
  (a36:PySem.W.nsIn K mainGlobals "_law_spoilt" = some (some (.ref f36))) (l36:K.lookup f36=some ⟨oc36,od36,.func (PySem.W.fnOf "_law_spoilt" "_law_spoilt" (defArgs (top 55)) (defBody (top 55)) (defScope (top 55)) .none kV36 dc36 pm36 an36 cd36 ct36),sl36⟩) (c36:PySem.W.codeIn K cd36 "_law_spoilt" = true) (k36:PySem.W.keepIn K (.ref f36)=true)
  (a37:PySem.W.nsIn K mainGlobals "_law_asked" = some (some (.ref f37))) (l37:K.lookup f37=some ⟨oc37,od37,.func (PySem.W.fnOf "_law_asked" "_law_asked" (defArgs (top 56)) (defBody (top 56)) (defScope (top 56)) .none kV37 dc37 pm37 an37 cd37 ct37),sl37⟩) (c37:PySem.W.codeIn K cd37 "_law_asked" = true) (k37:PySem.W.keepIn K (.ref f37)=true)
  (a38:PySem.W.nsIn K mainGlobals "law" = some (some (.ref f38))) (l38:K.lookup f38=some ⟨oc38,od38,.func (PySem.W.fnOf "law" "law" (defArgs (top 57)) (defBody (top 57)) (defScope (top 57)) .none kV38 dc38 pm38 an38 cd38 ct38),sl38⟩) (c38:PySem.W.codeIn K cd38 "law" = true) (k38:PySem.W.keepIn K (.ref f38)=true)
  (z_len:PySem.W.nsIn K mainGlobals "len" = some none)
  (z_abs:PySem.W.nsIn K mainGlobals "abs" = some none)
  (z_int:PySem.W.nsIn K mainGlobals "int" = some none)
  (z_all:PySem.W.nsIn K mainGlobals "all" = some none)
  (z_any:PySem.W.nsIn K mainGlobals "any" = some none)
  (z_isinstance:PySem.W.nsIn K mainGlobals "isinstance" = some none)
  (z_bool:PySem.W.nsIn K mainGlobals "bool" = some none)
  (z_tuple:PySem.W.nsIn K mainGlobals "tuple" = some none)
  (z_list:PySem.W.nsIn K mainGlobals "list" = some none)
  (z_range:PySem.W.nsIn K mainGlobals "range" = some none)
  (z_min:PySem.W.nsIn K mainGlobals "min" = some none)
  (z_max:PySem.W.nsIn K mainGlobals "max" = some none)
  (z_sorted:PySem.W.nsIn K mainGlobals "sorted" = some none)
  (z_set:PySem.W.nsIn K mainGlobals "set" = some none)
  (z_sum:PySem.W.nsIn K mainGlobals "sum" = some none)
  (z_zip:PySem.W.nsIn K mainGlobals "zip" = some none)
  (z_enumerate:PySem.W.nsIn K mainGlobals "enumerate" = some none)
  (z_ValueError:PySem.W.nsIn K mainGlobals "ValueError" = some none)
  {C_Unlike C_NoRounds C_Apart C_NoMove C_NotLeast C_NotGreat C_NoTree C_NoCars C_NoChain C_NoBound C_NoText C_NoName C_StarError:Addr}
  (ac_Unlike:PySem.W.nsIn K mainGlobals "Unlike" = some (some (.ref C_Unlike)))
  (ac_NoRounds:PySem.W.nsIn K mainGlobals "NoRounds" = some (some (.ref C_NoRounds)))
  (ac_Apart:PySem.W.nsIn K mainGlobals "Apart" = some (some (.ref C_Apart)))
  (ac_NoMove:PySem.W.nsIn K mainGlobals "NoMove" = some (some (.ref C_NoMove)))
  (ac_NotLeast:PySem.W.nsIn K mainGlobals "NotLeast" = some (some (.ref C_NotLeast)))
  (ac_NotGreat:PySem.W.nsIn K mainGlobals "NotGreat" = some (some (.ref C_NotGreat)))
  (ac_NoTree:PySem.W.nsIn K mainGlobals "NoTree" = some (some (.ref C_NoTree)))
  (ac_NoCars:PySem.W.nsIn K mainGlobals "NoCars" = some (some (.ref C_NoCars)))
  (ac_NoChain:PySem.W.nsIn K mainGlobals "NoChain" = some (some (.ref C_NoChain)))
  (ac_NoBound:PySem.W.nsIn K mainGlobals "NoBound" = some (some (.ref C_NoBound)))
  (ac_NoText:PySem.W.nsIn K mainGlobals "NoText" = some (some (.ref C_NoText)))
  (ac_NoName:PySem.W.nsIn K mainGlobals "NoName" = some (some (.ref C_NoName)))
  (ac_StarError:PySem.W.nsIn K mainGlobals "StarError" = some (some (.ref C_StarError)))
  (xc_NotGreat:ExcC K C_NotGreat)
  (ei_NotGreat:ExcI K C_NotGreat)
  (kv_NotGreat:PySem.W.kitOne K (.ref C_NotGreat) (.type "ValueError")=some true)
  (kx_NotGreat_Unlike:PySem.W.kitOne K (.ref C_NotGreat) (.ref C_Unlike)=some false)
  (kx_NotGreat_NoRounds:PySem.W.kitOne K (.ref C_NotGreat) (.ref C_NoRounds)=some false)
  (kx_NotGreat_Apart:PySem.W.kitOne K (.ref C_NotGreat) (.ref C_Apart)=some false)
  (kx_NotGreat_NoMove:PySem.W.kitOne K (.ref C_NotGreat) (.ref C_NoMove)=some false)
  (kx_NotGreat_NotLeast:PySem.W.kitOne K (.ref C_NotGreat) (.ref C_NotLeast)=some false)
  (kx_NotGreat_NotGreat:PySem.W.kitOne K (.ref C_NotGreat) (.ref C_NotGreat)=some true)
  (kx_NotGreat_NoTree:PySem.W.kitOne K (.ref C_NotGreat) (.ref C_NoTree)=some false)
  (kx_NotGreat_NoCars:PySem.W.kitOne K (.ref C_NotGreat) (.ref C_NoCars)=some false)
  (kx_NotGreat_NoChain:PySem.W.kitOne K (.ref C_NotGreat) (.ref C_NoChain)=some false)
  (kx_NotGreat_NoBound:PySem.W.kitOne K (.ref C_NotGreat) (.ref C_NoBound)=some false)
  (kx_NotGreat_NoText:PySem.W.kitOne K (.ref C_NotGreat) (.ref C_NoText)=some false)
  (kx_NotGreat_NoName:PySem.W.kitOne K (.ref C_NotGreat) (.ref C_NoName)=some false)
  (kx_NotGreat_StarError:PySem.W.kitOne K (.ref C_NotGreat) (.ref C_StarError)=some true)
  (em_NotGreat_StarError:ExcM K C_NotGreat C_StarError true)
  (xc_NoChain:ExcC K C_NoChain)
  (ei_NoChain:ExcI K C_NoChain)
  (kv_NoChain:PySem.W.kitOne K (.ref C_NoChain) (.type "ValueError")=some true)
  (kx_NoChain_Unlike:PySem.W.kitOne K (.ref C_NoChain) (.ref C_Unlike)=some false)
  (kx_NoChain_NoRounds:PySem.W.kitOne K (.ref C_NoChain) (.ref C_NoRounds)=some false)
  (kx_NoChain_Apart:PySem.W.kitOne K (.ref C_NoChain) (.ref C_Apart)=some false)
  (kx_NoChain_NoMove:PySem.W.kitOne K (.ref C_NoChain) (.ref C_NoMove)=some false)
  (kx_NoChain_NotLeast:PySem.W.kitOne K (.ref C_NoChain) (.ref C_NotLeast)=some false)
  (kx_NoChain_NotGreat:PySem.W.kitOne K (.ref C_NoChain) (.ref C_NotGreat)=some false)
  (kx_NoChain_NoTree:PySem.W.kitOne K (.ref C_NoChain) (.ref C_NoTree)=some false)
  (kx_NoChain_NoCars:PySem.W.kitOne K (.ref C_NoChain) (.ref C_NoCars)=some false)
  (kx_NoChain_NoChain:PySem.W.kitOne K (.ref C_NoChain) (.ref C_NoChain)=some true)
  (kx_NoChain_NoBound:PySem.W.kitOne K (.ref C_NoChain) (.ref C_NoBound)=some false)
  (kx_NoChain_NoText:PySem.W.kitOne K (.ref C_NoChain) (.ref C_NoText)=some false)
  (kx_NoChain_NoName:PySem.W.kitOne K (.ref C_NoChain) (.ref C_NoName)=some false)
  (kx_NoChain_StarError:PySem.W.kitOne K (.ref C_NoChain) (.ref C_StarError)=some true)
  (em_NoChain_StarError:ExcM K C_NoChain C_StarError true)
  (kib:PySem.W.kitOne K (.type "int") (.type "bool")=some false) :
  ∃ fd:FuncData,(∀ (s:Shared) (v:Value),BindsTo s fd ⟨[v],[]⟩ [("_law_script", v)])∧∀ base:Heap,K.In base→base.Ns mainGlobals mg→FnOk l.prog w K mg base CX0 9 fa fd ["_law_script"] (spLaw K):=by
 have F_is_whole:=fun_mk (st:=top 15) l0 c0 k0
 have b_is_whole:=F_is_whole.binds (ps:=["thing"]) fun _ _ _ _ _ _ us hl=>match us,hl with | [_],_=>rfl
 have m_is_whole:=PySem.W.mg_of X G a0
 have F_is_between:=fun_mk (st:=top 16) l1 c1 k1
 have b_is_between:=F_is_between.binds (ps:=["thing", "low", "high"]) fun _ _ _ _ _ _ us hl=>match us,hl with | [_,_,_],_=>rfl
 have m_is_between:=PySem.W.mg_of X G a1
 have F_plain:=fun_mk (st:=top 18) l2 c2 k2
 have b_plain:=F_plain.binds (ps:=["n"]) fun _ _ _ _ _ _ us hl=>match us,hl with | [_],_=>rfl
 have m_plain:=PySem.W.mg_of X G a2
 have F_great:=fun_mk (st:=top 19) l3 c3 k3
 have b_great:=F_great.binds (ps:=["n"]) fun _ _ _ _ _ _ us hl=>match us,hl with | [_],_=>rfl
 have m_great:=PySem.W.mg_of X G a3
 have F_then:=fun_mk (st:=top 20) l4 c4 k4
 have b_then:=F_then.binds (ps:=["one", "other"]) fun _ _ _ _ _ _ us hl=>match us,hl with | [_,_],_=>rfl
 have m_then:=PySem.W.mg_of X G a4
 have F_back:=fun_mk (st:=top 21) l5 c5 k5
 have b_back:=F_back.binds (ps:=["order"]) fun _ _ _ _ _ _ us hl=>match us,hl with | [_],_=>rfl
 have m_back:=PySem.W.mg_of X G a5
 have F_round_from:=fun_mk (st:=top 22) l6 c6 k6
 have b_round_from:=F_round_from.binds (ps:=["order", "first"]) fun _ _ _ _ _ _ us hl=>match us,hl with | [_,_],_=>rfl
 have m_round_from:=PySem.W.mg_of X G a6
 have F_rounds:=fun_mk (st:=top 23) l7 c7 k7
 have b_rounds:=F_rounds.binds (ps:=["order"]) fun _ _ _ _ _ _ us hl=>match us,hl with | [_],_=>rfl
 have m_rounds:=PySem.W.mg_of X G a7
 have F_check_rounds:=fun_mk (st:=top 24) l8 c8 k8
 have b_check_rounds:=F_check_rounds.binds (ps:=["n", "lists"]) fun _ _ _ _ _ _ us hl=>match us,hl with | [_,_],_=>rfl
 have m_check_rounds:=PySem.W.mg_of X G a8
 have F_made:=fun_mk (st:=top 25) l9 c9 k9
 have b_made:=F_made.binds (ps:=["n", "lists"]) fun _ _ _ _ _ _ us hl=>match us,hl with | [_,_],_=>rfl
 have m_made:=PySem.W.mg_of X G a9
 have F_exchanged:=fun_mk (st:=top 27) l10 c10 k10
 have b_exchanged:=F_exchanged.binds (ps:=["exchange", "thing"]) fun _ _ _ _ _ _ us hl=>match us,hl with | [_,_],_=>rfl
 have m_exchanged:=PySem.W.mg_of X G a10
 have F_led:=fun_mk (st:=top 28) l11 c11 k11
 have b_led:=F_led.binds (ps:=["n", "row"]) fun _ _ _ _ _ _ us hl=>match us,hl with | [_,_],_=>rfl
 have m_led:=PySem.W.mg_of X G a11
 have F_check_great:=fun_mk (st:=top 29) l12 c12 k12
 have b_check_great:=F_check_great.binds (ps:=["row"]) fun _ _ _ _ _ _ us hl=>match us,hl with | [_],_=>rfl
 have m_check_great:=PySem.W.mg_of X G a12
 have F_many_things:=fun_mk (st:=top 31) l13 c13 k13
 have b_many_things:=F_many_things.binds (ps:=["sharing"]) fun _ _ _ _ _ _ us hl=>match us,hl with | [_],_=>rfl
 have m_many_things:=PySem.W.mg_of X G a13
 have F_order_by:=fun_mk (st:=top 32) l14 c14 k14
 have b_order_by:=F_order_by.binds (ps:=["sharing"]) fun _ _ _ _ _ _ us hl=>match us,hl with | [_],_=>rfl
 have m_order_by:=PySem.W.mg_of X G a14
 have F_is_inside:=fun_mk (st:=top 33) l15 c15 k15
 have b_is_inside:=F_is_inside.binds (ps:=["part", "other"]) fun _ _ _ _ _ _ us hl=>match us,hl with | [_,_],_=>rfl
 have m_is_inside:=PySem.W.mg_of X G a15
 have F_within:=fun_mk (st:=top 34) l16 c16 k16
 have b_within:=F_within.binds (ps:=["one", "other"]) fun _ _ _ _ _ _ us hl=>match us,hl with | [_,_],_=>rfl
 have m_within:=PySem.W.mg_of X G a16
 have F_shared_by:=fun_mk (st:=top 35) l17 c17 k17
 have b_shared_by:=F_shared_by.binds (ps:=["order"]) fun _ _ _ _ _ _ us hl=>match us,hl with | [_],_=>rfl
 have m_shared_by:=PySem.W.mg_of X G a17
 have F_beginnings:=fun_mk (st:=top 36) l18 c18 k18
 have b_beginnings:=F_beginnings.binds (ps:=["row"]) fun _ _ _ _ _ _ us hl=>match us,hl with | [_],_=>rfl
 have m_beginnings:=PySem.W.mg_of X G a18
 have F_joins_two:=fun_mk (st:=top 37) l19 c19 k19
 have b_joins_two:=F_joins_two.binds (ps:=["one", "other"]) fun _ _ _ _ _ _ us hl=>match us,hl with | [_,_],_=>rfl
 have m_joins_two:=PySem.W.mg_of X G a19
 have F_is_chain:=fun_mk (st:=top 38) l20 c20 k20
 have b_is_chain:=F_is_chain.binds (ps:=["chain"]) fun _ _ _ _ _ _ us hl=>match us,hl with | [_],_=>rfl
 have m_is_chain:=PySem.W.mg_of X G a20
 have F_exchange_between:=fun_mk (st:=top 39) l21 c21 k21
 have b_exchange_between:=F_exchange_between.binds (ps:=["one", "other"]) fun _ _ _ _ _ _ us hl=>match us,hl with | [_,_],_=>rfl
 have m_exchange_between:=PySem.W.mg_of X G a21
 have F_row_of_chain:=fun_mk (st:=top 40) l22 c22 k22
 have b_row_of_chain:=F_row_of_chain.binds (ps:=["sharings"]) fun _ _ _ _ _ _ us hl=>match us,hl with | [_],_=>rfl
 have m_row_of_chain:=PySem.W.mg_of X G a22
 have F__law_cell:=fun_mk (st:=top 42) l23 c23 k23
 have b__law_cell:=F__law_cell.binds (ps:=["_law_script", "_law_k"]) fun _ _ _ _ _ _ us hl=>match us,hl with | [_,_],_=>rfl
 have m__law_cell:=PySem.W.mg_of X G a23
 have F__law_number:=fun_mk (st:=top 43) l24 c24 k24
 have b__law_number:=F__law_number.binds (ps:=["_law_script", "_law_k"]) fun _ _ _ _ _ _ us hl=>match us,hl with | [_,_],_=>rfl
 have m__law_number:=PySem.W.mg_of X G a24
 have F__law_great:=fun_mk (st:=top 44) l25 c25 k25
 have b__law_great:=F__law_great.binds (ps:=["_law_n"]) fun _ _ _ _ _ _ us hl=>match us,hl with | [_],_=>rfl
 have m__law_great:=PySem.W.mg_of X G a25
 have F__law_led:=fun_mk (st:=top 45) l26 c26 k26
 have b__law_led:=F__law_led.binds (ps:=["_law_n", "_law_row"]) fun _ _ _ _ _ _ us hl=>match us,hl with | [_,_],_=>rfl
 have m__law_led:=PySem.W.mg_of X G a26
 have F__law_tree:=fun_mk (st:=top 46) l27 c27 k27
 have b__law_tree:=F__law_tree.binds (ps:=["_law_number_here", "_law_many"]) fun _ _ _ _ _ _ us hl=>match us,hl with | [_,_],_=>rfl
 have m__law_tree:=PySem.W.mg_of X G a27
 have F__law_row_by:=fun_mk (st:=top 47) l28 c28 k28
 have b__law_row_by:=F__law_row_by.binds (ps:=["_law_elders"]) fun _ _ _ _ _ _ us hl=>match us,hl with | [_],_=>rfl
 have m__law_row_by:=PySem.W.mg_of X G a28
 have F__law_size:=fun_mk (st:=top 48) l29 c29 k29
 have b__law_size:=F__law_size.binds (ps:=["_law_number_here"]) fun _ _ _ _ _ _ us hl=>match us,hl with | [_],_=>rfl
 have m__law_size:=PySem.W.mg_of X G a29
 have F__law_rounds:=fun_mk (st:=top 49) l30 c30 k30
 have b__law_rounds:=F__law_rounds.binds (ps:=["_law_order"]) fun _ _ _ _ _ _ us hl=>match us,hl with | [_],_=>rfl
 have m__law_rounds:=PySem.W.mg_of X G a30
 have F__law_sharing:=fun_mk (st:=top 50) l31 c31 k31
 have b__law_sharing:=F__law_sharing.binds (ps:=["_law_number_here", "_law_n"]) fun _ _ _ _ _ _ us hl=>match us,hl with | [_,_],_=>rfl
 have m__law_sharing:=PySem.W.mg_of X G a31
 have F__law_owner:=fun_mk (st:=top 51) l32 c32 k32
 have b__law_owner:=F__law_owner.binds (ps:=["_law_sharing_here", "_law_thing"]) fun _ _ _ _ _ _ us hl=>match us,hl with | [_,_],_=>rfl
 have m__law_owner:=PySem.W.mg_of X G a32
 have F__law_kind:=fun_mk (st:=top 52) l33 c33 k33
 have b__law_kind:=F__law_kind.binds (ps:=["_law_e"]) fun _ _ _ _ _ _ us hl=>match us,hl with | [_],_=>rfl
 have m__law_kind:=PySem.W.mg_of X G a33
 have F__law_within:=fun_mk (st:=top 53) l34 c34 k34
 have b__law_within:=F__law_within.binds (ps:=["_law_one", "_law_other"]) fun _ _ _ _ _ _ us hl=>match us,hl with | [_,_],_=>rfl
 have m__law_within:=PySem.W.mg_of X G a34
 have F__law_is_chain:=fun_mk (st:=top 54) l35 c35 k35
 have b__law_is_chain:=F__law_is_chain.binds (ps:=["_law_chain", "_law_n"]) fun _ _ _ _ _ _ us hl=>match us,hl with | [_,_],_=>rfl
 have m__law_is_chain:=PySem.W.mg_of X G a35
 have F__law_spoilt:=fun_mk (st:=top 55) l36 c36 k36
 have b__law_spoilt:=F__law_spoilt.binds (ps:=["_law_chain", "_law_n", "_law_number_here"]) fun _ _ _ _ _ _ us hl=>match us,hl with | [_,_,_],_=>rfl
 have m__law_spoilt:=PySem.W.mg_of X G a36
 have F__law_asked:=fun_mk (st:=top 56) l37 c37 k37
 have b__law_asked:=F__law_asked.binds (ps:=["_law_way", "_law_thing"]) fun _ _ _ _ _ _ us hl=>match us,hl with | [_,_],_=>rfl
 have m__law_asked:=PySem.W.mg_of X G a37
 have F_law:=fun_mk (st:=top 57) l38 c38 k38
 have b_law:=F_law.binds (ps:=["_law_script"]) fun _ _ _ _ _ _ us hl=>match us,hl with | [_],_=>rfl
 have m_law:=PySem.W.mg_of X G a38
 have z_len:=PySem.W.mg_none_of X G z_len
 have z_abs:=PySem.W.mg_none_of X G z_abs
 have z_int:=PySem.W.mg_none_of X G z_int
 have z_all:=PySem.W.mg_none_of X G z_all
 have z_any:=PySem.W.mg_none_of X G z_any
 have z_isinstance:=PySem.W.mg_none_of X G z_isinstance
 have z_bool:=PySem.W.mg_none_of X G z_bool
 have z_tuple:=PySem.W.mg_none_of X G z_tuple
 have z_list:=PySem.W.mg_none_of X G z_list
 have z_range:=PySem.W.mg_none_of X G z_range
 have z_min:=PySem.W.mg_none_of X G z_min
 have z_max:=PySem.W.mg_none_of X G z_max
 have z_sorted:=PySem.W.mg_none_of X G z_sorted
 have z_set:=PySem.W.mg_none_of X G z_set
 have z_sum:=PySem.W.mg_none_of X G z_sum
 have z_zip:=PySem.W.mg_none_of X G z_zip
 have z_enumerate:=PySem.W.mg_none_of X G z_enumerate
 have z_ValueError:=PySem.W.mg_none_of X G z_ValueError
 have mc_Unlike:=PySem.W.mg_of X G ac_Unlike
 have mc_NoRounds:=PySem.W.mg_of X G ac_NoRounds
 have mc_Apart:=PySem.W.mg_of X G ac_Apart
 have mc_NoMove:=PySem.W.mg_of X G ac_NoMove
 have mc_NotLeast:=PySem.W.mg_of X G ac_NotLeast
 have mc_NotGreat:=PySem.W.mg_of X G ac_NotGreat
 have mc_NoTree:=PySem.W.mg_of X G ac_NoTree
 have mc_NoCars:=PySem.W.mg_of X G ac_NoCars
 have mc_NoChain:=PySem.W.mg_of X G ac_NoChain
 have mc_NoBound:=PySem.W.mg_of X G ac_NoBound
 have mc_NoText:=PySem.W.mg_of X G ac_NoText
 have mc_NoName:=PySem.W.mg_of X G ac_NoName
 have mc_StarError:=PySem.W.mg_of X G ac_StarError
 have e:=hfa.symm.trans m_law
 cases e
 refine ⟨PySem.W.fnOf "law" "law" (defArgs (top 57)) (defBody (top 57)) (defScope (top 57)) .none kV38 dc38 pm38 an38 cd38 ct38,fun s v=>.of_eq rfl,fun base _ _=>?_⟩
 have t0:TPurse mg:=⟨z_len,z_abs,z_int⟩
 have t1:T1 mg K:={ t0 with b_all:=z_all,b_isinstance:=z_isinstance,b_bool:=z_bool,b_tuple:=z_tuple,b_list:=z_list,b_range:=z_range,k_ib:=kib }
 have tcl:TCl mg ⟨C_Unlike,C_NoRounds,C_Apart,C_NoMove,C_NotLeast,C_NotGreat,C_NoTree,C_NoCars,C_NoChain,C_NoBound,C_NoText,C_NoName,C_StarError⟩:=⟨mc_Unlike,mc_NoRounds,mc_Apart,mc_NoMove,mc_NotLeast,mc_NotGreat,mc_NoTree,mc_NoCars,mc_NoChain,mc_NoBound,mc_NoText,mc_NoName,mc_StarError,z_isinstance,z_ValueError⟩
 have y1:Kin K ⟨C_Unlike,C_NoRounds,C_Apart,C_NoMove,C_NotLeast,C_NotGreat,C_NoTree,C_NoCars,C_NoChain,C_NoBound,C_NoText,C_NoName,C_StarError⟩ C_NotGreat "NotGreat" := ⟨ei_NotGreat,kv_NotGreat,⟨_,_,_,_,_,_,_,_,_,_,_,_,kx_NotGreat_Unlike,kx_NotGreat_NoRounds,kx_NotGreat_Apart,kx_NotGreat_NoMove,kx_NotGreat_NotLeast,kx_NotGreat_NotGreat,kx_NotGreat_NoTree,kx_NotGreat_NoCars,kx_NotGreat_NoChain,kx_NotGreat_NoBound,kx_NotGreat_NoText,kx_NotGreat_NoName,by decide +kernel⟩,by decide +kernel⟩
 have y2:Kin K ⟨C_Unlike,C_NoRounds,C_Apart,C_NoMove,C_NotLeast,C_NotGreat,C_NoTree,C_NoCars,C_NoChain,C_NoBound,C_NoText,C_NoName,C_StarError⟩ C_NoChain "NoChain" := ⟨ei_NoChain,kv_NoChain,⟨_,_,_,_,_,_,_,_,_,_,_,_,kx_NoChain_Unlike,kx_NoChain_NoRounds,kx_NoChain_Apart,kx_NoChain_NoMove,kx_NoChain_NotLeast,kx_NoChain_NotGreat,kx_NoChain_NoTree,kx_NoChain_NoCars,kx_NoChain_NoChain,kx_NoChain_NoBound,kx_NoChain_NoText,kx_NoChain_NoName,by decide +kernel⟩,by decide +kernel⟩
 have tnm:TNm l.prog w K mg base:={ t1 with f__law_cell:=⟨⟨_,_,ok_cell F__law_cell t1,m__law_cell,k23,b__law_cell⟩⟩ }
 have trb:TRb mg K:={ t1 with b_sorted:=z_sorted }
 have tb:TB l.prog w K mg base:={ t1 with f_is_whole:=⟨⟨_,_,ok_iw F_is_whole t1,m_is_whole,k0,b_is_whole⟩⟩ }
 have tc:TC l.prog w K mg base:={ t1 with f_is_between:=⟨⟨_,_,ok_bt F_is_between tb,m_is_between,k1,b_is_between⟩⟩ }
 have tm:TM l.prog w K mg base:={ t1 with b_enumerate:=z_enumerate,f_plain:=⟨⟨_,_,ok_plain F_plain t1,m_plain,k2,b_plain⟩⟩,f_check_rounds:=⟨⟨_,_,ok_check F_check_rounds tc,m_check_rounds,k8,b_check_rounds⟩⟩ }
 have tsh:TSh mg K:={ t1 with b_sum:=z_sum }
 have fmn:FnAt l.prog w K mg base "many_things" 1 ["sharing"] spMany:=⟨⟨_,_,ok_many F_many_things tsh,m_many_things,k13,b_many_things⟩⟩
 have tob:TOby l.prog w K mg base:={ t1 with f_many_things:=fmn,f_made:=⟨⟨_,_,ok_made F_made tm,m_made,k9,b_made⟩⟩ }
 have tbk:TBk mg K:={ t1 with b_enumerate:=z_enumerate }
 have twi:TWi l.prog w K mg base:={ t1 with b_any:=z_any,f_many_things:=fmn,f_is_inside:=⟨⟨_,_,ok_inside F_is_inside t1,m_is_inside,k15,b_is_inside⟩⟩ }
 have tjt:TJtG l.prog w K mg base:={ t1 with f_within:=⟨⟨_,_,ok_within F_within twi,m_within,k16,b_within⟩⟩ }
 have tsc:TIscG l.prog w K mg base:={ t1 with b_any:=z_any,b_zip:=z_zip,f_many_things:=fmn,f_joins_two:=⟨⟨_,_,ok_jtG F_joins_two tjt,m_joins_two,k19,b_joins_two⟩⟩ }
 have tex:TExbW l.prog w K mg base:={ t1 with b_enumerate:=z_enumerate,f_order_by:=⟨⟨_,_,ok_oby F_order_by tob,m_order_by,k14,b_order_by⟩⟩,f_back:=⟨⟨_,_,ok_back F_back tbk,m_back,k5,b_back⟩⟩,f_then:=⟨⟨_,_,ok_then F_then t1,m_then,k4,b_then⟩⟩ }
 have trc:TRocX l.prog w K mg base C_NoChain:={ t1 with b_zip:=z_zip,f_is_chain:=⟨⟨_,_,ok_iscG F_is_chain tsc,m_is_chain,k20,b_is_chain⟩⟩,f_exchange_between:=⟨⟨_,_,ok_exbW F_exchange_between tex,m_exchange_between,k21,b_exchange_between⟩⟩,c_NoChain:=mc_NoChain,x_NoChain:=xc_NoChain }
 have t2:T2 l.prog w K mg base:={ t1 with f_plain:=⟨⟨_,_,ok_plain F_plain t1,m_plain,k2,b_plain⟩⟩,f_exchanged:=⟨⟨_,_,ok_ex F_exchanged,m_exchanged,k10,b_exchanged⟩⟩ }
 have fled:FnAt l.prog w K mg base "led" 3 ["n", "row"] spLedA:=⟨⟨_,_,ok_ledA F_led t2,m_led,k11,b_led⟩⟩
 have tcg:TCgX l.prog w K mg base C_NotGreat:={ t1 with f_led:=fled,f_great:=⟨⟨_,_,ok_great F_great t1,m_great,k3,b_great⟩⟩,c_NotGreat:=mc_NotGreat,x_NotGreat:=xc_NotGreat }
 have tr0:TR0 l.prog w K mg base:={ t1 with b_min:=z_min,f_round_from:=⟨⟨_,_,ok_rf F_round_from,m_round_from,k6,b_round_from⟩⟩ }
 have tsb:TSb0 l.prog w K mg base:={ t1 with b_sorted:=z_sorted,f_rounds:=⟨⟨_,_,ok_rounds F_rounds tr0,m_rounds,k7,b_rounds⟩⟩ }
 have tbg:TBgX l.prog w K mg base C_NotGreat:={ t1 with f_check_great:=⟨⟨_,_,ok_chkGX F_check_great tcg,m_check_great,k12,b_check_great⟩⟩,f_shared_by:=⟨⟨_,_,ok_shb F_shared_by tsb,m_shared_by,k17,b_shared_by⟩⟩,f_led:=fled }
 have tkd:TKd mg ⟨C_Unlike,C_NoRounds,C_Apart,C_NoMove,C_NotLeast,C_NotGreat,C_NoTree,C_NoCars,C_NoChain,C_NoBound,C_NoText,C_NoName,C_StarError⟩:={ tcl with b_range:=z_range }
 have taq:TAq8 l.prog w K mg base ⟨C_Unlike,C_NoRounds,C_Apart,C_NoMove,C_NotLeast,C_NotGreat,C_NoTree,C_NoCars,C_NoChain,C_NoBound,C_NoText,C_NoName,C_StarError⟩:={ t1 with c_StarError:=mc_StarError,m1:=em_NotGreat_StarError,m2:=em_NoChain_StarError,y1:=y1,y2:=y2,f__law_kind:=⟨⟨_,_,ok_kind F__law_kind tkd,m__law_kind,k33,b__law_kind⟩⟩,f_beginnings:=⟨⟨_,_,ok_begX F_beginnings tbg,m_beginnings,k18,b_beginnings⟩⟩,f_row_of_chain:=⟨⟨_,_,ok_rocX F_row_of_chain trc,m_row_of_chain,k22,b_row_of_chain⟩⟩ }
 have tow:TOw mg K:={ t1 with b_enumerate:=z_enumerate }
 have tlw:TLw l.prog w K mg base:={ t1 with b_set:=z_set,f__law_owner:=⟨⟨_,_,ok_owner F__law_owner tow,m__law_owner,k32,b__law_owner⟩⟩ }
 have tli:TLic l.prog w K mg base:={ t1 with b_sum:=z_sum,f__law_within:=⟨⟨_,_,ok_lwithin F__law_within tlw,m__law_within,k34,b__law_within⟩⟩ }
 have tsp:TSp8 l.prog w K mg base:={ t1 with f__law_sharing:=⟨⟨_,_,ok_lsharing F__law_sharing t1,m__law_sharing,k31,b__law_sharing⟩⟩ }
 have tlr:TLr6 mg K:={ t1 with b_sorted:=z_sorted }
 have tl:TL l.prog w K mg base:={ t1 with
  b_min:=z_min
  b_max:=z_max
  f__law_number:=⟨⟨_,_,ok_number F__law_number tnm,m__law_number,k24,b__law_number⟩⟩
  f__law_size:=⟨⟨_,_,ok_size F__law_size,m__law_size,k29,b__law_size⟩⟩
  f__law_tree:=⟨⟨_,_,ok_ltree F__law_tree t1,m__law_tree,k27,b__law_tree⟩⟩
  f__law_led:=⟨⟨_,_,ok_lled2 F__law_led t1,m__law_led,k26,b__law_led⟩⟩
  f__law_great:=⟨⟨_,_,ok_lgreat F__law_great t1,m__law_great,k25,b__law_great⟩⟩
  f__law_rounds:=⟨⟨_,_,ok_lr6 F__law_rounds tlr,m__law_rounds,k30,b__law_rounds⟩⟩
  f__law_row_by:=⟨⟨_,_,ok_rowby F__law_row_by trb,m__law_row_by,k28,b__law_row_by⟩⟩
  f__law_spoilt:=⟨⟨_,_,ok_sp8 F__law_spoilt tsp,m__law_spoilt,k36,b__law_spoilt⟩⟩
  f__law_is_chain:=⟨⟨_,_,ok_lic F__law_is_chain tli,m__law_is_chain,k35,b__law_is_chain⟩⟩
  f__law_asked:=⟨⟨_,_,ok_aq8 F__law_asked taq,m__law_asked,k37,b__law_asked⟩⟩ }
 exact ok_law F_law tl
theorem walk {l:PySem.W.OpenLaw} {q:Program} {loose:List Str} {XP:(Str→Option Value)→Heap→Prop} {YP:World→Heap→Prop} {d:DefRec} {K:Params→PySem.W.Frag} (hn:l.most=some 63) (hdf:d.params.defaults=[])
  (hY : ∀ (w:World) (h:Heap),YP w h→(K w.params).In h)
  (F : ∀ (w:World) (mg:Str→Option Value) (fa:Addr) (h:Heap),(K w.params).In h→h.Ns mainGlobals mg→mg d.name=some (.ref fa) →
   ∃ fd:FuncData,(∀ (s:Shared) (u:Value),BindsTo s fd ⟨[u],[]⟩ [("_law_script", u)])∧∀ base:Heap,(K w.params).In base→base.Ns mainGlobals mg→FnOk l.prog w (K w.params) mg base CX0 9 fa fd ["_law_script"] (spLaw (K w.params))) :
  PySem.W.WalkO q loose XP YP l.row.toRowW d [] (fun f vs=>PySem.call f vs) :=
 L2.walk_of (n:=63) (k:=9) (x := "_law_script") (CX:=fun _=>CX0) (sp:=fun w=>spLaw (K w.params)) hn (by decide) hdf ⟨rfl,rfl,by decide,by decide⟩ hY F (fun _ _ a ns hl _ hS=>⟨a,ns,rfl,hS,hl,fun _=>rfl⟩) fun _ _ _ _ _ z=>z
end Sw
def PySem.W.Fast.tw7299529616813391929:Nat:=0
def PySem.W.Fast.tw1354985646604510783:Nat:=0
def PySem.W.Fast.tw16197444959574982820:Nat:=0
def PySem.W.Fast.tw5469506951955682016:Nat:=0
def PySem.W.Fast.tw13072192840793678948:Nat:=0
def PySem.W.Fast.tw3546370732386312635:Nat:=0
def PySem.W.Fast.tw15562185716531472189:Nat:=0
def PySem.W.Fast.tw8179055537038988870:Nat:=0
def PySem.W.Fast.tw15218597703880965606:Nat:=0
def PySem.W.Fast.tw8172147158817786038:Nat:=0
def PySem.W.Fast.tw13675728598229141847:Nat:=0
def PySem.W.Fast.tw9947419998761611622:Nat:=0
def PySem.W.Fast.tw8210363882163933207:Nat:=0
def PySem.W.Fast.tw13506750908162004801:Nat:=0
def PySem.W.Fast.tw15951235142152236775:Nat:=0
def PySem.W.Fast.tw4649041325975678914:Nat:=0
def PySem.W.Fast.tw10377176343434590986:Nat:=0
def PySem.W.Fast.tw15321298961242764146:Nat:=0
def PySem.W.Fast.tw1670262500300994252:Nat:=0
def PySem.W.Fast.tw11753793632761940047:Nat:=0
def PySem.W.Fast.tw14351002960662958201:Nat:=0
def PySem.W.Fast.tw11296157862701045232:Nat:=0
def PySem.W.Fast.tw16707112178633730167:Nat:=0
def PySem.W.Fast.tw15563094484057123326:Nat:=0
def PySem.W.Fast.tw5104916709754325279:Nat:=0
def PySem.W.Fast.tw15002558063130831163:Nat:=0
def PySem.W.Fast.tw5000068606535962981:Nat:=0
def PySem.W.Fast.tw13042374815090169075:Nat:=0
def PySem.W.Fast.tw8590874723759314840:Nat:=0
def PySem.W.Fast.tw10083366472876381944:Nat:=0
def PySem.W.Fast.tw17136603941765220156:Nat:=0
def PySem.W.Fast.tw2963320755505218374:Nat:=0
def PySem.W.Fast.tw14670394377126782993:Nat:=0
def PySem.W.Fast.tw3239104721472745853:Nat:=0
def PySem.W.Fast.tw11487136179104015280:Nat:=0
def PySem.W.Fast.tw9762089587382361796:Nat:=0
def PySem.W.Fast.tw15790297356802424684:Nat:=0
def PySem.W.Fast.tw2553980477831420301:Nat:=0
def PySem.W.Fast.tw13840969523233718775:Nat:=0
def PySem.W.Fast.tw9904920195356012993:Nat:=0
open PySem PySem.W PyProof.Rows
set_option maxRecDepth 100000 in
set_option maxHeartbeats 0 in
theorem PySem.Challenge.cw_swapstars_k38_chains_refused_holds : PySem.Challenge.rw_swapstars_k38_chains_refused.Holds := by
 w_on; o_law; k_head; (case hw=>w_witness2)
 k_fill
 refine Sw.walk (l:=PySem.Challenge.rw_swapstars_k38_chains_refused) rfl rfl (fun w h Y=>PySem.W.kIn_of Y) ?F
 case F =>
  intro w mg fa h KX G hmg
  refine' Sw.all_mk KX G hmg ?a0 ?l0 ?c0 ?k0 ?a1 ?l1 ?c1 ?k1 ?a2 ?l2 ?c2 ?k2 ?a3 ?l3 ?c3 ?k3 ?a4 ?l4 ?c4 ?k4 ?a5 ?l5 ?c5 ?k5 ?a6 ?l6 ?c6 ?k6 ?a7 ?l7 ?c7 ?k7 ?a8 ?l8 ?c8 ?k8 ?a9 ?l9 ?c9 ?k9 ?a10 ?l10 ?c10 ?k10 ?a11 ?l11 ?c11 ?k11 ?a12 ?l12 ?c12 ?k12 ?a13 ?l13 ?c13 ?k13 ?a14 ?l14 ?c14 ?k14 ?a15 ?l15 ?c15 ?k15 ?a16 ?l16 ?c16 ?k16 ?a17 ?l17 ?c17 ?k17 ?a18 ?l18 ?c18 ?k18 ?a19 ?l19 ?c19 ?k19 ?a20 ?l20 ?c20 ?k20 ?a21 ?l21 ?c21 ?k21 ?a22 ?l22 ?c22 ?k22 ?a23 ?l23 ?c23 ?k23 ?a24 ?l24 ?c24 ?k24 ?a25 ?l25 ?c25 ?k25 ?a26 ?l26 ?c26 ?k26 ?a27 ?l27 ?c27 ?k27 ?a28 ?l28 ?c28 ?k28 ?a29 ?l29 ?c29 ?k29 ?a30 ?l30 ?c30 ?k30 ?a31 ?l31 ?c31 ?k31 ?a32 ?l32 ?c32 ?k32 ?a33 ?l33 ?c33 ?k33 ?a34 ?l34 ?c34 ?k34 ?a35 ?l35 ?c35 ?k35 ?a36 ?l36 ?c36 ?k36 ?a37 ?l37 ?c37 ?k37 ?a38 ?l38 ?c38 ?k38 ?z_len ?z_abs ?z_int ?z_all ?z_any ?z_isinstance ?z_bool ?z_tuple ?z_list ?z_range ?z_min ?z_max ?z_sorted ?z_set ?z_sum ?z_zip ?z_enumerate ?z_ValueError ?ac_Unlike ?ac_NoRounds ?ac_Apart ?ac_NoMove ?ac_NotLeast ?ac_NotGreat ?ac_NoTree ?ac_NoCars ?ac_NoChain ?ac_NoBound ?ac_NoText ?ac_NoName ?ac_StarError ?xc_NotGreat ?ei_NotGreat ?kv_NotGreat ?kx_NotGreat_Unlike ?kx_NotGreat_NoRounds ?kx_NotGreat_Apart ?kx_NotGreat_NoMove ?kx_NotGreat_NotLeast ?kx_NotGreat_NotGreat ?kx_NotGreat_NoTree ?kx_NotGreat_NoCars ?kx_NotGreat_NoChain ?kx_NotGreat_NoBound ?kx_NotGreat_NoText ?kx_NotGreat_NoName ?kx_NotGreat_StarError ?em_NotGreat_StarError ?xc_NoChain ?ei_NoChain ?kv_NoChain ?kx_NoChain_Unlike ?kx_NoChain_NoRounds ?kx_NoChain_Apart ?kx_NoChain_NoMove ?kx_NoChain_NotLeast ?kx_NoChain_NotGreat ?kx_NoChain_NoTree ?kx_NoChain_NoCars ?kx_NoChain_NoChain ?kx_NoChain_NoBound ?kx_NoChain_NoText ?kx_NoChain_NoName ?kx_NoChain_StarError ?em_NoChain_StarError  ?kib
  (case a0=>k_is); (case l0=>k_is); (case c0=>k_is); (case k0=>k_is)
  (case a1=>k_is); (case l1=>k_is); (case c1=>k_is); (case k1=>k_is)
  (case a2=>k_is); (case l2=>k_is); (case c2=>k_is); (case k2=>k_is)
  (case a3=>k_is); (case l3=>k_is); (case c3=>k_is); (case k3=>k_is)
  (case a4=>k_is); (case l4=>k_is); (case c4=>k_is); (case k4=>k_is)
  (case a5=>k_is); (case l5=>k_is); (case c5=>k_is); (case k5=>k_is)
  (case a6=>k_is); (case l6=>k_is); (case c6=>k_is); (case k6=>k_is)
  (case a7=>k_is); (case l7=>k_is); (case c7=>k_is); (case k7=>k_is)
  (case a8=>k_is); (case l8=>k_is); (case c8=>k_is); (case k8=>k_is)
  (case a9=>k_is); (case l9=>k_is); (case c9=>k_is); (case k9=>k_is)
  (case a10=>k_is); (case l10=>k_is); (case c10=>k_is); (case k10=>k_is)
  (case a11=>k_is); (case l11=>k_is); (case c11=>k_is); (case k11=>k_is)
  (case a12=>k_is); (case l12=>k_is); (case c12=>k_is); (case k12=>k_is)
  (case a13=>k_is); (case l13=>k_is); (case c13=>k_is); (case k13=>k_is)
  (case a14=>k_is); (case l14=>k_is); (case c14=>k_is); (case k14=>k_is)
  (case a15=>k_is); (case l15=>k_is); (case c15=>k_is); (case k15=>k_is)
  (case a16=>k_is); (case l16=>k_is); (case c16=>k_is); (case k16=>k_is)
  (case a17=>k_is); (case l17=>k_is); (case c17=>k_is); (case k17=>k_is)
  (case a18=>k_is); (case l18=>k_is); (case c18=>k_is); (case k18=>k_is)
  (case a19=>k_is); (case l19=>k_is); (case c19=>k_is); (case k19=>k_is)
  (case a20=>k_is); (case l20=>k_is); (case c20=>k_is); (case k20=>k_is)
  (case a21=>k_is); (case l21=>k_is); (case c21=>k_is); (case k21=>k_is)
  (case a22=>k_is); (case l22=>k_is); (case c22=>k_is); (case k22=>k_is)
  (case a23=>k_is); (case l23=>k_is); (case c23=>k_is); (case k23=>k_is)
  (case a24=>k_is); (case l24=>k_is); (case c24=>k_is); (case k24=>k_is)
  (case a25=>k_is); (case l25=>k_is); (case c25=>k_is); (case k25=>k_is)
  (case a26=>k_is); (case l26=>k_is); (case c26=>k_is); (case k26=>k_is)
  (case a27=>k_is); (case l27=>k_is); (case c27=>k_is); (case k27=>k_is)
  (case a28=>k_is); (case l28=>k_is); (case c28=>k_is); (case k28=>k_is)
  (case a29=>k_is); (case l29=>k_is); (case c29=>k_is); (case k29=>k_is)
  (case a30=>k_is); (case l30=>k_is); (case c30=>k_is); (case k30=>k_is)
  (case a31=>k_is); (case l31=>k_is); (case c31=>k_is); (case k31=>k_is)
  (case a32=>k_is); (case l32=>k_is); (case c32=>k_is); (case k32=>k_is)
  (case a33=>k_is); (case l33=>k_is); (case c33=>k_is); (case k33=>k_is)
  (case a34=>k_is); (case l34=>k_is); (case c34=>k_is); (case k34=>k_is)
  (case a35=>k_is); (case l35=>k_is); (case c35=>k_is); (case k35=>k_is)
  (case a36=>k_is); (case l36=>k_is); (case c36=>k_is); (case k36=>k_is)
  (case a37=>k_is); (case l37=>k_is); (case c37=>k_is); (case k37=>k_is)
  (case a38=>k_is); (case l38=>k_is); (case c38=>k_is); (case k38=>k_is)
  (case z_len=>k_is); (case z_abs=>k_is); (case z_int=>k_is); (case z_all=>k_is); (case z_any=>k_is); (case z_isinstance=>k_is); (case z_bool=>k_is); (case z_tuple=>k_is); (case z_list=>k_is); (case z_range=>k_is); (case z_min=>k_is); (case z_max=>k_is); (case z_sorted=>k_is); (case z_set=>k_is); (case z_sum=>k_is); (case z_zip=>k_is); (case z_enumerate=>k_is); (case z_ValueError=>k_is)
  (case ac_Unlike=>k_is)
  (case ac_NoRounds=>k_is)
  (case ac_Apart=>k_is)
  (case ac_NoMove=>k_is)
  (case ac_NotLeast=>k_is)
  (case ac_NotGreat=>k_is)
  (case ac_NoTree=>k_is)
  (case ac_NoCars=>k_is)
  (case ac_NoChain=>k_is)
  (case ac_NoBound=>k_is)
  (case ac_NoText=>k_is)
  (case ac_NoName=>k_is)
  (case ac_StarError=>k_is)
  (case xc_NotGreat=>kernel_rfl)
  (case ei_NotGreat=>exact ⟨by k_is,by k_is,by k_is,by k_is,by k_is,by k_is,by k_is,by kernel_rfl⟩)
  (case kv_NotGreat=>kit_is)
  (case kx_NotGreat_Unlike=>kit_is)
  (case kx_NotGreat_NoRounds=>kit_is)
  (case kx_NotGreat_Apart=>kit_is)
  (case kx_NotGreat_NoMove=>kit_is)
  (case kx_NotGreat_NotLeast=>kit_is)
  (case kx_NotGreat_NotGreat=>kit_is)
  (case kx_NotGreat_NoTree=>kit_is)
  (case kx_NotGreat_NoCars=>kit_is)
  (case kx_NotGreat_NoChain=>kit_is)
  (case kx_NotGreat_NoBound=>kit_is)
  (case kx_NotGreat_NoText=>kit_is)
  (case kx_NotGreat_NoName=>kit_is)
  (case kx_NotGreat_StarError=>kit_is)
  (case em_NotGreat_StarError=>exact ⟨by k_is,by kernel_rfl,by k_is,by k_is⟩)
  (case xc_NoChain=>kernel_rfl)
  (case ei_NoChain=>exact ⟨by k_is,by k_is,by k_is,by k_is,by k_is,by k_is,by k_is,by kernel_rfl⟩)
  (case kv_NoChain=>kit_is)
  (case kx_NoChain_Unlike=>kit_is)
  (case kx_NoChain_NoRounds=>kit_is)
  (case kx_NoChain_Apart=>kit_is)
  (case kx_NoChain_NoMove=>kit_is)
  (case kx_NoChain_NotLeast=>kit_is)
  (case kx_NoChain_NotGreat=>kit_is)
  (case kx_NoChain_NoTree=>kit_is)
  (case kx_NoChain_NoCars=>kit_is)
  (case kx_NoChain_NoChain=>kit_is)
  (case kx_NoChain_NoBound=>kit_is)
  (case kx_NoChain_NoText=>kit_is)
  (case kx_NoChain_NoName=>kit_is)
  (case kx_NoChain_StarError=>kit_is)
  (case em_NoChain_StarError=>exact ⟨by k_is,by kernel_rfl,by k_is,by k_is⟩)
  (case kib=>exact L2.kit_int_bool _)
