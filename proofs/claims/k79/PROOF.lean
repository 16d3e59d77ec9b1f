import PyProof.Rows.All
import Wide.All
import OpenK.AllK
import Wide.FinOn
import Lean
import PyProof.EqAt
import PyProof.EqKinds
import PyProof.TupleCall
import KE.KIntText
import PyProof.StrBlockH
import PyProof.StrLawsTight
import PyProof.StrLawsReplace
import PyProof.StrLawsJoin
import PyProof.StrLawsNeg
import KE.LcSums
import PyProof.ZipIter
import PyProof.Draws
import PyProof.ToksMono
import PyProof.StrReplace2
import KE.KSortAsk
import KE.KItemsList
import KE.KRevIter
import PyProof.DictWalks
import PySem.Challenge.RW_swapstars_k79_a_desk_refuses
open PySem.Str renaming ofString→Pd
open List renaming length_map→Pe
open List renaming getElem?_map→Pf
open List renaming length_append→Pg
open List renaming getElem?_eq_getElem→Ph
open List renaming map_append→Pj
open List renaming length_cons→Pl
open List renaming map_cons→Pm
open List renaming length_take→Pn
open List renaming mem_cons→Po
open List renaming map_map→Pp
open List renaming getD_eq_getElem?_getD→Pq
open List renaming mem_of_getElem?→Pr
open List renaming mem_cons_self→Pt
open List renaming mem_cons_of_mem→Pu
open List renaming take_of_length_le→Pw
open List renaming mem_append_right→Px
open List renaming mem_append_left→Py
open List renaming size_toArray→Pz
open List renaming not_mem_nil→PB
open List renaming append_nil→PD
open List renaming append_assoc→PF
open List renaming take_succ→PJ
open Nat renaming le_refl→PK
open Nat renaming lt_of_lt_of_le→PL
open Nat renaming ne_of_lt→PM
open Nat renaming le_trans→PN
open Nat renaming zero_le→PQ
open Bool renaming false_ne_true→PR
open Option.some renaming inj→PU
open Classical renaming byContradiction→PV
open PySem renaming Value→PX
open PySem renaming Addr→PY
open PySem renaming Shared→PZ
open PySem renaming Program→P0
open PySem renaming World→P4
open PySem renaming Around→P5
open PySem renaming sizeLine→P6
open PySem renaming mainGlobals→P7
open PySem renaming wpAny_bind→P8
open PySem renaming wpAny_pure→P9
open PySem renaming wpAny_mono→Qa
open PySem renaming starEach→Qb
open PySem renaming FuncData→Qc
open PySem renaming Heap→Qd
open PySem renaming backTo→Qe
open PySem renaming wpAny→Qf
open PySem renaming NameKind→Qh
open PySem renaming Builtin→Qi
set_option Elab.async false
set_option linter.all false
set_option maxRecDepth 100000
set_option maxHeartbeats 8000000
namespace L2
open PySem PySem.Spec PyProof.Rows
abbrev Key:=Sum Int Str
def qc:Key->PX->Bool
 | .inl k,v=>PX.isInt k v
 | .inr x,v=>PX.isStrOf x v
def ND(w:P4):Key->Int
 | .inl k=>hashInt k
 | .inr x=>hashStr w x
theorem bQ:∀{k:Key}{v:PX},qc k v=true->(∃i t,k=Sum.inl i/\v=PX.int i t)\/(∃x t,k=Sum.inr x/\v=PX.str x t)
 | .inl i,v,h=>by
  obtain⟨t,e⟩:=PX.isInt_shape (k:=i) (v:=v) h;exact .inl ⟨i,t,rfl,e⟩
 | .inr x,v,h=>by
  obtain⟨t,e⟩:=PX.isStrOf_shape (x:=x) (v:=v) h;exact .inr ⟨x,t,rfl,e⟩
theorem Dp(i:Int)(t:Tok):qc (.inl i) (.int i t)=true:=by simp[qc,PX.isInt]
theorem Cs(x:Str)(t:Tok):qc (.inr x) (.str x t)=true:=by simp[qc,PX.isStrOf]
theorem Kn(a b:Int):decide ((Sum.inl a:Key)=Sum.inl b)=(a==b):=by
 by_cases e:a=b
 .subst e;simp
 .have h:¬(Sum.inl a:Key)=Sum.inl b:=fun q=>e (Sum.inl.inj q)
  rw[decide_eq_false h];exact(beq_eq_false_iff_ne.mpr e).symm
theorem KN(a b:Str):decide ((Sum.inr a:Key)=Sum.inr b)=decide (a=b):=by
 by_cases e:a=b
 .subst e;simp
 .have h:¬(Sum.inr a:Key)=Sum.inr b:=fun q=>e (Sum.inr.inj q)
  rw[decide_eq_false h,decide_eq_false e]
theorem Ki(a:Int)(b:Str):decide ((Sum.inl a:Key)=Sum.inr b)=false:=decide_eq_false (fun q=>nomatch q)
theorem KJ(a:Str)(b:Int):decide ((Sum.inr a:Key)=Sum.inl b)=false:=decide_eq_false (fun q=>nomatch q)
def bB(prog:P0)(w:P4):PySem.KeyKind prog w Key where
 is:=qc
 hash:=ND w
 inj:=fun v a b ha hb=>by
  rcases bQ ha with⟨i,t,rfl,rfl⟩|⟨x,t,rfl,rfl⟩
  .rcases bQ hb with⟨j,u,rfl,e⟩|⟨y,u,rfl,e⟩
   .injection e with e1 _;rw[e1]
   .exact nomatch e
  .rcases bQ hb with⟨j,u,rfl,e⟩|⟨y,u,rfl,e⟩
   .exact nomatch e
   .injection e with e1 _;rw[e1]
 byValue:=fun k v h=>by
  rcases bQ h with⟨i,t,rfl,rfl⟩|⟨x,t,rfl,rfl⟩<;>rfl
 pyHash:=fun hv h=>by
  rcases bQ hv with⟨i,t,rfl,rfl⟩|⟨x,t,rfl,rfl⟩
  .exact wpAny_pyHash_int h
  .exact wpAny_pyHash_str h
 eqBool:=fun hu hv h=>by
  rcases bQ hu with⟨i,t,rfl,rfl⟩|⟨x,t,rfl,rfl⟩
  .rcases bQ hv with⟨j,u,rfl,rfl⟩|⟨y,u,rfl,rfl⟩
   .rw[Kn]at h;exact wpAny_eqBool_int h
   .rw[Ki]at h;exact SeqAt.EqAt.int_str i t y u _ _ _ _ h
  .rcases bQ hv with⟨j,u,rfl,rfl⟩|⟨y,u,rfl,rfl⟩
   .rw[KJ]at h;exact SeqAt.EqAt.str_int x t j u _ _ _ _ h
   .rw[KN]at h;exact wpAny_eqBool_str h
 «strs»:=fun k x t v h=>by
  rcases bQ h with⟨i,u,rfl,e⟩|⟨y,u,rfl,e⟩
  .exact nomatch e
  .injection e with e1 _
   subst e1;cases v<;>rfl
theorem AF(prog:P0)(w:P4)(k:Key)(v:PX):(bB prog w).is k v=qc k v:=rfl
theorem yc(prog:P0)(w:P4)(i:Int)(t:Tok):(bB prog w).is (.inl i) (.int i t)=true:=Dp i t
theorem yu(prog:P0)(w:P4)(x:Str)(t:Tok):(bB prog w).is (.inr x) (.str x t)=true:=Cs x t
inductive V where
 |cE|bl (b:Bool)|int (i:Int)|str (x:Str)|byt (b:Array UInt8)|tM (b:UInt64)|ref (a:PY)|ty (n:String)
 deriving DecidableEq
def RelV:V->PX->Prop
 | .cE,u=>u=PX.none
 | .bl b,u=>u=PX.bool b
 | .int i,u=>∃t,u=PX.int i t
 | .str x,u=>∃t,u=PX.str x t
 | .byt b,u=>∃t,u=PX.bytes b t
 | .tM b,u=>∃t,u=PX.float b t
 | .ref a,u=>u=PX.ref a
 | .ty n,u=>u=PX.type n
abbrev Vals:List V->List PX->Prop:=Paired RelV
theorem Vals.length {xs:List V}{us:List PX}(r:Vals xs us):xs.length=us.length:=Paired.length r
theorem Vals.get:∀{xs:List V}{us:List PX}{i:Nat}{x:V},Vals xs us->xs[i]?=some x->∃u,us[i]?=some u/\RelV x u
 |_,_,_,_,.nil,e=>by simp at e
 |_,_,0,_,.cons r _,e=>by simp at e;subst e;exact⟨_,rfl,r⟩
 |_,_,i+1,x,.cons _ t,e=>by
  obtain⟨u,h1,h2⟩:=Vals.get (i:=i) (x:=x) t (by simpa using e);exact⟨u,by simpa using h1,h2⟩
theorem Vals.set {x:V}{u:PX}(r:RelV x u):∀{xs:List V}{us:List PX}(i:Nat),Vals xs us->Vals (xs.set i x) (us.set i u)
 |_,_,_,.nil=> .nil
 |_,_,0,.cons _ t=> .cons r t
 |_,_,i+1,.cons q t=> .cons q (Vals.set r i t)
theorem Vals.append:∀{xs ys:List V}{us ws:List PX},Vals xs us->Vals ys ws->Vals (xs++ys) (us++ws)
 |_,_,_,_,.nil,s=>s
 |_,_,_,_,.cons r t,s=> .cons r (Vals.append t s)
theorem Vals.take:∀{xs:List V}{us:List PX}(n:Nat),Vals xs us->Vals (xs.take n) (us.take n)
 |_,_,0,_=> .nil
 |_,_,_+1,.nil=> .nil
 |_,_,n+1,.cons r t=> .cons r (Vals.take n t)
theorem Vals.drop:∀{xs:List V}{us:List PX}(n:Nat),Vals xs us->Vals (xs.drop n) (us.drop n)
 |_,_,0,r=>r
 |_,_,_+1,.nil=> .nil
 |_,_,n+1,.cons _ t=>Vals.drop n t
def ji:Option V->Option PX->Prop
 |some v,some u=>RelV v u
 |none,none=>True
 |_,_=>False
def KV{κ:Type}:List (κ×V)->List (κ×PX)->Prop:=Paired fun(p:κ×V)(q:κ×PX)=>p.1=q.1/\RelV p.2 q.2
def kV:Key->V
 | .inl i=> .int i
 | .inr x=> .str x
inductive HO where
 |lst (xs:List V)
 |tup (xs:List V)
 |dK (kvs:List (Key×V))|dT (kvs:List (List Key×V))
 |set (S:Int->Bool) (n:Nat)
 |ins (C dx:PY) (fs:List (Str×V))
 |own (x:PY)
 |xd (fs:List (Str×V))
 |met (f x:PY)
 |w9 (lo hi:Int)
 |mL (o:Obj) (u:HO)
 |Jx (ps:Array PX)
 |ext (φ:Qd->Prop)
abbrev Hp:=PY->Option HO
def upd(H:Hp)(a:PY)(o:HO):Hp:=fun b=>if b=a then some o else H b
theorem af{H:Hp}{a:PY}{o:HO}:upd H a o a=some o:=by unfold upd;rw[if_pos rfl]
theorem ao{H:Hp}{a b:PY}{o:HO}(h:b≠a):upd H a o b=H b:=by unfold upd;rw[if_neg h]
theorem HQ{H:Hp}{a:PY}{o u:HO}:upd (upd H a o) a u=upd H a u:=by
 funext b;unfold upd;split<;>rfl
theorem Ga{H:Hp}{a b:PY}{o u:HO}(h:H a=some o)(h':H b=some u)(d:o≠u):a≠b:=by
 intro e;subst e;rw[h]at h';exact d (PU h')
theorem au{H:Hp}{a b:PY}{o:HO}(h:H a=some o)(h':H b=none):a≠b:=by
 intro e;subst e;rw[h]at h';cases h'
section
variable(P:P0)(w:P4)
def bF(H:Hp)(h:Qd)(a:PY):HO->Prop
 | .lst xs=>xs.length<=P6/\∃(its:List PX)(n:Nat),Vals xs its/\h.get? a=some {cls:= .type "list",data:= .seq its.toArray n}
 | .tup xs=>xs.length<=P6/\∃its:List PX,Vals xs its/\IsTup h a its.toArray
 | .dK kvs=>kvs.length<=P6/\(a==sysModules)=false/\∃vs,KV kvs vs/\h.DictOf (bB P w) a vs
 | .dT kvs=>kvs.length<=P6/\(a==sysModules)=false/\∃xs:List (List Key×PY×PX),
   Paired (fun(p:List Key×V)(q:List Key×PY×PX)=>p.1=q.1/\H q.2.1=some (.tup (p.1.map kV))/\RelV p.2 q.2.2) kvs xs/\
   ∃o es ep,h.get? a=some o/\o.ExactDict/\o.data= .dict es ep/\es.toList=xs.map (entryOfKey (tupleKind (bB P w)))/\(xs.map (·.1)).Nodup
 | .set S n=>h.SetOf (intKind P w) a S n
 | .ins C dx fs=>H dx=some (.own a)/\fs.length<=1000/\dx≠a/\h.get? a=some (W.instObj C dx)/\
   ∃mA,h.Ns1 dx mA/\(∀f,ji (fs.lookup f) (mA f))/\PySem.Within mA (fs.map (·.1))
 | .own _=>∃o,h.get? a=some o
 | .xd fs=>∃mA,h.Ns1 a mA/\∀f,ji (fs.lookup f) (mA f)
 | .w9 lo hi=>∃t u v,h.get? a=some {cls:= .type "range",data:= .fields #[.int lo t,.int hi u,.int 1 v]}
 | .mL o u=>h.get? a=some o/\bF H h a u
 | .Jx ps=>h.get? a=some {cls:= .none,data:= .fields ps}
 | .met f x=>h.get? a=some (W.methodObj (.ref f) (.ref x))
 | .ext φ=>φ h/\(∃o,h.get? a=some o)/\∀h1 h2:Qd,φ h1->(∀o,h1.get? a=some o->h2.get? a=some o)->φ h2
def ma(H:Hp)(h:Qd):Prop:=∀a o,H a=some o->bF P w H h a o
end
section
variable{P:P0}{w:P4}{H H':Hp}{h h':Qd}{a:PY}{o:HO}
theorem bF.lt (x:bF P w H h a o):a<h.objs.size:=by
 cases o with
 |lst xs=>obtain⟨_,_,_,_,e⟩:=x;exact Qd.lt_size e
 |tup xs=>obtain⟨_,_,_,p⟩:=x;exact p.lt
 |dK kvs=>obtain⟨_,_,_,_,o,_,_,e,_⟩:=x;exact Qd.lt_size e
 |dT kvs=>obtain⟨_,_,_,_,o,_,_,e,_⟩:=x;exact Qd.lt_size e
 |set S n=>obtain⟨o,_,_,_,e,_⟩:=x;exact Qd.lt_size e
 |ins C dx fs=>obtain⟨_,_,_,e,_⟩:=x;exact Qd.lt_size e
 |own y=>obtain⟨_,e⟩:=x;exact Qd.lt_size e
 |xd fs=>obtain⟨_,⟨_,_,_,e,_⟩,_⟩:=x;exact Qd.lt_size e
 |w9 lo hi=>obtain⟨_,_,_,e⟩:=x;exact Qd.lt_size e
 |mL ob u=>obtain⟨e,_⟩:=x;exact Qd.lt_size e
 |Jx ps=>exact Qd.lt_size (show h.get? a=some _ from x)
 |met f y=>exact Qd.lt_size (show h.get? a=some _ from x)
 |ext φ=>obtain⟨_,⟨_,e⟩,_⟩:=x;exact Qd.lt_size e
theorem Paired.Ao {α β:Type}{F G:α->β->Prop}:∀{l₁:List α}{l₂:List β},Paired F l₁ l₂->(∀a b,F a b->G a b)->Paired G l₁ l₂
 |_,_,.nil,_=> .nil
 |_,_,.cons r t,f=> .cons (f _ _ r) (Paired.Ao t f)
theorem bF.kg (x:bF P w H h a o)(k:∀b u,(b=a\/H b=some (.own a))->h.get? b=some u->h'.get? b=some u)
  (ho:∀b,H b=some (.own a)->H' b=some (.own a)) (ht:∀b xs,H b=some (.tup xs)->H' b=some (.tup xs)):bF P w H' h' a o:=by
 induction o with
 |lst xs=>obtain⟨z,its,n,r,e⟩:=x;exact⟨z,its,n,r,k _ _ (.inl rfl) e⟩
 |tup xs=>obtain⟨z,its,r,ob,e,c⟩:=x;exact⟨z,its,r,ob,k _ _ (.inl rfl) e,c⟩
 |dK kvs=>obtain⟨z,y,vs,r,ob,es,ep,e,c⟩:=x;exact⟨z,y,vs,r,ob,es,ep,k _ _ (.inl rfl) e,c⟩
 |dT kvs=>
  obtain⟨z,y,xs,r,ob,es,ep,e,c⟩:=x;exact⟨z,y,xs,Paired.Ao r fun p q z=>⟨z.1,ht _ _ z.2.1,z.2.2⟩,ob,es,ep,k _ _ (.inl rfl) e,c⟩
 |set S n=>obtain⟨ob,es,ep,t,e,c⟩:=x;exact⟨ob,es,ep,t,k _ _ (.inl rfl) e,c⟩
 |ins C dx fs=>
  obtain⟨d,z,ne,e,mA,⟨od,es,ep,e2,c⟩,r⟩:=x;exact⟨ho _ d,z,ne,k _ _ (.inl rfl) e,mA,⟨od,es,ep,k _ _ (.inr d) e2,c⟩,r⟩
 |own y=>obtain⟨ob,e⟩:=x;exact⟨ob,k _ _ (.inl rfl) e⟩
 |xd fs=>obtain⟨mA,⟨od,es,ep,e,c⟩,r⟩:=x;exact⟨mA,⟨od,es,ep,k _ _ (.inl rfl) e,c⟩,r⟩
 |w9 lo hi=>obtain⟨t,u,v,e⟩:=x;exact⟨t,u,v,k _ _ (.inl rfl) e⟩
 |mL ob u ih=>obtain⟨e,q⟩:=x;exact⟨k _ _ (.inl rfl) e,ih q⟩
 |Jx ps=>
  have e:h.get? a=some {cls:= .none,data:= .fields ps}:=x;show h'.get? a=some {cls:= .none,data:= .fields ps};exact k a _ (.inl rfl) e
 |met f y=>
  have e:h.get? a=some (W.methodObj (.ref f) (.ref y)):=x;show h'.get? a=some (W.methodObj (.ref f) (.ref y));exact k a _ (.inl rfl) e
 |ext φ=>obtain⟨p,⟨o,e⟩,st⟩:=x;exact⟨st _ _ p fun o q=>k _ _ (.inl rfl) q,⟨o,k _ _ (.inl rfl) e⟩,st⟩
theorem ma.lt (x:ma P w H h)(e:H a=some o):a<h.objs.size:=(x a o e).lt
theorem ma.fresh (x:ma P w H h)(e:h.objs.size<=a):H a=none:=by
 cases q:H a with
 |none=>rfl
 |some u=>exact absurd (PL (x.lt q) e) (Nat.lt_irrefl _)
theorem ma.kept (x:ma P w H h)(k:∀b u,h.get? b=some u->h'.get? b=some u):ma P w H h':=fun a o e=>
 (x a o e).kg (fun b u _ q=>k b u q) (fun _ q=>q) fun _ _ q=>q
theorem ma.laid (x:ma P w H h)(k:∀b u,h.get? b=some u->h'.get? b=some u)(hp:h.objs.size<=a)(new:bF P w (upd H a o) h' a o):ma P w (upd H a o) h':=fun b u e=>by
 have hn:=x.fresh hp;by_cases hb:b=a
 .subst hb;rw[af]at e;cases e;exact new
 .rw[ao hb]at e
  exact(x b u e).kg (fun c v _ q=>k c v q) (fun c q=>by rw[ao (au q hn)];exact q) fun c xs q=>by rw[ao (au q hn)];exact q
end
def Rd(H:Hp)(a:PY)(u:HO):Prop:=H a=some u\/∃o,H a=some (.mL o u)
theorem Rd.ok {P:P0}{w:P4}{H:Hp}{h:Qd}{a:PY}{u:HO}(r:Rd H a u)(x:ma P w H h):bF P w H h a u:=by
 rcases r with r|⟨o,r⟩
 .exact x a u r
 .obtain⟨_,q⟩:=x a _ r
  exact q
def MI:Option HO->Prop
 |some (.lst _)=>True
 |some (.dK _)=>True
 |some (.dT _)=>True
 |some (.set _ _)=>True
 |some (.ins _ _ _)=>True
 |some (.ext _)=>True
 |_=>False
section
variable{P:P0}{w:P4}{H:Hp}{h h':Qd}{x e:PY}{o':HO}
theorem ma.write (ok:ma P w H h)(mu:MI (H x))(he:e=x\/H e=some (.own x))(k:∀b u,b≠e->h.get? b=some u->h'.get? b=some u)(heo:∃u,h'.get? e=some u)
  (new:bF P w (upd H x o') h' x o'):ma P w (upd H x o') h':=fun b u q=>by
 have nown:∀c y,H c=some (.own y)->c≠x:=fun c y r z=>by subst z;rw[r]at mu;exact mu
 have ntup:∀c xs,H c=some (.tup xs)->c≠x:=fun c xs r z=>by subst z;rw[r]at mu;exact mu
 by_cases hb:b=x
 .subst hb;rw[af]at q;cases q;exact new
 .rw[ao hb]at q
  by_cases hbe:b=e
  .have q':H b=some (.own x):=by
    rcases he with z|z
    .exact absurd (hbe.trans z) hb
    .rw[hbe];exact z
   rw[q]at q';cases q';obtain⟨v,hv⟩:=heo;exact⟨v,by rw[hbe];exact hv⟩
  .refine(ok b u q).kg (fun c v hc r=>k c v ?_ r) (fun c r=>by rw[ao (nown c b r)];exact r) fun c xs r=>by rw[ao (ntup c xs r)];exact r
   rcases hc with rfl|hc
   .exact hbe
   .rintro rfl
    rcases he with z|z
    .exact nown c b hc z
    .rw[hc]at z;cases z;exact hb rfl
end
structure Un(fs ex:List PY)(H H':Hp)(h h':Qd):Prop where
 keep:∀b o,h.get? b=some o->H b=none->b∉fs->b∉ex->h'.get? b=some o
 slot:∀b o,h.get? b=some o->H b=none->b∈fs->b∉ex->∃sl,h'.get? b=some {o with slots:=sl}
 free:∀b o,h.get? b=some o->H b=none->b∉ex->H' b=none
 there:∀b o,h.get? b=some o->b∉ex->∃o',h'.get? b=some o'
 fD:∀b xs,H b=some (.tup xs)->H' b=some (.tup xs)
 jk:∀b o u,H b=some (.mL o u)->H' b=some (.mL o u)
 jI:∀b ps,H b=some (.Jx ps)->∃more,H' b=some (.Jx (ps++more))
section
variable{fs fs' ex ex':List PY}{H H1 H2:Hp}{h h1 h2 h':Qd}{a x e:PY}{o:HO}
theorem Un.any (u:Un fs ex H H1 h h1){b:PY}{ob:Obj}(q:h.get? b=some ob)(n:H b=none)(hx:b∉ex):∃sl,h1.get? b=some {ob with slots:=sl}:=by
 by_cases hb:b∈fs
 .exact u.slot b ob q n hb hx
 .exact⟨ob.slots,u.keep b ob q n hb hx⟩
theorem Un.kept (k:∀b u,h.get? b=some u->h'.get? b=some u):Un fs ex H H h h':=
 ⟨fun b ob q _ _ _=>k b ob q,fun b ob q _ _ _=>⟨ob.slots,k b ob q⟩,fun _ _ _ n _=>n,fun b ob q _=>⟨ob,k b ob q⟩,fun _ _ q=>q,fun _ _ _ q=>q,fun _ ps q=>⟨#[],by rw[q];simp⟩⟩
theorem Un.refl:Un fs ex H H h h:=Un.kept fun _ _ q=>q
theorem Un.laid (k:∀b u,h.get? b=some u->h'.get? b=some u)(hp:h.objs.size<=a)(hn:H a=none):Un fs ex H (upd H a o) h h' where
 keep:=fun b u q _ _ _=>k b u q
 slot:=fun b u q _ _ _=>⟨u.slots,k b u q⟩
 free:=fun b u q n _=>by rw[ao (PM (PL (Qd.lt_size q) hp))];exact n
 there:=fun b u q _=>⟨u,k b u q⟩
 fD:=fun b xs q=>by rw[ao (au q hn)];exact q
 jk:=fun b u xs q=>by rw[ao (au q hn)];exact q
 jI:=fun b ps q=>⟨#[],by rw[ao (au q hn),q];simp⟩
theorem Un.write (mu:MI (H x))(he:e=x\/H e=some (.own x))(k:∀b u,b≠e->h.get? b=some u->h'.get? b=some u)(heo:∃u,h'.get? e=some u):Un fs ex H (upd H x o) h h':=by
 have hx:∀b,H b=none->b≠x:=fun b n z=>by subst z;rw[n]at mu;exact mu
 have hb:∀b,H b=none->b≠e:=fun b n z=>by
  subst z;rcases he with r|r
  .exact hx b n r
  .rw[n]at r;cases r
 have hm:∀b u,H b=some u->¬MI (some u)->b≠x:=fun b u q nm z=>by subst z;rw[q]at mu;exact nm mu
 refine⟨fun b u q n _ _=>k b u (hb b n) q,fun b u q n _ _=>⟨u.slots,k b u (hb b n) q⟩,fun b u q n _=>by rw[ao (hx b n)];exact n,fun b u q _=>?_,
  fun b xs q=>by rw[ao (hm b _ q fun z=>z)];exact q,fun b u xs q=>by rw[ao (hm b _ q fun z=>z)];exact q,fun b ps q=>⟨#[],by rw[ao (hm b _ q fun z=>z),q];simp⟩⟩
 by_cases hbe:b=e
 .subst hbe;exact heo
 .exact⟨u,k b u hbe q⟩
end
def vX(h:Qd)(H:Hp):List PY:=(List.range h.objs.size).filter fun a=>(H a).isSome
def vQ(h:Qd)(H:Hp):Qd:=W.hideAll h (vX h H)
theorem CW(h:Qd)(H:Hp):(vQ h H).objs.size=h.objs.size:=W.hideAll_size _ _
theorem Gk{h:Qd}{H:Hp}{b:PY}{o:Obj}(e:h.get? b=some o)(n:H b=none):(vQ h H).get? b=some o:=
 W.hideAll_get _ e fun hm=>by
  have q:(H b).isSome=true:=(List.mem_filter.mp hm).2;rw[n]at q;simp at q
theorem Ip{h:Qd}{H:Hp}{b:PY}{o:Obj}(e:(vQ h H).get? b=some o):h.get? b=some o/\H b=none:=by
 have e':h.get? b=some o:=W.of_hideAll (vX h H) e;refine⟨e',?_⟩
 cases q:H b with
 |none=>rfl
 |some x=>
  have hm:b∈vX h H:=List.mem_filter.mpr ⟨List.mem_range.mpr (Qd.lt_size e'),by simp[q]⟩;have z:(vQ h H).get? b=none:=W.hideAll_none (vX h H) hm;rw[z]at e;cases e
structure Mod(K:W.Frag)(mg:Str->Option PX)(base:Qd):Prop where
 AJ:K.In base
 glob:base.Ns P7 mg
 blt:∃mb,base.Ns builtinsNs mb/\∀x:Str,x≠"__name__"->mb x=bootBuiltins x
 nolimit:base.NoLimit
structure Cx where
 prog:P0
 w:P4
 K:W.Frag
 mg:Str->Option PX
 base:Qd
 A:P5
 N:List Str
 s₀:PZ
 H₀:Hp
 env:Env
 outer:List Env
 stack:List Env
 ex:List PY
 fn:Str->Bool
 calm:Bool
 pn:List (PY×Obj)
 xe:PX->PZ->Prop
def fo(l:List Env):List PY:=l.filterMap (·.frame)
abbrev Cx.fs (X:Cx):List PY:=fo X.outer
def Nx(sc:Scope)(x:Str):Prop:=sc.names.lookup x=some .local\/sc.names.lookup x=some .cell\/sc.names.lookup x=some .free
def Loc(sc:Scope)(x:Str):Prop:=sc.names.lookup x=some .local\/sc.names.lookup x=some .cell
def Look(env:Env)(h:Qd)(m:Str->Option PX)(x:Str)(u:PX):Prop:=
 (env.kindOf x=some .local/\m x=some u)\/((env.kindOf x=some .cell\/env.kindOf x=some .free)/\∃c,env.cells.lookup x=some c/\h.IsCell c (some u))
structure Cx.Ok (X:Cx):Prop where
 mod:Mod X.K X.mg X.base
 kind:X.env.scope.kind= .function
 glob:X.env.globals=P7
 blt:X.env.builtins=builtinsNs
 above:X.s₀.heap.objs.size<=X.env.locals
 inj:∀x y c,X.env.cells.lookup x=some c->X.env.cells.lookup y=some c->x=y
 has:∀x,(X.env.kindOf x=some .cell\/X.env.kindOf x=some .free)->∃c,X.env.cells.lookup x=some c
 DZ:∀x c,X.fn x=true->X.env.cells.lookup x=some c->X.s₀.heap.objs.size<=c
 hd:X.calm=true->X.A.handled=none
 frames:X.A.frames=some X.stack
 Dm:X.stack=X.outer\/(X.stack=X.env::X.outer/\X.env.frame=some X.env.locals)
 HZ:∀b∈X.ex,b≠X.env.locals/\∀x c,X.env.cells.lookup x=some c->c≠b
 bs:∀b o,X.base.get? b=some o->X.s₀.heap.get? b=some o/\X.H₀ b=none
 z8:X.base.objs.size<=X.s₀.heap.objs.size
 qx:∀b o,X.base.get? b=some o->b∉X.ex
 rN:∀b∈X.ex,b∉X.fs
 jc:X.s₀.heap.FunFrames X.base X.outer
 p7:∀b∈X.fs,X.H₀ b=none
structure Inv(X:Cx)(pins:List (PY×Obj))(σ:List (Option V))(H:Hp)(s:PZ):Prop where
 ok:X.Ok
 os:s.os=X.s₀.os
 bare:AllBare s.gens
 base:Un X.fs X.ex X.H₀ H X.s₀.heap s.heap
 loc:∃m,s.heap.Ns X.env.locals m/\∀(i:Nat)(x:Str)(v:V),X.N[i]?=some x->σ[i]?=some (some v)->Nx X.env.scope x->∃u,RelV v u/\Look X.env s.heap m x u
 cell:∀x c,X.env.cells.lookup x=some c->∃v,s.heap.IsCell c v
 free:H X.env.locals=none
 dZ:∀x c,X.env.cells.lookup x=some c->H c=none
 pin:∀p∈X.pn++pins,s.heap.get? p.1=some p.2/\H p.1=none/\p.1≠X.env.locals/\p.1∉X.fs/\∀v,p.2.data≠.cell v
 aX:ma X.prog X.w H s.heap
 len:σ.length=X.N.length
section
variable{X:Cx}{pins:List (PY×Obj)}{σ:List (Option V)}{H H':Hp}{s:PZ}{h':Qd}
theorem Cx.Ok.NI (ok:X.Ok){b:PY}{o:Obj}(e:X.base.get? b=some o):b∉X.fs:=fun hb=>by
 have:=(ok.jc.mem hb).1;rw[e]at this;cases this
theorem Inv.bs (I:Inv X pins σ H s):∀b o,X.base.get? b=some o->s.heap.get? b=some o/\H b=none:=fun b o e=>
 ⟨I.base.keep b o (I.ok.bs b o e).1 (I.ok.bs b o e).2 (I.ok.NI e) (I.ok.qx b o e),I.base.free b o (I.ok.bs b o e).1 (I.ok.bs b o e).2 (I.ok.qx b o e)⟩
theorem Inv.bk (I:Inv X pins σ H s):∀b o,X.base.get? b=some o->s.heap.get? b=some o:=fun b o e=>(I.bs b o e).1
theorem Inv.mod (I:Inv X pins σ H s):Mod X.K X.mg X.base:=I.ok.mod
theorem Inv.jD (I:Inv X pins σ H s):X.K.In s.heap:=I.ok.mod.AJ.keeps I.bk
theorem Inv.lt (I:Inv X pins σ H s):X.env.locals<s.heap.objs.size:=let⟨_,hn,_⟩:=I.loc;hn.lt
theorem Inv.sz (I:Inv X pins σ H s):X.s₀.heap.objs.size<=s.heap.objs.size:=PN I.ok.above (Nat.le_of_lt I.lt)
theorem Inv.LQ (I:Inv X pins σ H s){a:PY}(h:s.heap.objs.size<=a):a∉X.fs:=fun hb=>by
 obtain⟨_,o,ho,_⟩:=I.ok.jc.mem hb;exact absurd (PL (Qd.lt_size ho) (PN I.sz h)) (Nat.lt_irrefl _)
theorem Inv.En (I:Inv X pins σ H s):∀x c,X.env.cells.lookup x=some c->c≠X.env.locals:=fun x c e z=>by
 obtain⟨v,o,ho,hd⟩:=I.cell x c e;obtain⟨m,⟨o',es,ep,ho',hd',_⟩,_⟩:=I.loc;rw[z,ho']at ho;cases ho;rw[hd']at hd;cases hd
theorem Inv.jc (I:Inv X pins σ H s):s.heap.FunFrames X.base X.outer:=by
 have all:∀(l:List Env),(∀b∈fo l,b∈X.fs)->X.s₀.heap.FunFrames X.base l->s.heap.FunFrames X.base l:=by
  intro l
  induction l with
  |nil=>intro _ _;trivial
  |cons env r ih=>
   intro hs hl;obtain⟨hk,⟨L,o,hf,hn,ho,hd⟩,hr⟩:=hl;have hL:L∈X.fs:=hs L (by unfold fo;rw[List.filterMap_cons,hf];exact Pt);obtain⟨sl,e⟩:=I.base.slot L o ho (I.ok.p7 L hL) hL fun z=>I.ok.rN L z hL;exact⟨hk,⟨L,_,hf,hn,e,hd⟩,ih (fun b hb=>hs b (by unfold fo;rw[List.filterMap_cons,hf];exact Pu _ hb)) hr⟩
 exact all X.outer (fun _ hb=>hb) I.ok.jc
theorem Inv.stack (I:Inv X pins σ H s):s.heap.FunFrames X.base X.stack:=by
 rcases I.ok.Dm with e|⟨e,hf⟩
 .rw[e];exact I.jc
 .rw[e]
  obtain⟨m,hn,_⟩:=I.loc;refine .cons (by rw[I.ok.kind];decide) hf hn ?_ I.jc;exact Qd.get?_none_of_le (PN I.ok.z8 I.ok.above)
theorem Inv.kC (I:Inv X pins σ H s):∀b∈fo X.stack,b∈X.env.locals::X.fs:=fun b hb=>by
 rcases I.ok.Dm with e|⟨e,hf⟩
 .rw[e]at hb;exact Pu _ hb
 .rw[e]at hb
  unfold fo at hb;rw[List.filterMap_cons,hf]at hb;exact hb
theorem Inv.lT (I:Inv X pins σ H s):∀b∈fo X.stack,H b=none:=fun b hb=>by
 rcases List.mem_cons.mp (I.kC b hb)with e|hb
 .rw[e];exact I.free
 .obtain⟨_,o,ho,_⟩:=I.ok.jc.mem hb
  exact I.base.free b o ho (I.ok.p7 b hb) fun z=>I.ok.rN b z hb
theorem Inv.step {g':Array GenState}{t':Nat}{d':Drawn}{ch:List PY}(I:Inv X pins σ H s)
  (hch:∀b∈ch,(b∈X.ex\/X.s₀.heap.objs.size<=b)/\b≠X.env.locals/\(∀x c,X.env.cells.lookup x=some c->c≠b)/\∀p∈X.pn++pins,p.1≠b)
  (keep:∀b o,b≠X.env.locals->b∉X.fs->b∉ch->s.heap.get? b=some o->H b=none->h'.get? b=some o)
  (slot:∀b o,b≠X.env.locals->b∈X.fs->b∉ch->s.heap.get? b=some o->H b=none->∃sl,h'.get? b=some {o with slots:=sl}) (free:∀b o,b∉ch->s.heap.get? b=some o->H b=none->H' b=none)
  (there:∀b o,b∉ch->s.heap.get? b=some o->∃o',h'.get? b=some o')
  (fD:∀b xs,H b=some (.tup xs)->H' b=some (.tup xs)) (jk:∀b o u,H b=some (.mL o u)->H' b=some (.mL o u)) (jI:∀b ps,H b=some (.Jx ps)->∃more,H' b=some (.Jx (ps++more)))
  (ns:∀m,s.heap.Ns X.env.locals m->h'.Ns X.env.locals m) (aX:ma X.prog X.w H' h') (hg:AllBare g'):
  Inv X pins σ H' {s with heap:=h',gens:=g',drawn:=d',toks:=t'}:=by
 have neL:∀b o,X.s₀.heap.get? b=some o->b≠X.env.locals:=fun b o e=>PM (PL (Qd.lt_size e) I.ok.above);have neC:∀b o,X.s₀.heap.get? b=some o->b∉X.ex->b∉ch:=fun b o e hx hb=>by
  rcases(hch b hb).1 with z|z
  .exact hx z
  .exact absurd (PL (Qd.lt_size e) z) (Nat.lt_irrefl _)
 have cellK:∀x c,X.env.cells.lookup x=some c->∀v,s.heap.IsCell c v->h'.IsCell c v:=fun x c e v ⟨o,ho,hd⟩=>by
  have nch:c∉ch:=fun z=>(hch c z).2.2.1 x c e rfl;by_cases hc:c∈X.fs
  .obtain⟨sl,q⟩:=slot c o (I.En x c e) hc nch ho (I.dZ x c e)
   exact⟨_,q,hd⟩
  .exact⟨o,keep c o (I.En x c e) hc nch ho (I.dZ x c e),hd⟩
 refine⟨I.ok,I.os,hg,⟨fun b o e n hb hx=>?_,fun b o e n hb hx=>?_,fun b o e n hx=>?_,fun b o e hx=>?_,fun b xs e=>fD b xs (I.base.fD b xs e),fun b o xs e=>jk b o xs (I.base.jk b o xs e),fun b ps e=>?_⟩,?_,fun x c e=>?_,?_,fun x c e=>?_,fun p hp=>?_,aX,I.len⟩
 .exact keep b o (neL b o e) hb (neC b o e hx) (I.base.keep b o e n hb hx) (I.base.free b o e n hx)
 .obtain⟨sl,e1⟩:=I.base.slot b o e n hb hx
  obtain⟨sl',e2⟩:=slot b _ (neL b o e) hb (neC b o e hx) e1 (I.base.free b o e n hx);exact⟨sl',e2⟩
 .obtain⟨o',e1⟩:=I.base.there b o e hx
  exact free b o' (neC b o e hx) e1 (I.base.free b o e n hx)
 .obtain⟨o',e1⟩:=I.base.there b o e hx
  exact there b o' (neC b o e hx) e1
 .obtain⟨m1,e1⟩:=I.base.jI b ps e
  obtain⟨m2,e2⟩:=jI b _ e1;exact⟨m1++m2,by rw[e2,Array.append_assoc]⟩
 .obtain⟨m,hn,hl⟩:=I.loc
  refine⟨m,ns m hn,fun i x v e1 e2 e3=>?_⟩;obtain⟨u,r,l⟩:=hl i x v e1 e2 e3;refine⟨u,r,?_⟩;rcases l with l|⟨k,c,e,z⟩
  .exact .inl l
  .exact .inr ⟨k,c,e,cellK x c e _ z⟩
 .obtain⟨v,z⟩:=I.cell x c e
  exact⟨v,cellK x c e v z⟩
 .obtain⟨m,⟨o,_,_,ho,_⟩,_⟩:=I.loc
  exact free _ o (fun z=>(hch _ z).2.1 rfl) ho I.free
 .obtain⟨v,o,ho,hd⟩:=I.cell x c e
  exact free c o (fun z=>(hch c z).2.2.1 x c e rfl) ho (I.dZ x c e)
 .obtain⟨e,n,ne,nf,d⟩:=I.pin p hp
  have nch:p.1∉ch:=fun z=>(hch p.1 z).2.2.2 p hp rfl;exact⟨keep p.1 p.2 ne nf nch e n,free p.1 p.2 nch e n,ne,nf,d⟩
theorem Inv.un {t':Nat}(I:Inv X pins σ H s)(u:Un X.fs [] H H' s.heap h')(aX:ma X.prog X.w H' h'):Inv X pins σ H' {s with heap:=h',toks:=t'}:=by
 obtain⟨m,⟨o,es,ep,ho,r⟩,_⟩:=id I.loc;obtain⟨sl,hL⟩:=u.any ho I.free (by simp);exact I.step (g':=s.gens) (d':=s.drawn) (ch:=[]) (fun _ z=>nomatch z) (fun b o _ hb _ e n=>u.keep b o e n hb (by simp)) (fun b o _ hb _ e n=>u.slot b o e n hb (by simp)) (fun b o _ e n=>u.free b o e n (by simp)) (fun b o _ e=>u.there b o e (by simp)) u.fD u.jk u.jI (fun m' hm=>by
  obtain⟨o',es',ep',ho',r'⟩:=hm;rw[ho]at ho';cases ho';exact⟨_,es',ep',hL,r'⟩) aX I.bare
theorem Inv.call {g':Array GenState}{t':Nat}{d':Drawn}{ch:List PY}(I:Inv X pins σ H s)(u:Un (fo X.stack) ch H H' s.heap h')(aX:ma X.prog X.w H' h')(hg:AllBare g')
  (hch:∀b∈ch,(b∈X.ex\/X.s₀.heap.objs.size<=b)/\b≠X.env.locals/\(∀x c,X.env.cells.lookup x=some c->c≠b)/\∀p∈X.pn++pins,p.1≠b):
  Inv X pins σ H' {s with heap:=h',gens:=g',drawn:=d',toks:=t'}:=by
 obtain⟨m,⟨o,es,ep,ho,r⟩,_⟩:=id I.loc;obtain⟨sl,hL⟩:=u.any ho I.free fun z=>(hch _ z).2.1 rfl;exact I.step (ch:=ch) hch (fun b o hL hb hc e n=>u.keep b o e n (fun z=>(List.mem_cons.mp (I.kC b z)).elim hL hb) hc) (fun b o _ _ hc e n=>u.any e n hc) (fun b o hc e n=>u.free b o e n hc) (fun b o hc e=>u.there b o e hc) u.fD u.jk u.jI (fun m' hm=>by
  obtain⟨o',es',ep',ho',r'⟩:=hm;rw[ho]at ho';cases ho';exact⟨_,es',ep',hL,r'⟩) aX hg
theorem Inv.turned {t':Nat}{it:PY}(I:Inv X pins σ H s)(k:∀b o,b≠it->s.heap.get? b=some o->h'.get? b=some o)(hn:H it=none)(hL:it≠X.env.locals)
  (h1:it∈X.ex\/X.s₀.heap.objs.size<=it) (h2:∀x c,X.env.cells.lookup x=some c->c≠it) (h3:∀p∈X.pn++pins,p.1≠it):Inv X pins σ H {s with heap:=h',toks:=t'}:=by
 have nit:∀b u,H b=some u->b≠it:=fun b u e z=>by rw[z,hn]at e;cases e
 refine I.step (g':=s.gens) (d':=s.drawn) (ch:=[it]) (fun b hb=>?_) (fun b o _ _ hc e _=>k b o (fun z=>hc (by simp[z])) e) (fun b o _ _ hc e _=>⟨o.slots,k b o (fun z=>hc (by simp[z])) e⟩) (fun _ _ _ _ n=>n)
  (fun b o hc e=>⟨o,k b o (fun z=>hc (by simp[z])) e⟩) (fun _ _ e=>e) (fun _ _ _ e=>e) (fun b ps e=>⟨#[],by rw[e];simp⟩) (fun m hm=>?_) (fun b u e=>?_) I.bare
 .have e:b=it:=by simpa using hb
  subst e;exact⟨h1,hL,h2,h3⟩
 .obtain⟨o,es,ep,ho,r⟩:=hm
  exact⟨o,es,ep,k _ o (Ne.symm hL) ho,r⟩
 .refine(I.aX b u e).kg (fun c v hc q=>k c v ?_ q) (fun _ q=>q) fun _ _ q=>q
  rcases hc with z|z
  .rw[z];exact nit b u e
  .exact nit c _ z
theorem Inv.tok (I:Inv X pins σ H s)(t:Nat):Inv X pins σ H {s with toks:=t}:=I.un (h':=s.heap) (t':=t) Un.refl I.aX
theorem Inv.kept {t':Nat}(I:Inv X pins σ H s)(k:∀b u,s.heap.get? b=some u->h'.get? b=some u):Inv X pins σ H {s with heap:=h',toks:=t'}:=I.un (Un.kept k) (I.aX.kept k)
theorem Inv.laid {a:PY}{o:HO}{t':Nat}(I:Inv X pins σ H s)(k:∀b u,s.heap.get? b=some u->h'.get? b=some u)(hp:s.heap.objs.size<=a)(new:bF X.prog X.w (upd H a o) h' a o):
  Inv X pins σ (upd H a o) {s with heap:=h',toks:=t'}:=I.un (Un.laid k hp (I.aX.fresh hp)) (I.aX.laid k hp new)
theorem Inv.write {x e:PY}{o:HO}{t':Nat}(I:Inv X pins σ H s)(mu:MI (H x))(he:e=x\/H e=some (.own x))(k:∀b u,b≠e->s.heap.get? b=some u->h'.get? b=some u)(heo:∃u,h'.get? e=some u)
  (new:bF X.prog X.w (upd H x o) h' x o):Inv X pins σ (upd H x o) {s with heap:=h',toks:=t'}:=I.un (Un.write mu he k heo) (I.aX.write mu he k heo new)
theorem Inv.qT {pins':List (PY×Obj)}(I:Inv X pins σ H s)(h:∀p∈pins',s.heap.get? p.1=some p.2/\H p.1=none/\p.1≠X.env.locals/\p.1∉X.fs/\∀v,p.2.data≠.cell v):Inv X pins' σ H s:=
 ⟨I.ok,I.os,I.bare,I.base,I.loc,I.cell,I.free,I.dZ,fun p hp=>(List.mem_append.mp hp).elim (fun z=>I.pin p (Py _ z)) (h p),I.aX,I.len⟩
theorem rV{N:List Str}(hN:N.Nodup){i j:Nat}{x:Str}(a:N[i]?=some x)(b:N[j]?=some x):i=j:=by
 obtain⟨h1,e1⟩:=List.getElem?_eq_some_iff.mp a;obtain⟨h2,e2⟩:=List.getElem?_eq_some_iff.mp b;exact(List.getElem_inj hN).mp (e1.trans e2.symm)
theorem oO{M:Model}{A:P5}{E:PX->PZ->Prop}{i:Nat}{x:Str}{v:V}{u:PX}{Q:Unit->PZ->Prop}(I:Inv X pins σ H s)(hN:X.N.Nodup)(hi:X.N[i]?=some x)(hx:Loc X.env.scope x)(r:RelV v u)
  (h:∀s',Inv X pins (σ.set i (some v)) H s'->(∃a,Qd.SameBut a s.heap s'.heap/\(a=X.env.locals\/X.env.cells.lookup x=some a))->Q () s') (hf:X.fn x=true\/X.env.scope.names.lookup x=some .local:=by first|exact .inl rfl|exact .inr rfl|assumption):Qf M A (storeName X.env x u) Q E s:=by
 obtain⟨m,hn,hl⟩:=id I.loc;have hcls:(X.env.scope.kind== .class||(X.env.scope.kind== .module&&X.env.locals !=X.env.globals))=false:=by rw[I.ok.kind];rfl
 have hiσ:i<σ.length:=by rw[I.len];exact(List.getElem?_eq_some_iff.mp hi).1
 have En:=I.En;have tracked:∀{a:PY}{h':Qd},(∃o,s.heap.get? a=some o/\H a=none)->Qd.SameBut a s.heap h'->ma X.prog X.w H h':=fun{a h'} ha hs b ob e=>by
  obtain⟨_,_,hfree⟩:=ha;refine(I.aX b ob e).kg (fun c w' hc q=>(hs.2 c ?_).trans q) (fun _ q=>q) fun _ _ q=>q;rintro rfl;rcases hc with rfl|hc
  .rw[hfree]at e;cases e
  .rw[hfree]at hc;cases hc
 rcases hx with hk|hk
 .refine wpAny_storeName_local hk hn (fun h' hn' hs=>?_) hcls
  obtain⟨oL,_,_,hoL,_⟩:=id hn;refine h _ ⟨I.ok,I.os,I.bare,⟨fun b o e n hb hx=>?_,fun b o e n hb hx=>?_,I.base.free,fun b o e hx=>?_,I.base.fD,I.base.jk,I.base.jI⟩,⟨_,hn',fun j y v' e1 e2 e3=>?_⟩,fun y c e=>?_,I.free,I.dZ,fun p hp=>?_,tracked ⟨oL,hoL,I.free⟩ hs,by simpa using I.len⟩ ⟨_,hs,.inl rfl⟩
  .exact(hs.2 b (PM (PL (Qd.lt_size e) I.ok.above))).trans (I.base.keep b o e n hb hx)
  .obtain⟨sl,e1⟩:=I.base.slot b o e n hb hx
   exact⟨sl,(hs.2 b (PM (PL (Qd.lt_size e) I.ok.above))).trans e1⟩
  .obtain⟨o',e1⟩:=I.base.there b o e hx
   exact⟨o',(hs.2 b (PM (PL (Qd.lt_size e) I.ok.above))).trans e1⟩
  .by_cases hj:j=i
   .subst hj
    rw[hi]at e1;cases e1;rw[List.getElem?_set_self hiσ]at e2;cases e2;exact⟨u,r,.inl ⟨hk,by simp⟩⟩
   .rw[List.getElem?_set_ne (Ne.symm hj)]at e2
    obtain⟨u',r',q⟩:=hl j y v' e1 e2 e3;refine⟨u',r',?_⟩;rcases q with⟨k,e⟩|⟨k,c,e,z⟩
    .refine .inl ⟨k,?_⟩
     have:y≠x:=fun e=>hj (rV hN e1 (e▸hi));simp[this,e]
    .exact .inr ⟨k,c,e,z.sameBut hs (En y c e)⟩
  .obtain⟨w',z⟩:=I.cell y c e
   exact⟨w',z.sameBut hs (En y c e)⟩
  .obtain⟨e,n,ne,nf,d⟩:=I.pin p hp
   exact⟨(hs.2 p.1 ne).trans e,n,ne,nf,d⟩
 .have hfn:X.fn x=true:=by
   rcases hf with z|z
   .exact z
   .rw[z]at hk;cases hk
  obtain⟨c,hc⟩:=I.ok.has x (.inl hk);obtain⟨w',z⟩:=I.cell x c hc;refine wpAny_storeName_cell I.ok.kind hk hc z (fun h' hc' hs=>?_);obtain⟨oc,hoc,hocd⟩:=id z;refine h {s with heap:=h'} ⟨I.ok,I.os,I.bare,⟨fun b o e n hb hx=>?_,fun b o e n hb hx=>?_,I.base.free,fun b o e hx=>?_,I.base.fD,I.base.jk,I.base.jI⟩,⟨m,hn.sameBut hs (Ne.symm (En x c hc)),fun j y v' e1 e2 e3=>?_⟩,fun y c' e=>?_,I.free,I.dZ,fun p hp=>?_,tracked ⟨oc,hoc,I.dZ x c hc⟩ hs,by simpa using I.len⟩ ⟨c,hs,.inr hc⟩
  .exact(hs.2 b (PM (PL (Qd.lt_size e) (I.ok.DZ x c hfn hc)))).trans (I.base.keep b o e n hb hx)
  .obtain⟨sl,e1⟩:=I.base.slot b o e n hb hx
   exact⟨sl,(hs.2 b (PM (PL (Qd.lt_size e) (I.ok.DZ x c hfn hc)))).trans e1⟩
  .obtain⟨o',e1⟩:=I.base.there b o e hx
   exact⟨o',(hs.2 b (PM (PL (Qd.lt_size e) (I.ok.DZ x c hfn hc)))).trans e1⟩
  .by_cases hj:j=i
   .subst hj
    rw[hi]at e1;cases e1;rw[List.getElem?_set_self hiσ]at e2;cases e2;exact⟨u,r,.inr ⟨.inl hk,c,hc,hc'⟩⟩
   .rw[List.getElem?_set_ne (Ne.symm hj)]at e2
    obtain⟨u',r',q⟩:=hl j y v' e1 e2 e3;refine⟨u',r',?_⟩;rcases q with q|⟨k,c',e,z'⟩
    .exact .inl q
    .refine .inr ⟨k,c',e,z'.sameBut hs ?_⟩
     rintro rfl;exact hj (rV hN e1 (I.ok.inj _ _ _ e hc▸hi))
  .by_cases hcc:c'=c
   .subst hcc;exact⟨_,hc'⟩
   .obtain⟨w2,z2⟩:=I.cell y c' e
    exact⟨w2,z2.sameBut hs hcc⟩
  .obtain⟨e,n,ne,nf,d⟩:=I.pin p hp
   refine⟨(hs.2 p.1 ?_).trans e,n,ne,nf,d⟩;intro q;rw[q,hoc]at e;have q':oc=p.2:=PU e;exact d w' (by rw[←q'];exact hocd)
theorem kn{M:Model}{A:P5}{E:PX->PZ->Prop}{i:Nat}{x:Str}{v:V}{u:PX}{Q:Unit->PZ->Prop}(I:Inv X pins σ H s)(hN:X.N.Nodup)(hi:X.N[i]?=some x)(hx:Loc X.env.scope x)(r:RelV v u)
  (h:∀s',Inv X pins (σ.set i (some v)) H s'->Q () s') (hf:X.fn x=true\/X.env.scope.names.lookup x=some .local:=by first|exact .inl rfl|exact .inr rfl|assumption):Qf M A (storeName X.env x u) Q E s:=
 oO I hN hi hx r (fun s' I' _=>h s' I') hf
theorem Inv.EW {s':PZ}{ch:List PY}(I:Inv X pins σ H s)(ho:s'.os=s.os)(u:Un (fo X.stack) ch H H' s.heap s'.heap)(aX:ma X.prog X.w H' s'.heap)(hg:AllBare s'.gens)
  (hch:∀b∈ch,(b∈X.ex\/X.s₀.heap.objs.size<=b)/\b≠X.env.locals/\(∀x c,X.env.cells.lookup x=some c->c≠b)/\∀p∈X.pn++pins,p.1≠b):Inv X pins σ H' s':=by
 obtain⟨h',g',d',t',o'⟩:=s';have e:o'=s.os:=ho;subst e;exact I.call (g':=g') (t':=t') (d':=d') u aX hg hch
end
abbrev XK:=PX->Option PY->Hp->Prop
abbrev St:=List (Option V)
abbrev VK:=V->Hp->Prop
abbrev TE:=St->Hp->VK->Prop
abbrev TT:=St->Hp->(Bool->Hp->Prop)->Prop
abbrev TA:=St->Hp->(List V->Hp->Prop)->Prop
structure Ends where
 nx:St->Hp->Prop
 rt:VK
 bk:St->Hp->Prop:=fun _ _=>False
 ct:St->Hp->Prop:=fun _ _=>False
abbrev TS:=Ends->St->Hp->Prop
def EP(X:Cx)(pins:List (PY×Obj))(σ:St)(Q:VK)(u:PX)(s':PZ):Prop:=∃v H',Inv X pins σ H' s'/\RelV v u/\Q v H'
def TP(X:Cx)(pins:List (PY×Obj))(σ:St)(Q:Bool->Hp->Prop)(b:Bool)(s':PZ):Prop:=∃H',Inv X pins σ H' s'/\Q b H'
def AP(X:Cx)(pins:List (PY×Obj))(σ:St)(Q:List V->Hp->Prop)(us:List PX)(s':PZ):Prop:=∃vs H',Inv X pins σ H' s'/\Vals vs us/\Q vs H'
def SP(X:Cx)(pins:List (PY×Obj))(D:Ends)(f:Flow)(s':PZ):Prop:=
 match f with
 | .next=>∃σ' H',Inv X pins σ' H' s'/\D.nx σ' H'
 | .brk=>∃σ' H',Inv X pins σ' H' s'/\D.bk σ' H'
 | .cont=>∃σ' H',Inv X pins σ' H' s'/\D.ct σ' H'
 | .ret u=>∃v σ' H',Inv X pins σ' H' s'/\RelV v u/\D.rt v H'
def PE(X:Cx)(e:Expr)(t:TE):Prop:=
 ∀(pins:List (PY×Obj))(s:PZ)(σ:St)(H:Hp)(Q:VK),Inv X pins σ H s->t σ H Q->Qf (model X.prog X.w) X.A (eval e X.env) (EP X pins σ Q) X.xe s
def PT(X:Cx)(e:Expr)(t:TT):Prop:=
 ∀(pins:List (PY×Obj))(s:PZ)(σ:St)(H:Hp)(Q:Bool->Hp->Prop),Inv X pins σ H s->t σ H Q->Qf (model X.prog X.w) X.A (isTrue e X.env (eval e X.env)) (TP X pins σ Q) X.xe s
def PW(X:Cx)(e:Expr)(t:TT):Prop:=
 ∀(whole:Sem PX)(pins:List (PY×Obj))(s:PZ)(σ:St)(H:Hp)(Q:Bool->Hp->Prop),Inv X pins σ H s->t σ H Q->Qf (model X.prog X.w) X.A (isTrue e X.env whole) (TP X pins σ Q) X.xe s
theorem PW.pt {X:Cx}{e:Expr}{t:TT}(h:PW X e t):PT X e t:=h _
def PA(X:Cx)(es:List Expr)(t:TA):Prop:=
 ∀(pos:Pos)(pins:List (PY×Obj))(s:PZ)(σ:St)(H:Hp)(Q:List V->Hp->Prop),Inv X pins σ H s->t σ H Q->Qf (model X.prog X.w) X.A (spliced (Qe pos (Qb es X.env))) (AP X pins σ Q) X.xe s
def PS(X:Cx)(st:Stmt)(t:TS):Prop:=
 ∀(pins:List (PY×Obj))(s:PZ)(σ:St)(H:Hp)(D:Ends),Inv X pins σ H s->t D σ H->Qf (model X.prog X.w) X.A (exec st X.env) (SP X pins D) X.xe s
def t5(X:Cx)(st:List Stmt)(t:TS):Prop:=
 ∀(pins:List (PY×Obj))(s:PZ)(σ:St)(H:Hp)(D:Ends),Inv X pins σ H s->t D σ H->Qf (model X.prog X.w) X.A (execs st X.env) (SP X pins D) X.xe s
theorem bf{α:Type}{t:Sem α}{Q Q':α->PZ->Prop}{M:Model}{A:P5}{E:PX->PZ->Prop}{s:PZ}(h:Qf M A t Q E s)(hQ:∀a s,Q a s->Q' a s):Qf M A t Q' E s:=Qa h hQ fun _ _ x=>x
section
variable{X:Cx}
theorem bin{a b:Expr}{ta tb:TE}(ha:PE X a ta)(hb:PE X b tb){pins:List (PY×Obj)}{s:PZ}{σ:St}{H:Hp}{R:V->V->Hp->Prop}(I:Inv X pins σ H s)(h:ta σ H fun x H1=>tb σ H1 fun y H2=>R x y H2)
  {α:Type} {Q:α->PZ->Prop} {f:PX->PX->Sem α}
  (hf:∀v u s2 x y H2,Inv X pins σ H2 s2->RelV x v->RelV y u->R x y H2->Qf (model X.prog X.w) X.A (f v u) Q X.xe s2):
  Qf (model X.prog X.w) X.A (eval a X.env) (fun v s₁=>Qf (model X.prog X.w) X.A (eval b X.env) (fun u s₂=>Qf (model X.prog X.w) X.A (f v u) Q X.xe s₂) X.xe s₁) X.xe s:=by
 refine bf (ha pins s σ H _ I h) fun v s1 ⟨x,H1,I1,r1,q1⟩=>?_;refine bf (hb pins s1 σ H1 _ I1 q1) fun u s2 ⟨y,H2,I2,r2,q2⟩=>?_;exact hf v u s2 x y H2 I2 r1 r2 q2
def qw(i:Nat):TE:=fun σ H Q=>∃v,σ[i]?=some (some v)/\Q v H
def tC(v:V):TE:=fun _ H Q=>Q v H
theorem F8{i:Nat}{x:Str}{pos:Pos}(hN:X.N[i]?=some x)(hv:Nx X.env.scope x)(hd:(x==("__debug__" :Str))=false:=by decide)(hcd:(x==("__classdict__" :Str))=false:=by decide):PE X (.Name x pos) (qw i):=by
 intro pins s σ H Q I h;obtain⟨v,e,h⟩:=h;obtain⟨m,hn,hl⟩:=I.loc;obtain⟨u,r,l⟩:=hl i x v hN e hv;have fin:EP X pins σ Q u s:=⟨v,H,I,r,h⟩;rcases l with⟨hk,hm⟩|⟨hk,c,hc,hcell⟩
 .exact wpAny_Name (wpAny_loadName_local I.ok.kind hk hn hm fin) hd
 .rcases hk with hk|hk
  .exact wpAny_Name (wpAny_loadName_cell I.ok.kind hk hc hcell fin) hd
  .exact wpAny_Name (wpAny_loadName_free I.ok.kind hk hc hcell fin hcd) hd
theorem aj{i j pos}:PE X (.Constant (.int i) j pos) (tC (.int i)):=fun _ _ _ H _ I h=>wpAny_Constant_int ⟨.int i,H,I.tok _,⟨_,rfl⟩,h⟩
theorem eT{b j pos}:PE X (.Constant (.bool b) j pos) (tC (.bl b)):=fun _ _ _ H _ I h=>Constant_bool ⟨.bl b,H,I,rfl,h⟩
theorem Ak{j pos}:PE X (.Constant .none j pos) (tC .cE):=fun _ _ _ H _ I h=>Constant_none ⟨.cE,H,I,rfl,h⟩
theorem ak{x j pos}:PE X (.Constant (.str x) j pos) (tC (.str x)):=fun _ _ _ H _ I h=>Calls.Constant_str ⟨.str x,H,I.tok _,⟨_,rfl⟩,h⟩
def Gl(X:Cx)(x:Str):Prop:=X.env.kindOf x=some .globalImplicit
theorem fY{E:PX->PZ->Prop}{pins:List (PY×Obj)}{s:PZ}{σ:St}{H:Hp}{x:Str}{u:PX}{pos:Pos}{Q:PX->PZ->Prop}(I:Inv X pins σ H s)(hg:Gl X x)(hm:X.mg x=some u)(h:Q u s)
  (hd:(x==("__debug__" :Str))=false:=by decide):Qf (model X.prog X.w) X.A (eval (.Name x pos) X.env) Q E s:=
 Calls.Name_function_global I.ok.kind hg (Calls.loadGlobal_global (by rw[I.ok.glob];exact I.mod.glob.keeps I.bk) hm h) hd
theorem kL{E:PX->PZ->Prop}{pins:List (PY×Obj)}{s:PZ}{σ:St}{H:Hp}{x:Str}{u:PX}{pos:Pos}{Q:PX->PZ->Prop}(I:Inv X pins σ H s)(hg:Gl X x)(hm:X.mg x=none)(hv:bootBuiltins x=some u)(h:Q u s)
  (hn:x≠"__name__" :=by decide) (hd:(x==("__debug__" :Str))=false:=by decide):Qf (model X.prog X.w) X.A (eval (.Name x pos) X.env) Q E s:=by
 obtain⟨mb,h1,h2⟩:=I.mod.blt;exact Calls.Name_function_global I.ok.kind hg (Calls.loadGlobal_builtin (by rw[I.ok.glob];exact I.mod.glob.keeps I.bk) hm (by rw[I.ok.blt];exact h1.keeps I.bk) ((h2 x hn).trans hv) h) hd
theorem de{x:Str}{v:V}{u:PX}{pos:Pos}(hg:Gl X x)(hm:X.mg x=some u)(r:RelV v u)(hd:(x==("__debug__" :Str))=false:=by decide):PE X (.Name x pos) (tC v):=
 fun _ _ _ H _ I h=>fY I hg hm ⟨v,H,I,r,h⟩ hd
theorem jG{x:Str}{v:V}{u:PX}{pos:Pos}(hg:Gl X x)(hm:X.mg x=none)(hv:bootBuiltins x=some u)(r:RelV v u)(hn:x≠"__name__" :=by decide)(hd:(x==("__debug__" :Str))=false:=by decide):PE X (.Name x pos) (tC v):=
 fun _ _ _ H _ I h=>kL I hg hm hv ⟨v,H,I,r,h⟩ hn hd
variable{a b:Expr}{ta tb:TE}{pos:Pos}
def PC(X:Cx)(op:CmpOp)(a b:Expr)(t:TE):Prop:=
 ∀(pins:List (PY×Obj))(s:PZ)(σ:St)(H:Hp)(Q:VK),Inv X pins σ H s->t σ H Q->
  Qf (model X.prog X.w) X.A (eval a X.env) (fun v s₁=>Qf (model X.prog X.w) X.A (eval b X.env) (fun u s₂=>Qf (model X.prog X.w) X.A (compareOp op v u) (EP X pins σ Q) X.xe s₂) X.xe s₁) X.xe s
def tB(t:TE):TT:=fun σ H Q=>t σ H fun x H1=>∃c,x= .bl c/\Q c H1
theorem vK{op:CmpOp}{t:TE}(h:PC X op a b t)(h1:behindInMarks op b=false:=by first|exact nobehind _ (by decide) (by decide)|rfl):PT X (.Compare a [op] [b] pos) (tB t):=by
 intro pins s σ H Q I hw;refine wpAny_isTrue_Compare1 (bf (h pins s σ H _ I hw) fun v s1 h1=>bf h1 fun u s2 h2=>bf h2 fun c s3 ⟨x,H1,I1,r1,q1⟩=>?_) h1;obtain⟨d,rfl,q⟩:=q1;cases r1;exact wpAny_truthy_bool ⟨H1,I1,q⟩
theorem dq{e:Expr}{t:TE}(h:PE X e t)(he:∀whole,isTrue e X.env whole=(do let v←whole;standAt e.pos;holding [v] (truthy v)):=by intro _;rfl):PT X e (tB t):=by
 intro pins s σ H Q I hw;refine isTrue_plain (bf (h pins s σ H _ I hw) fun v s1 ⟨x,H1,I1,r1,q1⟩=>?_) (he _);obtain⟨d,rfl,q⟩:=q1;cases r1;exact wpAny_truthy_bool ⟨H1,I1,q⟩
variable{tA tB':TT}{rest:List Expr}
def NX(t u:TT):TT:=fun σ H Q=>t σ H fun c H1=>if c=true then u σ H1 Q else Q false H1
def OQ(t u:TT):TT:=fun σ H Q=>t σ H fun c H1=>if c=true then Q true H1 else u σ H1 Q
def NH(t:TT):TT:=fun σ H Q=>t σ H fun c H1=>Q (!c) H1
theorem lN(ha:PT X a tA):PW X (.BoolOp .And [a] pos) tA:=by
 intro wh pins s σ H Q I h;refine isTrue_and (bf (ha pins s σ H Q I h) fun c s1 e=>?_)
 cases c with
 |true=>exact isTrue_and_nil e
 |false=>exact e
theorem dG(ha:PT X a tA):PW X (.BoolOp .Or [a] pos) tA:=by
 intro wh pins s σ H Q I h;refine isTrue_or (bf (ha pins s σ H Q I h) fun c s1 e=>?_)
 cases c with
 |false=>exact isTrue_or_nil e
 |true=>exact e
theorem pH(ha:PT X a tA)(hb:PW X (.BoolOp .And (b::rest) pos) tB'):PW X (.BoolOp .And (a::b::rest) pos) (NX tA tB'):=by
 intro wh pins s σ H Q I h;refine isTrue_and (bf (ha pins s σ H _ I h) fun c s1 ⟨H1,I1,q1⟩=>?_)
 cases c with
 |true=>exact hb wh pins s1 σ H1 Q I1 q1
 |false=>exact⟨H1,I1,q1⟩
theorem fu(ha:PT X a tA)(hb:PW X (.BoolOp .Or (b::rest) pos) tB'):PW X (.BoolOp .Or (a::b::rest) pos) (OQ tA tB'):=by
 intro wh pins s σ H Q I h;refine isTrue_or (bf (ha pins s σ H _ I h) fun c s1 ⟨H1,I1,q1⟩=>?_)
 cases c with
 |true=>exact⟨H1,I1,q1⟩
 |false=>exact hb wh pins s1 σ H1 Q I1 q1
theorem dm(ha:PT X a tA):PT X (.UnaryOp .Not a pos) (NH tA):=by
 intro pins s σ H Q I h;exact isTrue_not (ha pins s σ H (fun c H1=>Q (!c) H1) I h)
def M7(ta tb:TE):TE:=fun σ H Q=>ta σ H fun x H1=>∃c,x= .bl c/\if c=true then tb σ H1 Q else Q (.bl false) H1
def Nc(ta:TE):TE:=fun σ H Q=>ta σ H fun x H1=>∃c,x= .bl c/\Q (.bl (!c)) H1
theorem wR{op}{t:TE}(h:PE X a t):PE X (.BoolOp op [a] pos) t:=fun pins s σ H Q I hw=>BoolOp_one (h pins s σ H Q I hw)
theorem wK(ha:PE X a ta)(hb:PE X (.BoolOp .And (b::rest) pos) tb):PE X (.BoolOp .And (a::b::rest) pos) (M7 ta tb):=by
 intro pins s σ H Q I h;refine BoolOp_and (bf (ha pins s σ H _ I h) fun v s1 ⟨x,H1,I1,r1,q1⟩=>?_);obtain⟨c,rfl,q1⟩:=q1;cases r1;refine wpAny_truthy_bool ?_
 cases c with
 |true=>exact hb pins s1 σ H1 Q I1 q1
 |false=>exact⟨.bl false,H1,I1,rfl,q1⟩
theorem KL(ha:PE X a ta):PE X (.UnaryOp .Not a pos) (Nc ta):=by
 intro pins s σ H Q I h;refine UnaryOp_ (bf (ha pins s σ H _ I h) fun v s1 ⟨x,H1,I1,r1,q1⟩=>?_);obtain⟨c,rfl,q1⟩:=q1;cases r1;exact not_of (wpAny_truthy_bool ⟨.bl (!c),H1,I1,rfl,q1⟩)
def OS(t:TT)(ta tb:TE):TE:=fun σ H Q=>t σ H fun c H1=>if c=true then ta σ H1 Q else tb σ H1 Q
theorem xY{c:Expr}(hc:PT X c tA)(ha:PE X a ta)(hb:PE X b tb):PE X (.IfExp c a b pos) (OS tA ta tb):=by
 intro pins s σ H Q I h;refine wpAny_IfExp (bf (hc pins s σ H _ I h) fun d s1 ⟨H1,I1,q1⟩=>?_)
 cases d with
 |true=>exact ha pins s1 σ H1 Q I1 q1
 |false=>exact hb pins s1 σ H1 Q I1 q1
end
def aI(K:W.Frag)(H:Hp)(a:PY)(xs:List V):Prop:=
 Rd H a (.lst xs)\/
  ∃(o:Obj)(its:Array PX)(n:Nat),K.lookup a=some o/\o.cls= .type "list"/\o.dict=none/\o.data= .seq its n/\its.size<=P6/\Vals xs its.toList
def gL(K:W.Frag)(H:Hp)(a:PY)(xs:List V):Prop:=
 Rd H a (.tup xs)\/
  ∃(o:Obj)(its:Array PX)(n:Nat),K.lookup a=some o/\o.cls= .type "tuple"/\o.data= .seq its n/\its.size<=P6/\Vals xs its.toList
def N9:PX->Option V
 | .none=>some .cE
 | .bool b=>some (.bl b)
 | .int i _=>some (.int i)
 | .str x _=>some (.str x)
 | .bytes b _=>some (.byt b)
 | .float b _=>some (.tM b)
 | .ref a=>some (.ref a)
 | .type n=>some (.ty n)
 |_=>none
theorem RelV.abs {x:V}{u:PX}(r:RelV x u):N9 u=some x:=by
 cases x with
 |cE=>cases r;rfl
 |bl _=>cases r;rfl
 |int _=>obtain⟨t,rfl⟩:=r;rfl
 |str _=>obtain⟨t,rfl⟩:=r;rfl
 |byt _=>obtain⟨t,rfl⟩:=r;rfl
 |tM _=>obtain⟨t,rfl⟩:=r;rfl
 |ref _=>cases r;rfl
 |ty _=>cases r;rfl
theorem RelV.inj {x y:V}{u:PX}(r:RelV x u)(q:RelV y u):x=y:=PU (r.abs.symm.trans q.abs)
theorem Vals.inj:∀{xs ys:List V}{us:List PX},Vals xs us->Vals ys us->xs=ys
 |_,_,_,.nil,.nil=>rfl
 |_,_,_,.cons r t,.cons r' t'=>by rw[r.inj r',Vals.inj t t']
section
variable{X:Cx}{pins:List (PY×Obj)}{σ:St}{H:Hp}{s:PZ}{a:PY}{xs ys:List V}
theorem aI.of {K:W.Frag}(h:H a=some (.lst xs)):aI K H a xs:= .inl (.inl h)
theorem gL.of {K:W.Frag}(h:H a=some (.tup xs)):gL K H a xs:= .inl (.inl h)
theorem Inv.list (I:Inv X pins σ H s)(h:aI X.K H a xs):∃its:List PX,Vals xs its/\PlainL s.heap a its.toArray/\xs.length<=P6:=by
 rcases h with h|⟨o,its,n,hk,hc,hd,hs,hz,r⟩
 .obtain⟨z,its,n,r,e⟩:=h.ok I.aX
  exact⟨its,r,⟨_,n,e,rfl,rfl,rfl⟩,z⟩
 .refine⟨its.toList,r,⟨o,n,I.jD a o hk,hc,hd,by simpa using hs⟩,?_⟩
  have e:=r.length;simp only[Array.length_toList]at e;lia
theorem Inv.tuple (I:Inv X pins σ H s)(h:gL X.K H a xs):∃its:List PX,Vals xs its/\IsTup s.heap a its.toArray/\xs.length<=P6:=by
 rcases h with h|⟨o,its,n,hk,hc,hs,hz,r⟩
 .obtain⟨z,its,r,p⟩:=h.ok I.aX
  exact⟨its,r,p,z⟩
 .refine⟨its.toList,r,⟨o,I.jD a o hk,hc,n,by simpa using hs⟩,?_⟩
  have e:=r.length;simp only[Array.length_toList]at e;lia
theorem Inv.Gx (I:Inv X pins σ H s)(h:aI X.K H a xs)(h':aI X.K H a ys):xs=ys:=by
 obtain⟨its,r,⟨o,n,e,_,_,d⟩,_⟩:=I.list h;obtain⟨its',r',⟨o',n',e',_,_,d'⟩,_⟩:=I.list h';rw[e]at e';cases e';rw[d]at d';injection d' with d1 _
 have:its=its':=by simpa using congrArg Array.toList d1
 subst this;exact r.inj r'
theorem Inv.Dh (I:Inv X pins σ H s)(h:gL X.K H a xs)(h':gL X.K H a ys):xs=ys:=by
 obtain⟨its,r,⟨o,e,_,n,d⟩,_⟩:=I.tuple h;obtain⟨its',r',⟨o',e',_,n',d'⟩,_⟩:=I.tuple h';rw[e]at e';cases e';rw[d]at d';injection d' with d1 _
 have:its=its':=by simpa using congrArg Array.toList d1
 subst this;exact r.inj r'
end
abbrev Cx.tV (X:Cx)(E:PX->PZ->Prop):Cx:={X with xe:=E}
abbrev Cx.Nr (X:Cx):Cx:=X.tV fun _ _=>False
theorem Cx.Ok.tV {X:Cx}(ok:X.Ok)(E:PX->PZ->Prop):(X.tV E).Ok:=
 ⟨ok.mod,ok.kind,ok.glob,ok.blt,ok.above,ok.inj,ok.has,ok.DZ,ok.hd,ok.frames,ok.Dm,ok.HZ,ok.bs,ok.z8,ok.qx,ok.rN,ok.jc,ok.p7⟩
theorem Cx.Ok.kT {X:Cx}{E:PX->PZ->Prop}(ok:(X.tV E).Ok):X.Ok:=
 ⟨ok.mod,ok.kind,ok.glob,ok.blt,ok.above,ok.inj,ok.has,ok.DZ,ok.hd,ok.frames,ok.Dm,ok.HZ,ok.bs,ok.z8,ok.qx,ok.rN,ok.jc,ok.p7⟩
section
variable{X:Cx}{pins:List (PY×Obj)}{σ:St}{H:Hp}{s:PZ}{E:PX->PZ->Prop}
theorem Inv.tV (I:Inv X pins σ H s)(E:PX->PZ->Prop):Inv (X.tV E) pins σ H s:=⟨I.ok.tV E,I.os,I.bare,I.base,I.loc,I.cell,I.free,I.dZ,I.pin,I.aX,I.len⟩
theorem Inv.kT (I:Inv (X.tV E) pins σ H s):Inv X pins σ H s:=⟨I.ok.kT,I.os,I.bare,I.base,I.loc,I.cell,I.free,I.dZ,I.pin,I.aX,I.len⟩
theorem SP.kT {D:Ends}{f:Flow}{s':PZ}(h:SP (X.tV E) pins D f s'):SP X pins D f s':=by
 cases f with
 |next=>obtain⟨σ',H',I,q⟩:=h;exact⟨σ',H',I.kT,q⟩
 |brk=>obtain⟨σ',H',I,q⟩:=h;exact⟨σ',H',I.kT,q⟩
 |cont=>obtain⟨σ',H',I,q⟩:=h;exact⟨σ',H',I.kT,q⟩
 |ret u=>obtain⟨v,σ',H',I,r,q⟩:=h;exact⟨v,σ',H',I.kT,r,q⟩
theorem t5.Nr {st:List Stmt}{t:TS}(h:t5 X.Nr st t):t5 X st t:=fun pins s σ H D I hw=>
 Qa (h pins s σ H D (I.tV _) hw) (fun _ _ q=>q.kT) fun _ _ z=>False.elim z
end
section
variable{X:Cx}{st:Stmt}{rest:List Stmt}{t u:TS}{e:Expr}{te:TE}{pos:Pos}
def Mf:TS:=fun D σ H=>D.nx σ H
def AY(t u:TS):TS:=fun D σ H=>t {D with nx:=u D} σ H
theorem ax:t5 X [] Mf:=fun _ _ σ H _ I h=>wpAny_execs_nil ⟨σ,H,I,h⟩
theorem ag(h1:PS X st t)(h2:t5 X rest u):t5 X (st::rest) (AY t u):=by
 intro pins s σ H D I h;refine wpAny_execs_cons (bf (h1 pins s σ H {D with nx:=u D} I h) fun f s1 q=>?_)
 cases f with
 |next=>
  obtain⟨σ',H',I',q⟩:=q;exact h2 pins s1 σ' H' D I' q
 |ret v=>exact q
 |brk=>exact q
 |cont=>exact q
theorem ah(h1:PS X st t):t5 X [st] t:=by
 intro pins s σ H D I h;refine wpAny_execs_cons (bf (h1 pins s σ H D I h) fun f s1 q=>?_)
 cases f with
 |next=>exact wpAny_execs_nil q
 |ret v=>exact q
 |brk=>exact q
 |cont=>exact q
theorem Inv.quiet {pins:List (PY×Obj)}{σ:St}{H:Hp}{s:PZ}(I:Inv X pins σ H s):interactive X.env=false:=by simp[interactive,I.ok.kind]
def Js(te:TE):TS:=fun D σ H=>te σ H fun _ H1=>D.nx σ H1
theorem cj(he:PE X e te)(hs:swapsWith e none pos.line X.env=pure false:=by rfl):PS X (.Expr e pos) (Js te):=by
 intro pins s σ H D I h;exact wpAny_Expr_any (bf (he pins s σ H _ I h) fun v s1 ⟨x,H1,I1,r1,q1⟩=>⟨σ,H1,I1,q1⟩) I.quiet hs
def FU(te:TE):TS:=fun D σ H=>te σ H D.rt
theorem ay(he:PE X e te):PS X (.Return (some e) pos) (FU te):=by
 intro pins s σ H D I h;exact wpAny_Return_some (bf (he pins s σ H _ I h) fun v s1 ⟨x,H1,I1,r1,q1⟩=>⟨x,σ,H1,I1,r1,q1⟩)
def Dr(c:TT)(t u:TS):TS:=fun D σ H=>c σ H fun b H1=>if b=true then t D σ H1 else u D σ H1
theorem aN{c:Expr}{a b:List Stmt}{tc:TT}(hc:PT X c tc)(ha:t5 X a t)(hb:t5 X b u):PS X (.If c a b pos) (Dr tc t u):=by
 intro pins s σ H D I h;refine wpAny_If (bf (hc pins s σ H _ I h) fun d s1 ⟨H1,I1,q1⟩=>?_)
 cases d with
 |true=>exact ha pins s1 σ H1 D I1 q1
 |false=>exact hb pins s1 σ H1 D I1 q1
def Kw:TS:=fun _ _ _=>False
theorem nZ:PS X st Kw:=fun _ _ _ _ _ _ h=>h.elim
end
abbrev TG:=V->St->Hp->(St->Hp->Prop)->Prop
abbrev Jt:=List V->St->Hp->(St->Hp->Prop)->Prop
def PG(X:Cx)(target:Expr)(t:TG):Prop:=
 ∀(pins:List (PY×Obj))(s:PZ)(σ:St)(H:Hp)(v:V)(u:PX)(Q:St->Hp->Prop),Inv X pins σ H s->RelV v u->t v σ H Q->
  Qf (model X.prog X.w) X.A (assign target X.env u) (fun _ s'=>∃σ' H',Inv X pins σ' H' s'/\Q σ' H') X.xe s
def MG(X:Cx)(ts:List Expr)(t:Jt):Prop:=
 ∀(pins:List (PY×Obj))(s:PZ)(σ:St)(H:Hp)(vs:List V)(us:List PX)(Q:St->Hp->Prop),Inv X pins σ H s->Vals vs us->t vs σ H Q->
  Qf (model X.prog X.w) X.A (assignInOrder ((assignEach ts X.env).map (·.2)) us) (fun _ s'=>∃σ' H',Inv X pins σ' H' s'/\Q σ' H') X.xe s
abbrev Ka:=V->V->V->Hp->(Hp->Prop)->Prop
def LX(X:Cx)(t:Ka):Prop:=
 ∀(pins:List (PY×Obj))(s:PZ)(σ:St)(H:Hp)(o i v:V)(ov iv u:PX)(Q:Hp->Prop),Inv X pins σ H s->RelV o ov->RelV i iv->RelV v u->t o i v H Q->
  Qf (model X.prog X.w) X.A (setItem ov iv u) (fun _ s'=>∃H',Inv X pins σ H' s'/\Q H') X.xe s
section
variable{X:Cx}{pos:Pos}
def cT(i:Nat):TG:=fun v σ H Q=>Q (σ.set i (some v)) H
theorem aA{i:Nat}{x:Str}(hN:X.N.Nodup)(hi:X.N[i]?=some x)(hx:Loc X.env.scope x)(hf:X.fn x=true\/X.env.scope.names.lookup x=some .local:=by first|exact .inl rfl|exact .inr rfl|assumption):PG X (.Name x pos) (cT i):=by
 intro pins s σ H v u Q I r h;exact wpAny_assign_Name (kn I hN hi hx r (fun s' I'=>⟨_,H,I',h⟩) hf)
def Ld:Jt:=fun vs σ H Q=>vs=[]/\Q σ H
def zr(t:TG)(u:Jt):Jt:=fun vs σ H Q=>∃v r,vs=v::r/\t v σ H fun σ' H'=>u r σ' H' Q
theorem gS:MG X [] Ld:=by
 intro pins s σ H vs us Q I r h;obtain⟨e,h⟩:=h;subst e;cases r;exact assignInOrder_nil ⟨σ,H,I,h⟩
theorem bD{e:Expr}{es:List Expr}{t:TG}{u:Jt}(h1:PG X e t)(h2:MG X es u)
  (hs:(assignEach (e::es) X.env).map (·.2)=assign e X.env::(assignEach es X.env).map (·.2):=by rfl):MG X (e::es) (zr t u):=by
 intro pins s σ H vs us Q I r h;obtain⟨v,vr,e1,h⟩:=h;subst e1
 cases r with
 |cons r rr=>
  rw[hs];refine assignInOrder_cons (bf (h1 pins s σ H _ _ _ I r h) fun _ s1 ⟨σ1,H1,I1,q1⟩=>?_);exact h2 pins s1 σ1 H1 _ _ Q I1 rr q1
def Ia(K:W.Frag)(n:Nat)(t:Jt):TG:=fun v σ H Q=>∃a xs,v= .ref a/\gL K H a xs/\xs.length=n/\t xs σ H Q
theorem KS{es:List Expr}{k:Nat}{t:Jt}{n:Nat}(hc:X.calm=true)(h:MG X es t)
  (hn:(assignEach es X.env).length=n:=by rfl) (hst:(assignEach es X.env).findIdx? (·.1)=none:=by rfl):PG X (.Tuple es k pos) (Ia X.K n t):=by
 intro pins s σ H v u Q I r hw;obtain⟨a,xs,e1,hq,hl,hw⟩:=hw;subst e1;cases r;obtain⟨its,rv,ht,hz⟩:=I.tuple hq;refine assign_Tuple_tuple (I.ok.hd hc) ht (by simp[hn,←hl,rv.length]) hst fun h' hx=>?_;have I1:Inv X pins σ H {s with heap:=h'}:=I.kept (t':=s.toks) fun b o e=>hx b o (PM (Qd.lt_size e)) e;exact h pins _ σ H xs _ Q I1 (by simpa using rv) hw
def Oo(to ti:TE)(t:Ka):TG:=fun v σ H Q=>to σ H fun o H1=>ti σ H1 fun i H2=>t o i v H2 fun H3=>Q σ H3
theorem pK{o i:Expr}{to ti:TE}{t:Ka}(ho:PE X o to)(hi:PE X i ti)(hs:LX X t)
  (ha:∀v,assign (.Subscript o i pos) X.env v=(do
   let ov←holding [v] (eval o X.env)
   let iv←holding [v,ov] (eval i X.env)
   standAt pos
   holding [v,ov,iv] (setItem ov iv v)
   release [v,ov,iv] []):=by intro _;rfl):PG X (.Subscript o i pos) (Oo to ti t):=by
 intro pins s σ H v u Q I r h;rw[ha];refine P8 (wpAny_holding (bf (ho pins s σ H _ I h) fun ov s1 ⟨x,H1,I1,r1,q1⟩=>?_));refine P8 (wpAny_holding (bf (hi pins s1 σ H1 _ I1 q1) fun iv s2 ⟨y,H2,I2,r2,q2⟩=>?_));refine P8 (wpAny_standAt (P8 (wpAny_holding (bf (hs pins s2 σ H2 x y v ov iv u _ I2 r1 r2 r q2) fun _ s3 ⟨H3,I3,q3⟩=>?_))));exact wpAny_release ⟨σ,H3,I3,q3⟩
def Ae(te:TE)(g:TG):TS:=fun D σ H=>te σ H fun x H1=>g x σ H1 D.nx
theorem pJ{tg e:Expr}{te:TE}{g:TG}(he:PE X e te)(hg:PG X tg g)(hs:swapsWithSole [tg] e pos.line X.env=pure false:=by rfl)(hw:swappedStores [tg] e X.env=pure none:=by rfl)
  (h1:(assignEach [tg] X.env).map (·.2)=[assign tg X.env]:=by rfl):PS X (.Assign [tg] e pos) (Ae te g):=by
 intro pins s σ H D I h;refine wpAny_Assign_stores (bf (he pins s σ H _ I h) fun v s1 ⟨x,H1,I1,r1,q1⟩=>?_) hs hw;rw[h1];exact bf (hg pins s1 σ H1 x v _ I1 r1 q1) fun _ s2 q=>q
theorem aC{i:Nat}{x:Str}{e:Expr}{te:TE}{pos':Pos}(hN:X.N.Nodup)(hi:X.N[i]?=some x)(hx:Loc X.env.scope x)(he:PE X e te)(hs:swapsWith e (some (.Name x pos')) pos.line X.env=pure false:=by rfl)(hf:X.fn x=true\/X.env.scope.names.lookup x=some .local:=by first|exact .inl rfl|exact .inr rfl|assumption):
  PS X (.Assign [.Name x pos'] e pos) (Ae te (cT i)):=by
 intro pins s σ H D I h;refine wpAny_Assign_Name (bf (he pins s σ H _ I h) fun v s1 ⟨y,H1,I1,r1,q1⟩=>?_) hs;exact kn I1 hN hi hx r1 (fun s2 I2=>⟨_,H1,I2,q1⟩) hf
end
section
variable{X:Cx}{pos:Pos}
def KA(c:TT)(tb:TS):TS:=fun D σ H=>∃W:Nat->St->Hp->Prop,(∃m,W m σ H)/\∀m σ H,W m σ H->
 c σ H fun b H1=>if b=true then∃N:St->Hp->Prop,(∀σ' H',N σ' H'->∃m',m'<m/\W m' σ' H')/\tb {D with nx:=N,ct:=N,bk:=D.nx} σ H1 else D.nx σ H1
theorem yK{c:Expr}{body:List Stmt}{tc:TT}{tb:TS}(hp:PassesOwn (model X.prog X.w) X.A X.env X.xe)(hc:PT X c tc)(hb:t5 X body tb):PS X (.While c body [] pos) (KA tc tb):=by
 intro pins s σ H D I h;obtain⟨W,⟨m0,w0⟩,turn⟩:=h;refine wpAny_While (codeAny_whileLoop (fun n s'=>∃σ' H',Inv X pins σ' H' s'/\W n σ' H') ?_ m0 ⟨σ,H,I,w0⟩);rintro n s1 ⟨σ1,H1,I1,w1⟩;refine wpAny_passesOwn hp (bf (hc pins s1 σ1 H1 _ I1 (turn n σ1 H1 w1)) fun b s2 ⟨H2,I2,q2⟩=>?_)
 cases b with
 |true=>
  obtain⟨N,hN,q2⟩:=q2;rw[if_pos rfl];refine wpAny_passesOwn hp (bf (hb pins s2 σ1 H2 _ I2 q2) fun f s3 q3=>?_)
  cases f with
  |next=>
   obtain⟨σ3,H3,I3,n3⟩:=q3;obtain⟨m',hm,w3⟩:=hN σ3 H3 n3;exact⟨m',hm,σ3,H3,I3,w3⟩
  |cont=>
   obtain⟨σ3,H3,I3,n3⟩:=q3;obtain⟨m',hm,w3⟩:=hN σ3 H3 n3;exact⟨m',hm,σ3,H3,I3,w3⟩
  |brk=>exact q3
  |ret v=>exact q3
 |false=>
  rw[if_neg PR];exact wpAny_execs_nil ⟨σ1,H2,I2,q2⟩
end
structure It where
 go:Nat->Hp->Prop
 Hs:Nat->Hp->V->Hp->Prop
 stop:Nat->Hp->Prop
def kj(X:Cx)(pins:List (PY×Obj))(H:Hp)(b:PY):Prop:=
 H b=none/\b≠X.env.locals/\b∉X.fs/\(b∈X.ex\/X.s₀.heap.objs.size<=b)/\(∀x c,X.env.cells.lookup x=some c->c≠b)/\∀p∈X.pn++pins,p.1≠b
theorem Inv.qy {X:Cx}{pins:List (PY×Obj)}{σ:St}{H H':Hp}{s:PZ}{b:PY}(I:Inv X pins σ H s)(hb:s.heap.objs.size<=b)(hn:H' b=none):kj X pins H' b:=by
 refine⟨hn,Nat.ne_of_gt (PL I.lt hb),I.LQ hb,.inr (PN I.sz hb),fun x c e z=>?_,fun p hp z=>?_⟩
 .obtain⟨v,q⟩:=I.cell x c e
  exact absurd (PL q.lt (by rw[z];exact hb)) (Nat.lt_irrefl _)
 .exact absurd (PL (Qd.lt_size (I.pin p hp).1) (by rw[z];exact hb)) (Nat.lt_irrefl _)
structure Turn(P:P0)(w:P4)(K:W.Frag)(tg:Expr)(J:It)(fp:List PY)(it:PY)(tn:Nat->Qd->Prop):Prop where
 mem:it∈fp
 obj:∀i h,tn i h->∀b∈fp,∃o,h.get? b=some o/\∀v,o.data≠.cell v
 keep:∀i h h',tn i h->(∀b∈fp,∀o,h.get? b=some o->h'.get? b=some o)->tn i h'
 item:∀(X:Cx),X.prog=P->X.w=w->X.K=K->X.calm=true->∀(i:Nat)(pins:List (PY×Obj))(s:PZ)(σ:St)(H:Hp)(E:PX->PZ->Prop),Inv X pins σ H s->(∀b∈fp,kj X pins H b)->tn i s.heap->J.go i H->
  Qf (model P w) X.A (pyNext (.ref it)) (fun r s1=>∃u,r=some u/\
   Qf (model P w) X.A (letOwnedTupleGo tg (.ref it) u) (fun _ s2=>∃x H',Inv X pins σ H' s2/\RelV x u/\J.Hs i H x H'/\tn (i+1) s2.heap/\∀b∈fp,H' b=none) E s1) E s
 done:∀(X:Cx),X.prog=P->X.w=w->X.K=K->X.calm=true->∀(i:Nat)(pins:List (PY×Obj))(s:PZ)(σ:St)(H:Hp)(E:PX->PZ->Prop),Inv X pins σ H s->(∀b∈fp,kj X pins H b)->tn i s.heap->J.stop i H->
  Qf (model P w) X.A (pyNext (.ref it)) (fun r s1=>r=none/\Inv X pins σ H s1) E s
 self:∀(A:P5)(i:Nat)(s:PZ)(Q:PX->PZ->Prop)(E:PX->PZ->Prop),tn i s.heap->Q (.ref it) s->Qf (model P w) A (pyIter (.ref it)) Q E s
abbrev TI:=St->Hp->(It->Hp->Prop)->Prop
def Nl(X:Cx)(pins:List (PY×Obj))(σ:St)(tg:Expr)(R:It->Hp->Prop)(itv:PX)(s2:PZ):Prop:=
 ∃(it:PY)(fp:List PY)(tn:Nat->Qd->Prop)(J:It)(H':Hp),itv= .ref it/\Inv X pins σ H' s2/\Turn X.prog X.w X.K tg J fp it tn/\tn 0 s2.heap/\(∀b∈fp,kj X pins H' b)/\R J H'
def PI(X:Cx)(tg iter:Expr)(wi:TI):Prop:=
 ∀(pins:List (PY×Obj))(s:PZ)(σ:St)(H:Hp)(R:It->Hp->Prop),Inv X pins σ H s->wi σ H R->
  Qf (model X.prog X.w) X.A (eval iter X.env) (fun v s1=>Qf (model X.prog X.w) X.A (pyIter v) (Nl X pins σ tg R) X.xe s1) X.xe s
theorem uY{M:Model}{A:P5}{E:PX->PZ->Prop}{s:PZ}{tg:Expr}{it:PY}{u:PX}{o:Obj}{n:String}{vs:Array PX}{Q:Unit->PZ->Prop}(ho:s.heap.get? it=some o)(hc:o.cls= .type n)(hd:o.data= .fields vs)
  (hn:["enumerate","zip","dict_itemiterator","dict_reverseitemiterator","odict_iterator","itertools.zip_longest","itertools.pairwise"].contains n=false) (hQ:Q () s):Qf M A (letOwnedTupleGo tg (.ref it) u) Q E s:=by
 unfold letOwnedTupleGo;cases tg<;>first
  |exact P9 hQ
  |(cases u<;>first
    |exact P9 hQ
    |(refine P8 (wpAny_load ho ?_)
      rw[hc,hd];show Qf M A (if(["enumerate","zip","dict_itemiterator","dict_reverseitemiterator","odict_iterator","itertools.zip_longest","itertools.pairwise"].contains n&&vs[0]?==some (rawInt _))=true then _ else _) Q E s;rw[if_neg (by intro h;rw[hn,Bool.false_and]at h;cases h)];exact P9 hQ))
def Jc(K:W.Frag)(a:PY):It:=
 ⟨fun i H=>∃xs x,aI K H a xs/\xs[i]?=some x,fun i H x H'=>H'=H/\∀xs,aI K H a xs->xs[i]?=some x,fun i H=>∃xs,aI K H a xs/\xs.length<=i⟩
def Oc(K:W.Frag)(a:PY):It:=
 ⟨fun i H=>∃xs x,gL K H a xs/\xs[i]?=some x,fun i H x H'=>H'=H/\∀xs,gL K H a xs->xs[i]?=some x,fun i H=>∃xs,gL K H a xs/\xs.length<=i⟩
def IT(lo:Int)(n:Nat):It:=⟨fun i _=>i<n,fun i H x H'=>H'=H/\x= .int (lo+i),fun i _=>n<=i⟩
theorem DD{P:P0}{w:P4}{K:W.Frag}{tg:Expr}(a it:PY):Turn P w K tg (Jc K a) [it] it (fun i h=>h.IsListIter it a i)where
 mem:=by simp
 obj:=fun i h st b hb=>by
  have e:b=it:=by simpa using hb
  subst e;obtain⟨o,e,c,d⟩:=st;exact⟨o,e,fun v z=>by rw[d]at z;cases z⟩
 keep:=fun i h h' st k=>st.at fun o e=>k it (by simp) o e
 item:=by
  intro X hP hw hK hc i pins s σ H E I hf st hg;subst hP hw hK;obtain⟨xs,x,hq,hx⟩:=hg;obtain⟨its,rv,p,hz⟩:=I.list hq;obtain⟨u,hu,ru⟩:=rv.get hx;obtain⟨f0,f1,f2,f3,f4,f5⟩:=hf it (by simp);refine wpAny_pyNext_list_item st p.isList (x:=u) (by simpa using hu) fun h' st' sb=>?_;have I1:Inv X pins σ H {s with heap:=h'}:=I.turned (t':=s.toks) (fun b o hb e=>(sb.2 b hb).trans e) f0 f1 f3 f4 f5;obtain⟨o,e,c,d⟩:=id st';exact⟨u,rfl,uY (s:={s with heap:=h'}) e c d (by decide) ⟨x,H,I1,ru,⟨rfl,fun ys hy=>by rw[I.Gx hy hq];exact hx⟩,st',fun b hb=>(hf b hb).1⟩⟩
 done:=by
  intro X hP hw hK hc i pins s σ H E I hf st hg;subst hP hw hK;obtain⟨xs,hq,hx⟩:=hg;obtain⟨its,rv,p,hz⟩:=I.list hq;obtain⟨f0,f1,f2,f3,f4,f5⟩:=hf it (by simp);have hl:=rv.length;exact wpAny_pyNext_list_end (I.ok.hd hc) st p.isList (by simp;lia) fun h' eb=>⟨rfl,I.turned (t':=s.toks) (fun b o hb e=>eb b o hb e) f0 f1 f3 f4 f5⟩
 self:=fun _ _ _ _ _ st h=>wpAny_pyIter_listiter st h
theorem Av{P:P0}{w:P4}{K:W.Frag}{tg:Expr}(a it:PY):Turn P w K tg (Oc K a) [it] it (fun i h=>h.IsTupleIter it a i)where
 mem:=by simp
 obj:=fun i h st b hb=>by
  have e:b=it:=by simpa using hb
  subst e;obtain⟨o,e,c,d⟩:=st;exact⟨o,e,fun v z=>by rw[d]at z;cases z⟩
 keep:=fun i h h' st k=>st.at fun o e=>k it (by simp) o e
 item:=by
  intro X hP hw hK hc i pins s σ H E I hf st hg;subst hP hw hK;obtain⟨xs,x,hq,hx⟩:=hg;obtain⟨its,rv,p,hz⟩:=I.tuple hq;obtain⟨u,hu,ru⟩:=rv.get hx;obtain⟨f0,f1,f2,f3,f4,f5⟩:=hf it (by simp);refine wpAny_pyNext_tuple_item st (show s.heap.IsTuple a its.toArray from p) (x:=u) (by simpa using hu) fun h' st' sb=>?_;have I1:Inv X pins σ H {s with heap:=h'}:=I.turned (t':=s.toks) (fun b o hb e=>(sb.2 b hb).trans e) f0 f1 f3 f4 f5;obtain⟨o,e,c,d⟩:=id st';exact⟨u,rfl,uY (s:={s with heap:=h'}) e c d (by decide) ⟨x,H,I1,ru,⟨rfl,fun ys hy=>by rw[I.Dh hy hq];exact hx⟩,st',fun b hb=>(hf b hb).1⟩⟩
 done:=by
  intro X hP hw hK hc i pins s σ H E I hf st hg;subst hP hw hK;obtain⟨xs,hq,hx⟩:=hg;obtain⟨its,rv,p,hz⟩:=I.tuple hq;obtain⟨f0,f1,f2,f3,f4,f5⟩:=hf it (by simp);have hl:=rv.length;exact wpAny_pyNext_tuple_end (I.ok.hd hc) st (show s.heap.IsTuple a its.toArray from p) (by simp;lia) fun h' eb=>⟨rfl,I.turned (t':=s.toks) (fun b o hb e=>eb b o hb e) f0 f1 f3 f4 f5⟩
 self:=fun _ _ _ _ _ st h=>wpAny_pyIter_tupleiter st h
theorem Au{P:P0}{w:P4}{K:W.Frag}{tg:Expr}(it:PY)(lo:Int)(n:Nat):Turn P w K tg (IT lo n) [it] it (fun i h=>IsRangeIter h it (lo+(i:Nat)*1) ((n:Int)-(i:Nat)) 1)where
 mem:=by simp
 obj:=fun i h st b hb=>by
  have e:b=it:=by simpa using hb
  subst e;exact⟨_,st,fun v z=>by
   have z':Data.fields _=Data.cell v:=z;cases z'⟩
 keep:=fun i h h' st k=>k it (by simp) _ st
 item:=by
  intro X hP hw hK hc i pins s σ H E I hf st hg;subst hP hw hK;obtain⟨f0,f1,f2,f3,f4,f5⟩:=hf it (by simp);have W:=Walks.range (prog:=X.prog) (w:=X.w) (I.ok.hd hc) it lo 1 n;refine W.item i s _ _ hg st fun v h' tk hv st' kk=>?_;obtain⟨t,rfl⟩:=hv;have I1:Inv X pins σ H {s with heap:=h',toks:=tk}:=I.turned (fun b o hb e=>kk b o (by simpa using hb) e) f0 f1 f3 f4 f5;refine⟨_,rfl,uY (s:={s with heap:=h',toks:=tk}) (n:= "range_iterator") st' rfl rfl (by decide) ⟨.int (lo+i),H,I1,⟨t,?_⟩,⟨rfl,rfl⟩,st',fun b hb=>(hf b hb).1⟩⟩;rw[Int.mul_one]
 done:=by
  intro X hP hw hK hc i pins s σ H E I hf st hg;subst hP hw hK;obtain⟨f0,f1,f2,f3,f4,f5⟩:=hf it (by simp);exact wpAny_pyNext_range_end (I.ok.hd hc) st (by have:n<=i:=hg;lia) fun h' eb=>⟨rfl,I.turned (t':=s.toks) (fun b o hb e=>eb b o hb e) f0 f1 f3 f4 f5⟩
 self:=fun _ _ _ _ _ st h=>wpAny_pyIter_rangeiter st h
section
variable{X:Cx}{tg:Expr}
def IV(K:W.Frag)(tl:TE):TI:=fun σ H R=>tl σ H fun x H1=>∃a,x= .ref a/\(∃xs,aI K H1 a xs)/\R (Jc K a) H1
def M5(K:W.Frag)(tl:TE):TI:=fun σ H R=>tl σ H fun x H1=>∃a,x= .ref a/\(∃xs,gL K H1 a xs)/\R (Oc K a) H1
theorem Hi{l:Expr}{tl:TE}(hl:PE X l tl):PI X tg l (IV X.K tl):=by
 intro pins s σ H R I h;refine bf (hl pins s σ H _ I h) fun v s1 ⟨x,H1,I1,r1,q1⟩=>?_;obtain⟨a,e,⟨xs,hq⟩,q⟩:=q1;subst e;cases r1;obtain⟨its,rv,p,hz⟩:=I1.list hq;refine wpAny_pyIter_list p.isList ?_;refine⟨s1.heap.objs.size,[s1.heap.objs.size],_,_,H1,rfl,I1.kept (t':=s1.toks) fun b o e=>Qd.get?_push_of_some _ e,DD a _,⟨_,Qd.get?_push_size _ rfl,rfl,rfl⟩,fun b hb=>?_,q⟩;have e:b=s1.heap.objs.size:=by simpa using hb
 subst e;exact I1.qy (PK _) (I1.aX.fresh (PK _))
theorem J7{l:Expr}{tl:TE}(hl:PE X l tl):PI X tg l (M5 X.K tl):=by
 intro pins s σ H R I h;refine bf (hl pins s σ H _ I h) fun v s1 ⟨x,H1,I1,r1,q1⟩=>?_;obtain⟨a,e,⟨xs,hq⟩,q⟩:=q1;subst e;cases r1;obtain⟨its,rv,p,hz⟩:=I1.tuple hq;refine wpAny_pyIter_tuple (show s1.heap.IsTuple a its.toArray from p) ?_;refine⟨s1.heap.objs.size,[s1.heap.objs.size],_,_,H1,rfl,I1.kept (t':=s1.toks) fun b o e=>Qd.get?_push_of_some _ e,Av a _,⟨_,Qd.get?_push_size _ rfl,rfl,rfl⟩,fun b hb=>?_,q⟩;have e:b=s1.heap.objs.size:=by simpa using hb
 subst e;exact I1.qy (PK _) (I1.aX.fresh (PK _))
theorem y6{pins:List (PY×Obj)}{σ:St}{H:Hp}{s:PZ}{R:It->Hp->Prop}{E:PX->PZ->Prop}{lo hi:Int}{t u v:Tok}{tk:Nat}(I:Inv X pins σ H s)(h1: -(2^62)<=lo)(h2:lo<2^62)(h3: -(2^62)<=hi)(h4:hi<2^62)
  (q:R (IT lo (hi-lo).toNat) H):Qf (model X.prog X.w) X.A (pyIter (.ref s.heap.objs.size)) (Nl X pins σ tg R) E {s with heap:=s.heap.push {cls:= .type "range",data:= .fields #[.int lo t,.int hi u,.int 1 v]},toks:=tk}:=by
 refine wpAny_pyIter_range (IsRange.new ..) (small_one h1 h2 h3 h4) ?_;have I1:Inv X pins σ H {s with heap:=s.heap.push {cls:= .type "range",data:= .fields #[.int lo t,.int hi u,.int 1 v]},toks:=tk}:=I.kept fun b o e=>Qd.get?_push_of_some _ e;refine⟨(s.heap.push {cls:= .type "range",data:= .fields #[.int lo t,.int hi u,.int 1 v]}).objs.size,[(s.heap.push {cls:= .type "range",data:= .fields #[.int lo t,.int hi u,.int 1 v]}).objs.size],_,_,H,rfl,
  I1.kept (t':=tk) fun b o e=>Qd.get?_push_of_some _ e,Au _ lo (hi-lo).toNat,?_,fun b hb=>?_,q⟩
 .have e1:lo+((0:Nat):Int)*1=lo:=by simp
  have e2:(((hi-lo).toNat:Nat):Int)-((0:Nat):Int)=Qi.Range.rangeSize lo hi 1:=by rw[rangeSize_one];split<;>lia
  show IsRangeIter _ _ (lo+((0:Nat):Int)*1) ((((hi-lo).toNat:Nat):Int)-((0:Nat):Int)) 1;rw[e1,e2];exact Qd.get?_push_size _ rfl
 .have e:b=(s.heap.push {cls:= .type "range",data:= .fields #[.int lo t,.int hi u,.int 1 v]}).objs.size:=by simpa using hb
  subst e;exact I1.qy (PK _) (I1.aX.fresh (PK _))
def LN(ta:TA):TI:=fun σ H R=>ta σ H fun vs H1=>∃j:Int,vs=[.int j]/\-(2^62)<=j/\j<2^62/\R (IT 0 j.toNat) H1
def MM(ta:TA):TI:=fun σ H R=>ta σ H fun vs H1=>∃i j:Int,vs=[.int i,.int j]/\(-(2^62)<=i/\i<2^62/\-(2^62)<=j/\j<2^62)/\R (IT i (j-i).toNat) H1
theorem jj{a:Expr}{ta:TA}{p pos:Pos}(hg:Gl X "range")(hm:X.mg "range" =none)(ha:PA X [a] ta)(hs:Qb [a] X.env=[(false,eval a X.env)]:=by rfl):PI X tg (.Call (.Name "range" p) [a] [] pos) (LN ta):=by
 intro pins s σ H R I h;refine Call_ (kL I hg hm boot_range (PyProof.Rows.callWith_type1 (bf (ha pos pins s σ H _ I h) fun us s1 ⟨vs,H1,I1,r1,q1⟩=>?_) hs rfl));obtain⟨j,e,q1,q2,q⟩:=q1;subst e
 cases r1 with
 |cons r rr=>
  cases rr;obtain⟨t,rfl⟩:=r;exact call_range_1 (y6 I1 (by lia) (by lia) q1 q2 (by simpa using q))
theorem gY{a b:Expr}{ta:TA}{p pos:Pos}(hg:Gl X "range")(hm:X.mg "range" =none)(ha:PA X [a,b] ta)(hs:Qb [a,b] X.env=[(false,eval a X.env),(false,eval b X.env)]:=by rfl)(hs2:Qb [b] X.env=[(false,eval b X.env)]:=by rfl):
  PI X tg (.Call (.Name "range" p) [a,b] [] pos) (MM ta):=by
 intro pins s σ H R I h;refine Call_ (kL I hg hm boot_range (PyProof.Rows.callWith_type1 (bf (ha pos pins s σ H _ I h) fun us s1 ⟨vs,H1,I1,r1,q1⟩=>?_) (by rw[hs,hs2]) (by rw[hs2];rfl)));obtain⟨i,j,e,⟨q1,q2,q3,q4⟩,q⟩:=q1;subst e
 cases r1 with
 |cons r rr=>
  cases rr with
  |cons r' rr=>
   cases rr;obtain⟨t,rfl⟩:=r;obtain⟨t',rfl⟩:=r';exact call_range_2 (y6 I1 q1 q2 q3 q4 q)
def N5(wi:TI)(g:TG)(tb:TS):TS:=fun D σ H=>wi σ H fun J H1=>∃W:Nat->Nat->St->Hp->Prop,(∃m,W 0 m σ H1)/\∀i m σ H,W i m σ H->
 (J.stop i H/\D.nx σ H)\/(J.go i H/\∃N:St->Hp->Prop,(∀σ' H',N σ' H'->∃m',m'<m/\W (i+1) m' σ' H')/\∀x H',J.Hs i H x H'->g x σ H' fun σ2 H2=>tb {D with nx:=N,ct:=N,bk:=D.nx} σ2 H2)
def o8(fp:List PY)(h:Qd):List (PY×Obj):=fp.filterMap fun b=>(h.get? b).map fun o=>(b,o)
theorem fC{fp:List PY}{h:Qd}{b:PY}{o:Obj}(hb:b∈fp)(e:h.get? b=some o):(b,o)∈o8 fp h:=List.mem_filterMap.mpr ⟨b,hb,by rw[e];rfl⟩
theorem CI{fp:List PY}{h:Qd}{p:PY×Obj}(hp:p∈o8 fp h):p.1∈fp/\h.get? p.1=some p.2:=by
 obtain⟨b,hb,e⟩:=List.mem_filterMap.mp hp
 cases q:h.get? b with
 |none=>rw[q]at e;cases e
 |some o=>
  rw[q]at e;have e':(b,o)=p:=PU e;subst e';exact⟨hb,q⟩
theorem Inv.pinned {pins:List (PY×Obj)}{σ:St}{H:Hp}{s:PZ}{fp:List PY}(I:Inv X pins σ H s)(hf:∀b∈fp,kj X pins H b)(ho:∀b∈fp,∃o,s.heap.get? b=some o/\∀v,o.data≠.cell v):Inv X (pins++o8 fp s.heap) σ H s:=
 I.qT fun p hp=>(List.mem_append.mp hp).elim (fun z=>I.pin p (Px _ z)) fun z=>by
  obtain⟨hb,e⟩:=CI z;obtain⟨f0,f1,f2,_⟩:=hf p.1 hb;obtain⟨o,e',d⟩:=ho p.1 hb;rw[e]at e';cases e';exact⟨e,f0,f1,f2,d⟩
theorem Inv.eB {pins pl:List (PY×Obj)}{σ:St}{H:Hp}{s:PZ}(I:Inv X (pins++pl) σ H s):Inv X pins σ H s:=I.qT fun p hp=>I.pin p (Px _ (Py _ hp))
theorem cP{iter:Expr}{body:List Stmt}{wi:TI}{g:TG}{tb:TS}{pos:Pos}(hp:PassesOwn (model X.prog X.w) X.A X.env X.xe)(hc:X.calm=true)(hi:PI X tg iter wi)(hg:PG X tg g)(hb:t5 X body tb)
  (hs:∀x,foldedSetIterable iter X.env x=pure x:=by intro _;rfl):PS X (.For tg iter body [] pos) (N5 wi g tb):=by
 intro pins s σ H D I h;refine wpAny_For (bf (hi pins s σ H _ I h) fun v s1 h1=>bf h1 fun itv s2 h2=>?_) hs;obtain⟨it,fp,tn,J,H2,e,I2,T,st2,f2,W,⟨m0,w0⟩,turn⟩:=h2;subst e;have stat:∀{H':Hp},(∀b∈fp,H' b=none)->∀b∈fp,kj X pins H' b:=fun hn b hb=>⟨hn b hb,(f2 b hb).2⟩;refine codeAny_forLoop_any (fun n s'=>∃i σ' H',Inv X pins σ' H' s'/\tn i s'.heap/\(∀b∈fp,H' b=none)/\W i n σ' H') ?_ m0 ⟨0,σ,H2,I2,st2,fun b hb=>(f2 b hb).1,w0⟩;rintro n s3 ⟨i,σ3,H3,I3,st3,fr3,w3⟩;rcases turn i n σ3 H3 w3 with⟨stop,qn⟩|⟨go,N,hN,step⟩
 .refine wpAny_passesOwn hp (bf (T.done X rfl rfl rfl hc i pins s3 σ3 H3 X.xe I3 (stat fr3) st3 stop) fun r s4 ⟨hr,I4⟩=>?_)
  subst hr;exact wpAny_execs_nil ⟨σ3,H3,I4,qn⟩
 .refine wpAny_passesOwn hp (bf (T.item X rfl rfl rfl hc i pins s3 σ3 H3 X.xe I3 (stat fr3) st3 go) fun r s4 ⟨u,hr,h4⟩=>?_)
  subst hr;refine wpAny_passesOwn hp (bf h4 fun _ s5 ⟨x,H5,I5,r5,y5,st5,fr5⟩=>?_);have I5':=I5.pinned (stat fr5) (T.obj _ _ st5);refine wpAny_passesOwn hp (bf (hg _ s5 σ3 H5 x u _ I5' r5 (step x H5 y5)) fun _ s6 ⟨σ6,H6,I6,q6⟩=>?_);refine wpAny_passesOwn hp (bf (hb _ s6 σ6 H6 _ I6 q6) fun f s7 q7=>?_);have again:∀{σ7:St}{H7:Hp},Inv X (pins++o8 fp s5.heap) σ7 H7 s7->N σ7 H7->∃m,m<n/\∃i σ' H',Inv X pins σ' H' s7/\tn i s7.heap/\(∀b∈fp,H' b=none)/\W i m σ' H':=fun{σ7 H7} I7 n7=>by
   obtain⟨m',hm,w7⟩:=hN σ7 H7 n7;refine⟨m',hm,i+1,σ7,H7,I7.eB,T.keep _ _ _ st5 fun b hb o e=>(I7.pin (b,o) (Px _ (Px _ (fC hb e)))).1,fun b hb=>?_,w7⟩;obtain⟨o,e,d⟩:=T.obj _ _ st5 b hb;exact(I7.pin (b,o) (Px _ (Px _ (fC hb e)))).2.1
  cases f with
  |next=>obtain⟨σ7,H7,I7,n7⟩:=q7;exact again I7 n7
  |cont=>obtain⟨σ7,H7,I7,n7⟩:=q7;exact again I7 n7
  |brk=>obtain⟨σ7,H7,I7,q7⟩:=q7;exact⟨σ7,H7,I7.eB,q7⟩
  |ret v=>obtain⟨x7,σ7,H7,I7,r7,q7⟩:=q7;exact⟨x7,σ7,H7,I7.eB,r7,q7⟩
end
theorem gu{K:W.Frag}{a:PY}{xs:List V}{g:TG}{tb:TS}{D:Ends}{σ:St}{H:Hp}(Pv:Nat->St->Hp->Prop)(h0:Pv 0 σ H)(hl:∀i σ H,i<=xs.length->Pv i σ H->aI K H a xs)
  (hs:∀i x σ H,xs[i]?=some x->Pv i σ H->g x σ H fun σ2 H2=>tb {D with nx:=Pv (i+1),ct:=Pv (i+1),bk:=D.nx} σ2 H2) (hd:∀σ H,Pv xs.length σ H->D.nx σ H):
  ∃W:Nat->Nat->St->Hp->Prop,(∃m,W 0 m σ H)/\∀i m σ H,W i m σ H->
   ((Jc K a).stop i H/\D.nx σ H)\/((Jc K a).go i H/\∃N:St->Hp->Prop,(∀σ' H',N σ' H'->∃m',m'<m/\W (i+1) m' σ' H')/\∀x H',(Jc K a).Hs i H x H'->g x σ H' fun σ2 H2=>tb {D with nx:=N,ct:=N,bk:=D.nx} σ2 H2):=by
 refine⟨fun i m σ H=>m=xs.length-i/\i<=xs.length/\Pv i σ H,⟨xs.length,by simp,PQ _,h0⟩,?_⟩;rintro i m σ H ⟨rfl,hi,p⟩;have q:=hl i σ H hi p;by_cases hlt:i<xs.length
 .refine .inr ⟨⟨xs,xs[i],q,by simp[hlt]⟩,Pv (i+1),fun σ' H' p'=>⟨xs.length-(i+1),by lia,rfl,hlt,p'⟩,fun x H' y=>?_⟩
  obtain⟨e,y⟩:=y;subst e;exact hs i x σ _ (y xs q) p
 .have e:i=xs.length:=by lia
  subst e;exact .inl ⟨⟨xs,q,PK _⟩,hd σ H p⟩
theorem gX{lo:Int}{n:Nat}{g:TG}{tb:TS}{D:Ends}{σ:St}{H:Hp}(Pv:Nat->St->Hp->Prop)(h0:Pv 0 σ H)
  (hs:∀i σ H,i<n->Pv i σ H->g (.int (lo+i)) σ H fun σ2 H2=>tb {D with nx:=Pv (i+1),ct:=Pv (i+1),bk:=D.nx} σ2 H2) (hd:∀σ H,Pv n σ H->D.nx σ H):
  ∃W:Nat->Nat->St->Hp->Prop,(∃m,W 0 m σ H)/\∀i m σ H,W i m σ H->
   ((IT lo n).stop i H/\D.nx σ H)\/((IT lo n).go i H/\∃N:St->Hp->Prop,(∀σ' H',N σ' H'->∃m',m'<m/\W (i+1) m' σ' H')/\∀x H',(IT lo n).Hs i H x H'->g x σ H' fun σ2 H2=>tb {D with nx:=N,ct:=N,bk:=D.nx} σ2 H2):=by
 refine⟨fun i m σ H=>m=n-i/\i<=n/\Pv i σ H,⟨n,by simp,PQ _,h0⟩,?_⟩;rintro i m σ H ⟨rfl,hi,p⟩;by_cases hlt:i<n
 .refine .inr ⟨hlt,Pv (i+1),fun σ' H' p'=>⟨n-(i+1),by lia,rfl,hlt,p'⟩,fun x H' y=>?_⟩
  obtain⟨e,y⟩:=y;subst e y;exact hs i σ _ hlt p
 .have e:i=n:=by lia
  subst e;exact .inl ⟨PK _,hd σ H p⟩
abbrev R2:=V->V->Hp->VK->Prop
def kK(X:Cx)(f:PX->PX->Sem PX)(r:R2):Prop:=
 ∀(pins:List (PY×Obj))(s:PZ)(σ:St)(H:Hp)(x y:V)(v u:PX)(Q:VK),Inv X pins σ H s->RelV x v->RelV y u->r x y H Q->
  Qf (model X.prog X.w) X.A (f v u) (EP X pins σ Q) X.xe s
def NF(X:Cx)(f:PX->Sem PX)(r:V->Hp->VK->Prop):Prop:=
 ∀(pins:List (PY×Obj))(s:PZ)(σ:St)(H:Hp)(x:V)(v:PX)(Q:VK),Inv X pins σ H s->RelV x v->r x H Q->
  Qf (model X.prog X.w) X.A (f v) (EP X pins σ Q) X.xe s
def bZ(X:Cx)(f:PX)(r:List V->Hp->VK->Prop):Prop:=
 ∀(pins:List (PY×Obj))(s:PZ)(σ:St)(H:Hp)(xs:List V)(us:List PX)(Q:VK),Inv X pins σ H s->Vals xs us->r xs H Q->
  Qf (model X.prog X.w) X.A (call f us) (EP X pins σ Q) X.xe s
def GK(r:R2)(ta tb:TE):TE:=fun σ H Q=>ta σ H fun x H1=>tb σ H1 fun y H2=>r x y H2 Q
def OZ(r:V->Hp->VK->Prop)(ta:TE):TE:=fun σ H Q=>ta σ H fun x H1=>r x H1 Q
def rI(C:Int->Int->Prop)(g:Int->Int->V):R2:=fun x y H Q=>∃i j,x= .int i/\y= .int j/\C i j/\Q (g i j) H
def JB(g:Int->Int->V):R2:=fun x y H Q=>∃i j,x= .int i/\y= .int j/\Q (g i j) H
def rU(g:Int->V):V->Hp->VK->Prop:=fun x H Q=>∃i,x= .int i/\Q (g i) H
section
variable{X:Cx}{a b c:Expr}{ta tb tc:TE}{pos:Pos}
theorem Kq(ha:PE X a ta)(hb:PE X b tb){pins:List (PY×Obj)}{s:PZ}{σ:St}{H:Hp}{R:V->V->Hp->Prop}(I:Inv X pins σ H s)
  (h:ta σ H fun x H1=>tb σ H1 fun y H2=>R x y H2) {Q:PX->PZ->Prop} {f:PX->PX->Sem PX}
  (hf:∀v u s2 x y H2,Inv X pins σ H2 s2->RelV x v->RelV y u->R x y H2->Qf (model X.prog X.w) X.A (f v u) Q X.xe s2):
  Qf (model X.prog X.w) X.A (eval a X.env) (fun v s₁=>Qf (model X.prog X.w) X.A (eval b X.env) (fun u s₂=>Qf (model X.prog X.w) X.A (f v u) Q X.xe s₂) X.xe s₁) X.xe s:=by
 refine bf (ha pins s σ H _ I h) fun v s1 ⟨x,H1,I1,r1,q1⟩=>?_;refine bf (hb pins s1 σ H1 _ I1 q1) fun u s2 ⟨y,H2,I2,r2,q2⟩=>?_;exact hf v u s2 x y H2 I2 r1 r2 q2
theorem aG{op:Operator}{r:R2}(ho:kK X (binaryOp op) r)(ha:PE X a ta)(hb:PE X b tb):PE X (.BinOp a op b pos) (GK r ta tb):=by
 intro pins s σ H Q I h;exact wpAny_BinOp (Kq ha hb I h fun v u s2 x y H2 I2 rx ry q=>ho pins s2 σ H2 x y v u Q I2 rx ry q)
theorem yR{op:UnaryOp}{r:V->Hp->VK->Prop}(ho:NF X (unaryOp op) r)(ha:PE X a ta):PE X (.UnaryOp op a pos) (OZ r ta):=by
 intro pins s σ H Q I h;exact UnaryOp_ (bf (ha pins s σ H _ I h) fun v s1 ⟨x,H1,I1,r1,q1⟩=>ho pins s1 σ H1 x v Q I1 r1 q1)
theorem Np{f:PX->PX->Sem PX}{C:Int->Int->Prop}{g:Int->Int->Int}
  (rule:∀(i j:Int)(t u:Tok)(s:PZ)(Q:PX->PZ->Prop)(E:PX->PZ->Prop),C i j->Q (.int (g i j) s.toks) {s with toks:=s.toks+1}->Qf (model X.prog X.w) X.A (f (.int i t) (.int j u)) Q E s):
  kK X f (rI C fun i j=> .int (g i j)):=by
 intro pins s σ H x y v u Q I rx ry h;obtain⟨i,j,rfl,rfl,hc,q⟩:=h;obtain⟨t,rfl⟩:=rx;obtain⟨t',rfl⟩:=ry;exact rule i j t t' s _ _ hc ⟨.int (g i j),H,I.tok _,⟨_,rfl⟩,q⟩
theorem Mc{f:PX->PX->Sem PX}{g:Int->Int->Int}
  (rule:∀(i j:Int)(t u:Tok)(s:PZ)(Q:PX->PZ->Prop)(E:PX->PZ->Prop),Q (.int (g i j) s.toks) {s with toks:=s.toks+1}->Qf (model X.prog X.w) X.A (f (.int i t) (.int j u)) Q E s):
  kK X f (JB fun i j=> .int (g i j)):=by
 intro pins s σ H x y v u Q I rx ry h;obtain⟨i,j,rfl,rfl,q⟩:=h;obtain⟨t,rfl⟩:=rx;obtain⟨t',rfl⟩:=ry;exact rule i j t t' s _ _ ⟨.int (g i j),H,I.tok _,⟨_,rfl⟩,q⟩
theorem Hm{f:PX->PX->Sem PX}{g:Int->Int->Bool}
  (rule:∀(i j:Int)(t u:Tok)(s:PZ)(Q:PX->PZ->Prop)(E:PX->PZ->Prop),Q (.bool (g i j)) s->Qf (model X.prog X.w) X.A (f (.int i t) (.int j u)) Q E s):
  kK X f (JB fun i j=> .bl (g i j)):=by
 intro pins s σ H x y v u Q I rx ry h;obtain⟨i,j,rfl,rfl,q⟩:=h;obtain⟨t,rfl⟩:=rx;obtain⟨t',rfl⟩:=ry;exact rule i j t t' s _ _ ⟨.bl (g i j),H,I,rfl,q⟩
def Of(i j:Int):Prop:=0<=j/\j<=1000000/\i.natAbs<2^64
def Kx(i j:Int):Prop:=(-(2^64)<i/\i<2^64)\/(-(2^64)<j/\j<2^64)
theorem Kx.ok {i j:Int}(h:Kx i j):IntMulOk i j:=by
 rcases h with⟨h1,h2⟩|⟨h1,h2⟩
 .exact .of_left (intBits_le_64 h1 h2)
 .exact .of_right (intBits_le_64 h1 h2)
theorem bG:kK X (binaryOp .Add) (JB fun i j=> .int (i+j)):=Mc fun _ _ _ _ _ _ _ q=>add_int q
theorem ku:kK X (binaryOp .Sub) (JB fun i j=> .int (i-j)):=Mc fun _ _ _ _ _ _ _ q=>sub_int q
theorem mT:kK X (binaryOp .Mult) (rI Kx fun i j=> .int (i*j)):=Np fun _ _ _ _ _ _ _ hc q=>mul_int q hc.ok
theorem h7:kK X (binaryOp .Mod) (rI (fun _ j=>0<j) fun i j=> .int (i%j)):=Np fun i j _ _ _ _ _ hc q=>by
 have h1:(0:Int)<j:=hc;exact mod_int' (by lia) (by rw[Int.fmod_eq_emod_of_nonneg i (by lia)];exact q)
theorem AG:kK X (binaryOp .Pow) (rI Of fun i j=> .int (i^j.toNat)):=Np fun _ _ _ _ _ _ _ hc q=>pow_int_small hc.1 hc.2.1 hc.2.2 q
theorem O7{f:PX->Sem PX}{g:Int->Int}
  (rule:∀(i:Int)(t:Tok)(s:PZ)(Q:PX->PZ->Prop)(E:PX->PZ->Prop),Q (.int (g i) s.toks) {s with toks:=s.toks+1}->Qf (model X.prog X.w) X.A (f (.int i t)) Q E s):
  NF X f (rU fun i=> .int (g i)):=by
 intro pins s σ H x v Q I rx h;obtain⟨i,rfl,q⟩:=h;obtain⟨t,rfl⟩:=rx;exact rule i t s _ _ ⟨.int (g i),H,I.tok _,⟨_,rfl⟩,q⟩
theorem rz:NF X (unaryOp .USub) (rU fun i=> .int (-i)):=O7 fun _ _ _ _ _ q=>neg_int q
end
def Nf:V->V->Bool
 | .cE,.cE=>true| .cE,.int _=>true| .int _,.cE=>true| .cE,.bl _=>true| .bl _,.cE=>true| .cE,.str _=>true| .str _,.cE=>true
 | .int _,.int _=>true| .bl _,.bl _=>true| .str _,.str _=>true| .byt _,.byt _=>true
 | .int _,.str _=>true| .str _,.int _=>true| .bl _,.str _=>true| .str _,.bl _=>true
 |_,_=>false
def Pa:R2:=fun x y H Q=>Nf x y=true/\Q (.bl (decide (x=y))) H
def O0:R2:=fun x y H Q=>Nf x y=true/\Q (.bl (!decide (x=y))) H
theorem Cm{i j:Int}:decide (V.int i=V.int j)=(i==j):=by
 rw[Bool.eq_iff_iff];simp
theorem Ef{i j:Bool}:decide (V.bl i=V.bl j)=(i==j):=by
 rw[Bool.eq_iff_iff];simp
theorem BW{i j:Str}:decide (V.str i=V.str j)=(i==j):=by
 rw[Bool.eq_iff_iff];simp
theorem Bw{i j:Array UInt8}:decide (V.byt i=V.byt j)=(i.toList==j.toList):=by
 rw[Bool.eq_iff_iff];cases i;cases j;simp
section
variable{X:Cx}{a b c:Expr}{ta tb tc:TE}{pos:Pos}
theorem bw{pins:List (PY×Obj)}{σ:St}{H:Hp}{s:PZ}{Q:VK}{k k':Bool}(I:Inv X pins σ H s)(q:Q (.bl k) H)(e:k=k'):EP X pins σ Q (.bool k') s:=by
 subst e;exact⟨.bl k,H,I,rfl,q⟩
theorem bR:kK X (compareOp .Eq) Pa:=by
 intro pins s σ H x y v u Q I rx ry h;obtain⟨hs,q⟩:=h
 cases x with
 |cE=>
  cases rx
  cases y with
  |cE=>cases ry;exact PySem.EqNone.eq_none_none (bw I q (by simp))
  |bl j=>cases ry;exact PySem.EqNone.eq_none_bool (bw I q (by simp))
  |int j=>obtain⟨t',rfl⟩:=ry;exact PySem.EqNone.eq_none_int (bw I q (by simp))
  |str j=>obtain⟨t',rfl⟩:=ry;exact PySem.EqNone.eq_none_str (bw I q (by simp))
  |_=>exact absurd (show false=true from hs) PR
 |bl i=>
  cases rx
  cases y with
  |cE=>cases ry;exact PySem.EqNone.eq_bool_none (bw I q (by simp))
  |bl j=>cases ry;exact eq_bool (bw I q Ef)
  |str j=>obtain⟨t',rfl⟩:=ry;exact PySem.EqMixed.eq_bool_str (bw I q (by simp))
  |_=>exact absurd (show false=true from hs) PR
 |int i=>
  obtain⟨t,rfl⟩:=rx
  cases y with
  |cE=>cases ry;exact PySem.EqNone.eq_int_none (bw I q (by simp))
  |int j=>obtain⟨t',rfl⟩:=ry;exact eq_int (bw I q Cm)
  |str j=>obtain⟨t',rfl⟩:=ry;exact PySem.EqMixed.eq_int_str (bw I q (by simp))
  |_=>exact absurd (show false=true from hs) PR
 |str i=>
  obtain⟨t,rfl⟩:=rx
  cases y with
  |cE=>cases ry;exact PySem.EqNone.eq_str_none (bw I q (by simp))
  |bl j=>cases ry;exact PySem.EqMixed.eq_str_bool (bw I q (by simp))
  |int j=>obtain⟨t',rfl⟩:=ry;exact PySem.EqMixed.eq_str_int (bw I q (by simp))
  |str j=>obtain⟨t',rfl⟩:=ry;exact eq_str (bw I q BW)
  |_=>exact absurd (show false=true from hs) PR
 |byt i=>
  obtain⟨t,rfl⟩:=rx
  cases y with
  |byt j=>obtain⟨t',rfl⟩:=ry;exact W.eq_bytes (bw I q Bw)
  |_=>exact absurd (show false=true from hs) PR
 |_=>cases y<;>exact absurd (show false=true from hs) PR
theorem eC:kK X (compareOp .NotEq) O0:=by
 intro pins s σ H x y v u Q I rx ry h;obtain⟨hs,q⟩:=h
 cases x with
 |cE=>
  cases rx
  cases y with
  |cE=>cases ry;exact PySem.EqNone.ne_none_none (bw I q (by simp))
  |bl j=>cases ry;exact PySem.EqNone.ne_none_bool (bw I q (by simp))
  |int j=>obtain⟨t',rfl⟩:=ry;exact PySem.EqNone.ne_none_int (bw I q (by simp))
  |str j=>obtain⟨t',rfl⟩:=ry;exact PySem.EqNone.ne_none_str (bw I q (by simp))
  |_=>exact absurd (show false=true from hs) PR
 |bl i=>
  cases rx
  cases y with
  |cE=>cases ry;exact PySem.EqNone.ne_bool_none (bw I q (by simp))
  |bl j=>cases ry;exact ne_bool (bw I q (congrArg not Ef))
  |str j=>obtain⟨t',rfl⟩:=ry;exact PySem.EqMixed.ne_bool_str (bw I q (by simp))
  |_=>exact absurd (show false=true from hs) PR
 |int i=>
  obtain⟨t,rfl⟩:=rx
  cases y with
  |cE=>cases ry;exact PySem.EqNone.ne_int_none (bw I q (by simp))
  |int j=>obtain⟨t',rfl⟩:=ry;exact ne_int (bw I q (congrArg not Cm))
  |str j=>obtain⟨t',rfl⟩:=ry;exact PySem.EqMixed.ne_int_str (bw I q (by simp))
  |_=>exact absurd (show false=true from hs) PR
 |str i=>
  obtain⟨t,rfl⟩:=rx
  cases y with
  |cE=>cases ry;exact PySem.EqNone.ne_str_none (bw I q (by simp))
  |bl j=>cases ry;exact PySem.EqMixed.ne_str_bool (bw I q (by simp))
  |int j=>obtain⟨t',rfl⟩:=ry;exact PySem.EqMixed.ne_str_int (bw I q (by simp))
  |str j=>obtain⟨t',rfl⟩:=ry;exact ne_str (bw I q (congrArg not BW))
  |_=>exact absurd (show false=true from hs) PR
 |byt i=>
  obtain⟨t,rfl⟩:=rx
  cases y with
  |byt j=>obtain⟨t',rfl⟩:=ry;exact W.ne_bytes (bw I q (congrArg not Bw))
  |_=>exact absurd (show false=true from hs) PR
 |_=>cases y<;>exact absurd (show false=true from hs) PR
theorem BA:kK X (compareOp .Lt) (JB fun i j=> .bl (decide (i<j))):=Hm fun _ _ _ _ _ _ _ q=>lt_int q
theorem p5:kK X (compareOp .LtE) (JB fun i j=> .bl (decide (i<=j))):=Hm fun _ _ _ _ _ _ _ q=>le_int q
theorem qo:kK X (compareOp .Gt) (JB fun i j=> .bl (decide (j<i))):=Hm fun _ _ _ _ _ _ _ q=>gt_int q
theorem Ji:kK X (compareOp .GtE) (JB fun i j=> .bl (decide (j<=i))):=Hm fun _ _ _ _ _ _ _ q=>ge_int q
theorem Kb:kK X (compareOp .Is) (fun x y H Q=>y= .cE/\Q (.bl (decide (x= .cE))) H):=by
 intro pins s σ H x y v u Q I rx ry h;obtain⟨rfl,q⟩:=h;cases ry;refine is_none_gen (bw I q ?_);cases x<;>first
  |(cases rx;rfl)
  |(obtain⟨t,rfl⟩:=rx;rfl)
theorem Iq:kK X (compareOp .IsNot) (fun x y H Q=>y= .cE/\Q (.bl (!decide (x= .cE))) H):=by
 intro pins s σ H x y v u Q I rx ry h;obtain⟨rfl,q⟩:=h;cases ry;refine isnot_none_gen (bw I q ?_);cases x<;>first
  |(cases rx;rfl)
  |(obtain⟨t,rfl⟩:=rx;rfl)
theorem aB(b:Expr){op:CmpOp}(h:op≠.In:=by decide)(h2:op≠.NotIn:=by decide):behindInMarks op b=false:=by
 have e1:(op==CmpOp.In)=false:=by cases op<;>first|rfl|exact absurd rfl h
 have e2:(op==CmpOp.NotIn)=false:=by cases op<;>first|rfl|exact absurd rfl h2
 cases b<;>simp[behindInMarks,e1,e2]
theorem iG{op:CmpOp}{r:R2}(ho:kK X (compareOp op) r)(ha:PE X a ta)(hb:PE X b tb)(hm:behindInMarks op b=false):PE X (.Compare a [op] [b] pos) (GK r ta tb):=by
 intro pins s σ H Q I h;exact wpAny_Compare1 (Kq ha hb I h fun v u s2 x y H2 I2 rx ry q=>ho pins s2 σ H2 x y v u Q I2 rx ry q) hm
def B3(t:TE):TT:=fun σ H Q=>t σ H fun x H'=>∃k,x= .bl k/\Q k H'
theorem aw{op:CmpOp}{r:R2}(ho:kK X (compareOp op) r)(ha:PE X a ta)(hb:PE X b tb)(hm:behindInMarks op b=false):PT X (.Compare a [op] [b] pos) (B3 (GK r ta tb)):=by
 intro pins s σ H Q I h;refine wpAny_isTrue_Compare1 (bf (ha pins s σ H _ I h) fun v s1 ⟨x,H1,I1,r1,q1⟩=>bf (hb pins s1 σ H1 _ I1 q1) fun u s2 ⟨y,H2,I2,r2,q2⟩=>
  bf (ho pins s2 σ H2 x y v u _ I2 r1 r2 q2) fun c s3 ⟨z,H3,I3,r3,k,e,q3⟩=>?_) hm
 subst e;cases r3;exact wpAny_truthy_bool ⟨H3,I3,q3⟩
def FY(r r':R2)(ta tb tc:TE):TE:=fun σ H Q=>ta σ H fun x H1=>tb σ H1 fun y H2=>r x y H2 fun z H3=>∃k,z= .bl k/\
 (if k=true then tc σ H3 fun w' H4=>r' y w' H4 Q else Q (.bl false) H3)
theorem FA{op op':CmpOp}{r r':R2}(ho:kK X (compareOp op) r)(ho':kK X (compareOp op') r')(ha:PE X a ta)(hb:PE X b tb)(hc:PE X c tc)
  (hm:lastMarks [op,op'] [b,c]=false:=by with_unfolding_all rfl):PE X (.Compare a [op,op'] [b,c] pos) (FY r r' ta tb tc):=by
 intro pins s σ H Q I h;refine Compare_chain (bf (ha pins s σ H _ I h) fun v s1 ⟨x,H1,I1,r1,q1⟩=>chain_link (bf (hb pins s1 σ H1 _ I1 q1) fun u s2 ⟨y,H2,I2,r2,q2⟩=>
  bf (ho pins s2 σ H2 x y v u _ I2 r1 r2 q2) fun d s3 ⟨z,H3,I3,r3,k,e,q3⟩=>?_)) hm
 subst e;cases r3;refine wpAny_truthy_bool ?_
 cases k with
 |false=>exact ite_ff ⟨.bl false,H3,I3,rfl,q3⟩
 |true=>exact ite_tt (chain_last (bf (hc pins s3 σ H3 _ I3 q3) fun w' s4 ⟨z',H4,I4,r4,q4⟩=>ho' pins s4 σ H4 y z' u w' Q I4 r2 r4 q4))
theorem rm{op op':CmpOp}{r r':R2}(ho:kK X (compareOp op) r)(ho':kK X (compareOp op') r')(ha:PE X a ta)(hb:PE X b tb)(hc:PE X c tc)
  (hm:lastMarks [op,op'] [b,c]=false:=by with_unfolding_all rfl):PT X (.Compare a [op,op'] [b,c] pos) (B3 (FY r r' ta tb tc)):=by
 intro pins s σ H Q I h;refine isTrue_chain (bf (ha pins s σ H _ I h) fun v s1 ⟨x,H1,I1,r1,q1⟩=>test_link (bf (hb pins s1 σ H1 _ I1 q1) fun u s2 ⟨y,H2,I2,r2,q2⟩=>
  bf (ho pins s2 σ H2 x y v u _ I2 r1 r2 q2) fun d s3 ⟨z,H3,I3,r3,k,e,q3⟩=>?_)) hm
 subst e;cases r3;refine wpAny_truthy_bool ?_
 cases k with
 |false=>
  obtain⟨k',e',q'⟩:=q3;cases e';exact ite_ff ⟨H3,I3,q'⟩
 |true=>
  refine ite_tt (test_last (bf (hc pins s3 σ H3 _ I3 q3) fun w' s4 ⟨z',H4,I4,r4,q4⟩=>bf (ho' pins s4 σ H4 y z' u w' _ I4 r2 r4 q4) fun d' s5 ⟨z2,H5,I5,r5,k2,e2,q5⟩=>?_));subst e2;cases r5;exact wpAny_truthy_bool ⟨H5,I5,q5⟩
theorem o7:(P6:Nat)<2^63:=by rw[sizeLine_eq];decide
theorem bM:kK X (binaryOp .Add) (fun x y H Q=>∃i j,x= .str i/\y= .str j/\i.length+j.length<=P6/\Q (.str (i++j)) H):=by
 intro pins s σ H x y v u Q I rx ry h;obtain⟨i,j,rfl,rfl,hz,q⟩:=h;obtain⟨t,rfl⟩:=rx;obtain⟨t',rfl⟩:=ry;exact add_str (fun t' tk=>⟨.str (i++j),H,I.tok _,⟨_,rfl⟩,q⟩) hz
theorem vals1{x:V}{us:List PX}(r:Vals [x] us):∃u,us=[u]/\RelV x u:=by
 cases r with
 |cons r1 r2=>cases r2;exact⟨_,rfl,r1⟩
theorem vals2{x y:V}{us:List PX}(r:Vals [x,y] us):∃u w',us=[u,w']/\RelV x u/\RelV y w':=by
 cases r with
 |cons r1 r2=>
  cases r2 with
  |cons r3 r4=>cases r4;exact⟨_,_,rfl,r1,r3⟩
theorem FJ:bZ X (.builtin "abs") (fun xs H Q=>∃i,xs=[.int i]/\Q (.int (if i<0 then-i else i)) H):=by
 intro pins s σ H xs us Q I r h;obtain⟨i,rfl,q⟩:=h;obtain⟨u,rfl,t,rfl⟩:=vals1 r;exact call_abs_int fun u tk=>⟨.int (if i<0 then-i else i),H,I.tok _,⟨_,rfl⟩,q⟩
theorem oR(hc:X.calm=true):bZ X (.builtin "max") (fun xs H Q=>∃i j,xs=[.int i,.int j]/\Q (.int (if j>i then j else i)) H):=by
 intro pins s σ H xs us Q I r h;obtain⟨i,j,rfl,q⟩:=h;obtain⟨u,w',rfl,⟨t,rfl⟩,⟨t',rfl⟩⟩:=vals2 r;refine max_two_ints (I.ok.hd hc) fun h' tk k=>⟨_,H,I.kept k,?_,q⟩;by_cases hj:j>i
 .rw[if_pos hj,if_pos hj];exact⟨_,rfl⟩
 .rw[if_neg hj,if_neg hj];exact⟨_,rfl⟩
theorem lP(hc:X.calm=true):bZ X (.builtin "min") (fun xs H Q=>∃i j,xs=[.int i,.int j]/\Q (.int (if j<i then j else i)) H):=by
 intro pins s σ H xs us Q I r h;obtain⟨i,j,rfl,q⟩:=h;obtain⟨u,w',rfl,⟨t,rfl⟩,⟨t',rfl⟩⟩:=vals2 r;refine min_two_ints (I.ok.hd hc) fun h' tk k=>⟨_,H,I.kept k,?_,q⟩;by_cases hj:j<i
 .rw[if_pos hj,if_pos hj];exact⟨_,rfl⟩
 .rw[if_neg hj,if_neg hj];exact⟨_,rfl⟩
theorem DF:bZ X (.type "int") (fun xs H Q=>(∃i,xs=[.int i]/\Q (.int i) H)\/∃k,xs=[.bl k]/\Q (.int (if k then 1 else 0)) H):=by
 intro pins s σ H xs us Q I r h;rcases h with⟨i,rfl,q⟩|⟨k,rfl,q⟩
 .obtain⟨u,rfl,t,rfl⟩:=vals1 r
  exact call_int_int ⟨.int i,H,I,⟨_,rfl⟩,q⟩
 .obtain⟨u,rfl,r1⟩:=vals1 r
  cases r1;exact call_int_bool ⟨.int (if k then 1 else 0),H,I.tok _,⟨_,rfl⟩,q⟩
theorem cH:bZ X (.type "str") (fun xs H Q=>∃i,xs=[.int i]/\i.natAbs.log2<1920/\Q (.str (toString i)) H):=by
 intro pins s σ H xs us Q I r h;obtain⟨i,rfl,hz,q⟩:=h;obtain⟨u,rfl,t,rfl⟩:=vals1 r;exact PySem.P.str_of_int hz ⟨.str _,H,I.tok _,⟨_,rfl⟩,q⟩
end
structure A2(h:Qd)(x dx C:PY)(mA:Str->Option PX):Prop where
 obj:h.get? x=some (W.instObj C dx)
 ns:h.Ns1 dx mA
 ne:dx≠x
theorem C8{h:Qd}{dx:PY}{mA:Str->Option PX}(n:h.Ns1 dx mA):∃od,h.get? dx=some od/\∀name,W.lookIn name od=some (mA name):=by
 obtain⟨o,es,ep,ho,hd,hk,_,hm⟩:=n;refine⟨o,ho,fun name=>?_⟩;have e:=hm name;unfold nsFind findBy at e;rw[←Array.find?_toList]at e;unfold W.lookIn;rw[hd];dsimp only
 split
 .rename_i y q
  rw[q]at e;exact congrArg some e
 .rename_i q
  rw[q]at e;have a:es.toList.any (·.refKey)=false:=by
   rw[List.any_eq_false];intro y hy;obtain⟨z,t,hkey⟩:=hk y (Array.mem_toList_iff.mp hy);simp[DictEntry.refKey,hkey]
  have a':¬es.toList.any (·.refKey)=true:=by rw[a];exact PR
  rw[if_neg a'];exact congrArg some e
theorem A2.look {h:Qd}{x dx C:PY}{mA:Str->Option PX}(I:A2 h x dx C mA):∃od,W.InstAt h x (W.instObj C dx) C (some od)/\∀name,W.lookIn name od=some (mA name):=
 let⟨od,ho,hl⟩:=C8 I.ns
 ⟨od,⟨I.obj,rfl,rfl,ho⟩,hl⟩
section
variable{prog:P0}{w:P4}{A:P5}{E:PX->PZ->Prop}{s:PZ}{K:W.Frag}{x dx C f:PY}{mA:Str->Option PX}{name:Str}{v:PX}
theorem get_map{expr:Bool}{Q:PX->PZ->Prop}(X:K.In s.heap)(I:A2 s.heap x dx C mA)(hg:W.plainGet K C name=true)(hh:W.hasDictIn K C=true)
  (ha:W.findIn K (.ref C) name=some none) (hv:mA name=some v) (hv':W.handedIn v=true) (h:Q v {s with toks:=s.toks+1}):
  Qf (model prog w) A (getAttr (.ref x) name expr) Q E s:=by
 obtain⟨od,J,hl⟩:=I.look;exact W.get_value X J (W.plainGet_of hg).1 (W.findObj_own hh ha rfl (by rw[hl,hv])) hv' h
theorem Gq{pl:Sem Bool}{Q:PX×List PX->PZ->Prop}(X:K.In s.heap)(I:A2 s.heap x dx C mA)(hg:W.plainGet K C name=true)
  (hf:W.findIn K (.ref C) name=some (some (.ref f))) (ht:W.isFn K (.ref f)=true) (hv:mA name=none) (h:Q (.ref f,[.ref x]) s):
  Qf (model prog w) A (getMethod (.ref x) name pl) Q E s:=by
 obtain⟨od,J,hl⟩:=I.look;exact W.method_fn X J (W.plainGet_of hg).1 (W.plainGet_of hg).2 hf (beq_iff_eq.mp ht) (by show(W.lookIn name od).map (·.isSome)=some false;rw[hl,hv];rfl) h
theorem G0{ns:List Str}{Q:Unit->PZ->Prop}(X:K.In s.heap)(I:A2 s.heap x dx C mA)
  (hs:W.findIn K (.ref C) "__setattr__" =some (some (.builtin "object.__setattr__"))) (hp:W.plainOver K C=true) (ht:W.takerIn K C name=some none) (hh:W.hasDictIn K C=true)
  (hw:PySem.Within mA ns) (hsz:ns.length<=P6)
  (h:∀h',A2 h' x dx C (fun y=>if y=name then some v else mA y)->Qd.SameBut dx s.heap h'->Q () {s with heap:=h',toks:=s.toks+2}):
  Qf (model prog w) A (setAttr (.ref x) name v) Q E s:=by
 obtain⟨od,J,hl⟩:=I.look;refine W.set_plain X J hs (W.osa_open (s:={s with toks:=s.toks+1}) (r:=none) X J hp ht fun b=>?_);obtain⟨cd,hc,hd'⟩:=W.any_some hh;have hx:s.heap.get? x=some ⟨.ref C,some dx,.plain,#[]⟩:=I.obj;refine P8 (P9 (P8 (P8 (wpAny_loadPart hx (P8 (W.Looks.here (s:={s with toks:=s.toks+1}) (W.looks_clsIn X hc) ?_))))));rw[hd'];refine P9 (a:=some dx) (P8 (P9 (P8 ?_)));refine wpAny_nsSet1 (s:={s with toks:=s.toks+1}) I.ns fun h' hn2 hs2=>?_;obtain⟨oD,esD,epD,hoD,hdD,hcD⟩:=hn2.count (PySem.Within.cons name v hw);refine P8 (wpAny_lookBehind hoD (by rw[hdD];exact pastItsLine_dict (PN hcD (by rw[Pl];lia))) ?_);exact P9 (h _ ⟨(hs2.2 _ (Ne.symm I.ne)).trans I.obj,hn2,I.ne⟩ hs2)
theorem EF{R:Result->PZ->Prop}{vs:List PX}{kw:List (Str×PX)}(X:K.In s.heap)(hm:W.makesIn K C=true)
  (hi:W.findIn K (.ref C) "__init__" =some (some (.ref f))) (hf:W.typeIn K (.ref f)=some (.type "function"))
  (h:codeAny (model prog w) (A.under (.builtin "type.__call__" ⟨.ref C::vs,kw⟩)) (.call (.ref f) ⟨.ref (s.heap.objs.size+1)::vs,kw⟩) (W.InitBack (s.heap.objs.size+1) R)
   {s with heap:=(s.heap.push W.emptyDict).push (W.instObj C s.heap.objs.size)}):
  codeAny (model prog w) A (.call (.ref C) ⟨vs,kw⟩) R s:=by
 obtain⟨hh,g,d,t,os⟩:=s;exact W.make_core (W.makes_of X hm) (W.looks_findIn X hi) (fun self=>W.bind_fn X self hf) (.inl rfl) h
end
def ke(f:Str)(v:V):List (Str×V)->List (Str×V)
 |[]=>[(f,v)]
 |(g,x)::r=>if g=f then(g,v)::r else(g,x)::ke f v r
theorem p8(f g:Str)(v:V):∀fs:List (Str×V),(ke f v fs).lookup g=if g=f then some v else fs.lookup g
 |[]=>by
  show List.lookup g [(f,v)]=_;by_cases h:g=f
  .have hb:(g==f)=true:=beq_iff_eq.mpr h
   simp only[List.lookup,hb,if_pos h]
  .have hb:(g==f)=false:=beq_eq_false_iff_ne.mpr h
   simp only[List.lookup,hb,if_neg h]
 |(k,x)::r=>by
  have ih:=p8 f g v r;rw[show ke f v ((k,x)::r)=(if k=f then(k,v)::r else(k,x)::ke f v r)from rfl];by_cases hk:k=f
  .rw[if_pos hk]
   by_cases h:g=k
   .have hb:(g==k)=true:=beq_iff_eq.mpr h
    simp only[List.lookup,hb,if_pos (h.trans hk)]
   .have hb:(g==k)=false:=beq_eq_false_iff_ne.mpr h
    simp only[List.lookup,hb,if_neg (fun e:g=f=>h (e.trans hk.symm))]
  .rw[if_neg hk]
   by_cases h:g=k
   .have hb:(g==k)=true:=beq_iff_eq.mpr h
    simp only[List.lookup,hb,if_neg (fun e:g=f=>hk (h.symm.trans e))]
   .have hb:(g==k)=false:=beq_eq_false_iff_ne.mpr h
    simp only[List.lookup,hb];exact ih
theorem pC(f:Str)(v:V):∀fs:List (Str×V),f∈(ke f v fs).map (·.1)/\∀g,g∈fs.map (·.1)->g∈(ke f v fs).map (·.1)
 |[]=>⟨by simp[ke],fun g h=>by simp at h⟩
 |(k,x)::r=>by
  obtain⟨i1,i2⟩:=pC f v r;rw[show ke f v ((k,x)::r)=(if k=f then(k,v)::r else(k,x)::ke f v r)from rfl];by_cases hk:k=f
  .rw[if_pos hk]
   subst hk;exact⟨by simp,fun g h=>by simpa using h⟩
  .rw[if_neg hk]
   refine⟨?_,fun g h=>?_⟩
   .rw[Pm]
    exact Pu _ i1
   .rw[Pm]at h⊢
    rcases List.mem_cons.mp h with e|e
    .exact List.mem_cons.mpr (.inl e)
    .exact Pu _ (i2 g e)
theorem qg(f:Str)(v:V):∀fs:List (Str×V),(ke f v fs).length<=fs.length+1
 |[]=>by simp[ke]
 |(k,x)::r=>by
  have ih:=qg f v r;rw[show ke f v ((k,x)::r)=(if k=f then(k,v)::r else(k,x)::ke f v r)from rfl];by_cases hk:k=f
  .rw[if_pos hk,Pl,Pl];lia
  .rw[if_neg hk,Pl,Pl];lia
theorem ji.some_of {v:V}{o:Option PX}(r:ji (some v) o):∃u,o=some u/\RelV v u:=by
 cases o with
 |none=>exact(show False from r).elim
 |some u=>exact⟨u,rfl,r⟩
theorem ji.none_of {o:Option PX}(r:ji none o):o=none:=by
 cases o with
 |none=>rfl
 |some u=>exact(show False from r).elim
theorem Ct{v:V}{u:PX}(r:RelV v u):W.handedIn u=true:=by
 cases v with
 |cE=>cases(show u=PX.none from r);rfl
 |bl b=>cases(show u=PX.bool b from r);rfl
 |int i=>obtain⟨t,e⟩:=(show∃t,u=PX.int i t from r);cases e;rfl
 |str x=>obtain⟨t,e⟩:=(show∃t,u=PX.str x t from r);cases e;rfl
 |byt b=>obtain⟨t,e⟩:=(show∃t,u=PX.bytes b t from r);cases e;rfl
 |tM b=>obtain⟨t,e⟩:=(show∃t,u=PX.float b t from r);cases e;rfl
 |ref a=>cases(show u=PX.ref a from r);rfl
 |ty n=>cases(show u=PX.type n from r);rfl
section
variable{P:P0}{w:P4}{H H':Hp}{h h':Qd}{a C dx:PY}{fs fs':List (Str×V)}
theorem qP(aX:ma P w H h)(e:H a=some (.ins C dx fs)):∃mA,A2 h a dx C mA/\(∀f,ji (fs.lookup f) (mA f))/\PySem.Within mA (fs.map (·.1))/\fs.length<=1000/\H dx=some (.own a):=by
 obtain⟨d,z,ne,ob,mA,n,r,q⟩:=(show bF P w H h a (.ins C dx fs)from aX a _ e);exact⟨mA,⟨ob,n,ne⟩,r,q,z,d⟩
end
structure CH(K:W.Frag)(C:PY):Prop where
 pg:W.plainGet K C Str.empty=true
 hd:W.hasDictIn K C=true
 po:W.plainOver K C=true
 sa:W.findIn K (.ref C) "__setattr__" =some (some (.builtin "object.__setattr__"))
theorem CH.get {K:W.Frag}{C:PY}(c:CH K C)(f:Str):W.plainGet K C f=true:=c.pg
def kr(K:W.Frag)(C:PY)(f:Str):Prop:=W.findIn K (.ref C) f=some none
theorem kr.MD {K:W.Frag}{C:PY}{f:Str}(n:kr K C f):W.takerIn K C f=some none:=by
 unfold W.takerIn;rw[show W.findIn K (.ref C) f=some none from n];rfl
structure Meth(K:W.Frag)(C:PY)(m:Str)(f:PY):Prop where
 at_:W.findIn K (.ref C) m=some (some (.ref f))
 fn:W.isFn K (.ref f)=true
 kp:W.keepIn K (.ref f)=true
section
variable{X:Cx}{pins:List (PY×Obj)}{σ:St}{H:Hp}{s:PZ}{a C dx:PY}{fs:List (Str×V)}{f:Str}{v:V}{A:P5}{E:PX->PZ->Prop}
theorem Ag{b:Bool}{Q:PX->PZ->Prop}(I:Inv X pins σ H s)(e:H a=some (.ins C dx fs))(c:CH X.K C)(n:kr X.K C f)(l:fs.lookup f=some v)
  (h:∀u s',Inv X pins σ H s'->RelV v u->Q u s'):Qf (model X.prog X.w) A (getAttr (.ref a) f b) Q E s:=by
 obtain⟨mA,O,r,_,_,_⟩:=qP I.aX e;obtain⟨u,hu,ru⟩:=ji.some_of (v:=v) (o:=mA f) (by rw[←l];exact r f);exact get_map I.jD O (c.get f) c.hd n hu (Ct ru) (h u _ (I.tok _) ru)
theorem mW{m:Str}{g:PY}{pl:Sem Bool}{Q:PX×List PX->PZ->Prop}(I:Inv X pins σ H s)(e:H a=some (.ins C dx fs))(c:CH X.K C)(k:Meth X.K C m g)(l:fs.lookup m=none)
  (h:Q (.ref g,[.ref a]) s):Qf (model X.prog X.w) A (getMethod (.ref a) m pl) Q E s:=by
 obtain⟨mA,O,r,_,_,_⟩:=qP I.aX e;have hn:mA m=none:=ji.none_of (by rw[←l];exact r m);exact Gq I.jD O (c.get m) k.at_ k.fn hn h
theorem z6{y:V}{u:PX}{Q:Unit->PZ->Prop}(I:Inv X pins σ H s)(e:H a=some (.ins C dx fs))(c:CH X.K C)(n:kr X.K C f)(hl:fs.length<1000)(ry:RelV y u)
  (h:∀s',Inv X pins σ (upd H a (.ins C dx (ke f y fs))) s'->Q () s'):Qf (model X.prog X.w) A (setAttr (.ref a) f u) Q E s:=by
 obtain⟨mA,O,r,wi,_,ho⟩:=qP I.aX e;have hz:(fs.map (·.1)).length<=P6:=by rw[Pe,sizeLine_eq];lia
 refine G0 I.jD O c.sa c.po n.MD c.hd wi hz fun h' O' sb=>h _ ?_;have hd:∃o,h'.get? dx=some o:=let⟨o,_,_,e',_⟩:=O'.ns;⟨o,e'⟩
 refine I.write (x:=a) (e:=dx) (by rw[e];exact True.intro) (.inr ho) (fun b q hb z=>(sb.2 b hb).trans z) hd ?_;refine⟨by rw[ao O.ne];exact ho,?_,O.ne,O'.obj,_,O'.ns,fun g=>?_,fun g hg=>?_⟩
 .have:=qg f y fs;lia
 .show ji ((ke f y fs).lookup g) (if g=f then some u else mA g)
  rw[p8];by_cases q:g=f
  .rw[if_pos q,if_pos q];exact ry
  .rw[if_neg q,if_neg q];exact r g
 .by_cases q:g=f
  .rw[q];exact(pC f y fs).1
  .refine(pC f y fs).2 g (wi g fun z=>hg ?_)
   show(if g=f then some u else mA g)=none;rw[if_neg q];exact z
theorem Inv.made (I:Inv X pins σ H s):Inv X pins σ (upd (upd H s.heap.objs.size (.own (s.heap.objs.size+1))) (s.heap.objs.size+1) (.ins C s.heap.objs.size []))
  {s with heap:=(s.heap.push W.emptyDict).push (W.instObj C s.heap.objs.size)}:=by
 have e1:(s.heap.push W.emptyDict).get? s.heap.objs.size=some W.emptyDict:=Qd.get?_push_size s.heap rfl;have e2:((s.heap.push W.emptyDict).push (W.instObj C s.heap.objs.size)).get? (s.heap.objs.size+1)=some (W.instObj C s.heap.objs.size):=by
  have:=Qd.get?_push_size (s.heap.push W.emptyDict) (o:=W.instObj C s.heap.objs.size) rfl;rwa [Qd.size_push]at this
 have e3:(s.heap.push W.emptyDict).Ns s.heap.objs.size (fun _=>none):=⟨W.emptyDict,#[],_,e1,rfl,(fun e he=>absurd he (by simp)),fun _=>rfl⟩;have I1:=I.laid (a:=s.heap.objs.size) (o:= .own (s.heap.objs.size+1)) (h':=s.heap.push W.emptyDict) (t':=s.toks) (fun b u q=>Qd.get?_push_of_some _ q) (PK _) ⟨_,e1⟩;refine I1.laid (a:=s.heap.objs.size+1) (o:= .ins C s.heap.objs.size []) (t':=s.toks) (fun b u q=>Qd.get?_push_of_some _ q) (Nat.le_of_eq (Qd.size_push _ _)) ?_;have ne:s.heap.objs.size≠s.heap.objs.size+1:=PM (Nat.lt_succ_self _);refine⟨by rw[ao ne,af],PQ _,ne,e2,fun _=>none,(Qd.Ns1.of_empty e3).at fun o q=>Qd.get?_push_of_some _ q,fun _=>True.intro,fun y hy=>absurd rfl hy⟩
theorem Hq{prog:P0}{w:P4}{env:Env}{e:Expr}{f:Str}{pos:Pos}{s:PZ}{Q:PX->PZ->Prop}(hb:attributeBase e f env (eval e env)=eval e env)
  (h:Qf (model prog w) A (eval e env) (fun o s₁=>Qf (model prog w) A (getAttr o f true) Q E s₁) E s):Qf (model prog w) A (eval (.Attribute e f pos) env) Q E s:=
 Attribute_any_ h (by rw[arm_eval_Attribute,hb])
end
def Mz(K:W.Frag)(ta:TE)(f:Str):TE:=fun σ H Q=>ta σ H fun x H1=>∃a C dx fs v,x= .ref a/\H1 a=some (.ins C dx fs)/\CH K C/\kr K C f/\fs.lookup f=some v/\Q v H1
def Me(K:W.Frag)(ta tv:TE)(f:Str):TS:=fun D σ H=>tv σ H fun y H1=>ta σ H1 fun x H2=>∃a C dx fs,x= .ref a/\H2 a=some (.ins C dx fs)/\CH K C/\kr K C f/\fs.length<1000/\
 D.nx σ (upd H2 a (.ins C dx (ke f y fs)))
section
variable{X:Cx}{o e value:Expr}{f:Str}{pos pos' tpos:Pos}{ta tv:TE}
theorem J9(he:PE X e ta)(hb:attributeBase e f X.env (eval e X.env)=eval e X.env):PE X (.Attribute e f pos) (Mz X.K ta f):=by
 intro pins s σ H Q I h;refine Hq hb (bf (he pins s σ H _ I h) fun u s1 ⟨x,H1,I1,rx,a,C,dx,fs,v,ex,ea,c,n,l,q⟩=>?_);subst ex;obtain rfl:u=PX.ref a:=rx;exact Ag I1 ea c n l fun u' s2 I2 ru=>⟨v,H1,I2,ru,q⟩
theorem JX(ha:PE X o ta)(hv:PE X value tv)(hs:swapsWith value (some (.Attribute o f pos')) pos.line X.env=pure false):PS X (.Assign [.Attribute o f pos'] value pos) (Me X.K ta tv f):=by
 intro pins s σ H D I h;refine plainObj_wpAny_Assign_Attribute (bf (hv pins s σ H _ I h) fun u s1 ⟨y,H1,I1,ry,q⟩=>bf (ha pins s1 σ H1 _ I1 q) fun ov s2 ⟨x,H2,I2,rx,a,C,dx,fs,ex,ea,c,n,l,q2⟩=>?_) hs;subst ex;obtain rfl:ov=PX.ref a:=rx;exact z6 I2 ea c n l ry fun s3 I3=>⟨σ,_,I3,q2⟩
theorem IL{pl:Sem Bool}{m:Str}{apos:Pos}{args:List Expr}{pins:List (PY×Obj)}{s:PZ}{σ:St}{H:Hp}{Q:PX->PZ->Prop}{te:TE}(he:PE X e te)(I:Inv X pins σ H s)
  (h:te σ H fun x H1=>∃a C dx fs g,x= .ref a/\H1 a=some (.ins C dx fs)/\CH X.K C/\Meth X.K C m g/\fs.lookup m=none/\
   ∀s1,Inv X pins σ H1 s1->Qf (model X.prog X.w) X.A (callWith pos (.ref g) [.ref a] (Qe pos (Qb args X.env)) (backToKw pos (keywordEach [] X.env))) Q X.xe s1)
  (ht:eval (.Call (.Attribute e m apos) args [] pos) X.env=(do
   let ov←eval e X.env
   standAt apos.atName
   let(f,first)←holding [ov] (getMethod ov m pl)
   callWith pos f first (Qe pos (Qb args X.env)) (backToKw pos (keywordEach [] X.env)))):
  Qf (model X.prog X.w) X.A (eval (.Call (.Attribute e m apos) args [] pos) X.env) Q X.xe s:=by
 refine W.methodCall_KW (pl:=pl) (bf (he pins s σ H _ I h) fun u s1 ⟨x,H1,I1,rx,a,C,dx,fs,g,ex,ea,c,k,l,q⟩=>?_) ht;subst ex;obtain rfl:u=PX.ref a:=rx;exact mW I1 ea c k l (q s1 I1)
end
section
variable{X:Cx}{pins:List (PY×Obj)}{σ:St}{H:Hp}{s:PZ}{A:P5}{E:PX->PZ->Prop}{Q:PX->PZ->Prop}{c:PX}{b:Bool}
inductive mQ(K:W.Frag)(H:Hp):V->PX->Prop where
 |cE:mQ K H .cE (.type "NoneType")
 |bl (x:Bool):mQ K H (.bl x) (.type "bool")
 |int (i:Int):mQ K H (.int i) (.type "int")
 |str (x:Str):mQ K H (.str x) (.type "str")
 |tM (x:UInt64):mQ K H (.tM x) (.type "float")
 |lst {a:PY} {xs:List V} (e:H a=some (.lst xs)):mQ K H (.ref a) (.type "list")
 |mL {a:PY} {o:Obj} {xs:List V} (e:H a=some (.mL o (.lst xs))):mQ K H (.ref a) (.type "list")
 |tup {a:PY} {xs:List V} (e:H a=some (.tup xs)):mQ K H (.ref a) (.type "tuple")
 |dK {a:PY} {kvs:List (Key×V)} (e:H a=some (.dK kvs)):mQ K H (.ref a) (.type "dict")
 |dT {a:PY} {kvs:List (List Key×V)} (e:H a=some (.dT kvs)):mQ K H (.ref a) (.type "dict")
 |ins {a C dx:PY} {fs:List (Str×V)} (e:H a=some (.ins C dx fs)) (cl:CH K C) (ha:W.findIn K (.ref C) "__class__" =some (some (.builtin "object.__class__")))
   (hn:W.specialIn K (.builtin "object.__class__") "__get__" =some (some (.builtin "getset_descriptor.__get__"))) (htk:W.takesIn K (.builtin "object.__class__")=some true)
   (hm:W.mroIn K C (.type "object")=some true):mQ K H (.ref a) (.ref C)
theorem C9{x:V}{u t:PX}(I:Inv X pins σ H s)(rx:RelV x u)(ty:mQ X.K H x t)(e:W.kitOne X.K t c=some b)(h:∀tk,Q (.bool b) {s with toks:=tk}):
  Qf (model X.prog X.w) A (call (.builtin "isinstance") [u,c]) Q E s:=by
 cases ty with
 |cE=>cases(show u=PX.none from rx);exact W.kia_one W.kitx_none I.jD True.intro e (fun z=>nomatch z) h
 |bl y=>cases(show u=PX.bool y from rx);exact W.kia_one W.kitx_bool I.jD True.intro e (fun z=>nomatch z) h
 |int i=>obtain⟨t,q⟩:=(show∃t,u=PX.int i t from rx);cases q;exact W.kia_one W.kitx_int I.jD True.intro e (fun z=>nomatch z) h
 |str y=>obtain⟨t,q⟩:=(show∃t,u=PX.str y t from rx);cases q;exact W.kia_one W.kitx_str I.jD True.intro e (fun z=>nomatch z) h
 |tM y=>obtain⟨t,q⟩:=(show∃t,u=PX.float y t from rx);cases q;exact W.kia_one W.kitx_float I.jD True.intro e (fun z=>nomatch z) h
 | @lst a xs ea=>
  cases(show u=PX.ref a from rx);obtain⟨_,_,n,_,h1⟩:=(show bF X.prog X.w H s.heap a (.lst xs)from I.aX a _ ea);exact W.kia_one W.kitx_list I.jD ⟨_,h1,rfl⟩ e (fun z=>nomatch z) h
 | @mL a ob xs ea=>
  cases(show u=PX.ref a from rx);obtain⟨_,_,_,n,_,h1⟩:=(show bF X.prog X.w H s.heap a (.mL ob (.lst xs))from I.aX a _ ea);exact W.kia_one W.kitx_list I.jD ⟨_,h1,rfl⟩ e (fun z=>nomatch z) h
 | @tup a xs ea=>
  cases(show u=PX.ref a from rx);obtain⟨_,_,_,p⟩:=(show bF X.prog X.w H s.heap a (.tup xs)from I.aX a _ ea);obtain⟨o,h1,h2,_⟩:=p;exact W.kia_one W.kitx_tuple I.jD ⟨o,h1,h2⟩ e (fun z=>nomatch z) h
 | @dK a kvs ea=>
  cases(show u=PX.ref a from rx);obtain⟨_,_,vs,_,p⟩:=(show bF X.prog X.w H s.heap a (.dK kvs)from I.aX a _ ea);obtain⟨o,es,ep,h1,h2,_⟩:=p;exact W.kia_one W.kitx_dict I.jD ⟨o,h1,h2.1⟩ e (fun z=>nomatch z) h
 | @dT a kvs ea=>
  cases(show u=PX.ref a from rx);obtain⟨_,_,xs,_,o,es,ep,h1,h2,_⟩:=(show bF X.prog X.w H s.heap a (.dT kvs)from I.aX a _ ea);exact W.kia_one W.kitx_dict I.jD ⟨o,h1,h2.1⟩ e (fun z=>nomatch z) h
 | @ins a C dx fs ea cl ha hn htk hm=>
  cases(show u=PX.ref a from rx);obtain⟨mA,O,_⟩:=qP I.aX ea;obtain⟨od,J,_⟩:=O.look;exact W.kia_one (W.kitx_own (cl.get _) cl.hd ha hn htk hm) I.jD J e (fun z=>nomatch z) h
end
structure cB(k:Nat)(A:P5):Prop where
 hd:A.handled=none
 gd:A.guards=some []
 dp:A.depth+3*k+5<recursionLimit
 un:A.units+16*k+200<cLine
theorem cB.mono {j k:Nat}{A:P5}(r:cB k A)(h:j<=k):cB j A:=⟨r.hd,r.gd,by have:=r.dp;lia,by have:=r.un;lia⟩
theorem cB.deeper {k:Nat}{A:P5}(r:cB (k+1) A)(env:Env):cB k (A.deeper env):=
 ⟨r.hd,r.gd,by have:=r.dp;show A.depth+1+3*k+5<_;lia,by have:=r.un;show A.units+3+16*k+200<_;lia⟩
theorem A4{A:P5}{C:PY}{us:List PX}{kw:List (Str×PX)}:(A.under (.builtin "type.__call__" ⟨.ref C::us,kw⟩)).depth=A.depth+1:=by
 first|rfl|simp[P5.under,Code.weight,Code.isCreation,Code.isGuard,Code.isCaller,Code.frames,Code.isFrame,guardIds]
theorem Ax{A:P5}{C:PY}{us:List PX}{kw:List (Str×PX)}:(A.under (.builtin "type.__call__" ⟨.ref C::us,kw⟩)).units=A.units+1:=by
 first|rfl|simp[P5.under,Code.cUnits,Code.frames,Code.isFrame]
theorem yC{A:P5}{C:PY}{us:List PX}{kw:List (Str×PX)}:(A.under (.builtin "type.__call__" ⟨.ref C::us,kw⟩)).guards=A.guards:=by
 first|rfl|simp[P5.under,Code.isGuard,guardIds]
theorem cB.make {k:Nat}{A:P5}(r:cB (k+1) A)(C:PY)(us:List PX)(kw:List (Str×PX)):cB k (A.under (.builtin "type.__call__" ⟨.ref C::us,kw⟩)):=
 ⟨r.hd,by rw[yC];exact r.gd,by have:=r.dp;rw[A4];lia,by have:=r.un;rw[Ax];lia⟩
theorem cB.depth {k:Nat}{A:P5}(r:cB k A):A.depth<recursionLimit:=by have:=r.dp;lia
theorem cB.units {k:Nat}{A:P5}(r:cB k A):A.units+64<cLine:=by have:=r.un;lia
def wt:TA:=fun _ H Q=>Q [] H
def qh(ta:TE)(tr:TA):TA:=fun σ H Q=>ta σ H fun x H1=>tr σ H1 fun xs H2=>Q (x::xs) H2
section
variable{X:Cx}{e:Expr}{es:List Expr}{te:TE}{t:TA}{pos:Pos}
theorem ae:PA X [] wt:=fun _ _ _ _ H Q I h=>Calls.spliced_nil ⟨[],H,I,.nil,h⟩
theorem aa(ha:PE X e te)(hr:PA X es t)(hs:Qb (e::es) X.env=(false,eval e X.env)::Qb es X.env:=by rfl):PA X (e::es) (qh te t):=by
 intro pos pins s σ H Q I h;rw[hs];show Qf _ _ (spliced ((false,eval e X.env)::Qe pos (Qb es X.env))) _ _ s;refine Calls.spliced_cons (bf (ha pins s σ H _ I h) fun u s1 ⟨x,H1,I1,r1,q1⟩=>?_);exact bf (hr pos pins s1 σ H1 _ I1 q1) fun us s2 ⟨xs,H2,I2,r2,q2⟩=>⟨x::xs,H2,I2,.cons r1 r2,q2⟩
def NK(t:TA):TE:=fun σ H Q=>t σ H fun xs H1=>xs.length<=P6/\∀p,H1 p=none->Q (.ref p) (upd H1 p (.tup xs))
def MY(t:TA):TE:=fun σ H Q=>t σ H fun xs H1=>xs.length<=P6/\∀p,H1 p=none->Q (.ref p) (upd H1 p (.lst xs))
theorem EU{x1}(h:PA X es t):PE X (.Tuple es x1 pos) (NK t):=by
 intro pins s σ H Q I hq;refine wpAny_Tuple_spliced (bf (h pos pins s σ H _ I hq) fun us s1 ⟨xs,H1,I1,r,z,q⟩=>⟨by rw[←r.length];exact z,?_⟩);have hf:H1 s1.heap.objs.size=none:=I1.aX.fresh (PK _);refine⟨.ref s1.heap.objs.size,upd H1 s1.heap.objs.size (.tup xs),I1.laid (t':=s1.toks) (fun b u e=>Qd.get?_push_of_some _ e) (PK _) ?_,rfl,q _ hf⟩;exact⟨z,us,r,⟨_,Qd.get?_push_size _ rfl,rfl,_,rfl⟩⟩
theorem bH(h:PA X es t):PE X (.List es pos) (MY t):=by
 intro pins s σ H Q I hq;refine wpAny_List_spliced (bf (h pos pins s σ H _ I hq) fun us s1 ⟨xs,H1,I1,r,z,q⟩=>⟨by rw[←r.length];exact z,?_⟩);have hf:H1 s1.heap.objs.size=none:=I1.aX.fresh (PK _);refine⟨.ref s1.heap.objs.size,upd H1 s1.heap.objs.size (.lst xs),I1.laid (t':=s1.toks) (fun b u e=>Qd.get?_push_of_some _ e) (PK _) ?_,rfl,q _ hf⟩;exact⟨z,us,0,r,Qd.get?_push_size _ rfl⟩
end
abbrev Sp:=List V->Hp->VK->XK->Prop
abbrev uJ:=List Env->Hp->PZ->XK->PX->PZ->Prop
structure y7(P:P0)(w:P4)(K:W.Frag)(mg:Str->Option PX)(base:Qd)(A:P5)(outer:List Env)(s:PZ)(H:Hp):Prop where
 frames:A.frames=some outer
 mod:Mod K mg base
 bs:∀b o,base.get? b=some o->s.heap.get? b=some o/\H b=none
 z8:base.objs.size<=s.heap.objs.size
 jc:s.heap.FunFrames base outer
 p7:∀b∈fo outer,H b=none
 aX:ma P w H s.heap
 bare:AllBare s.gens
def CE(outer:List Env)(P:P0)(w:P4)(H:Hp)(s:PZ)(Q:VK)(u:PX)(s':PZ):Prop:=
 ∃v H',s'.os=s.os/\AllBare s'.gens/\Un (fo outer) [] H H' s.heap s'.heap/\ma P w H' s'.heap/\RelV v u/\Q v H'
def CR(CX:uJ)(outer:List Env)(P:P0)(w:P4)(H:Hp)(s:PZ)(Q:VK)(E:XK)(r:Result)(s':PZ):Prop:=
 match r with
 | .ok (.ret u)=>CE outer P w H s Q u s'
 | .ok _=>False
 | .error e=>CX outer H s E e s'
structure aQ(P:P0)(w:P4)(K:W.Frag)(mg:Str->Option PX)(base:Qd)(CX:uJ)(k:Nat)(f:PY)(fd:Qc)(ps:List Str)(sp:Sp):Prop where
 len:∀vs H Q E,sp vs H Q E->vs.length=ps.length
 run:∀(A:P5)(outer:List Env)(s:PZ)(H:Hp)(args:Args)(us:List PX)(vs:List V)(Q:VK)(E:XK),cB k A->y7 P w K mg base A outer s H->BindsTo s fd args (ps.zip us)->Vals vs us->sp vs H Q E->
  codeAny (model P w) A (.call (.ref f) args) (CR CX outer P w H s Q E) s
theorem aQ.imp {P:P0}{w:P4}{K:W.Frag}{mg:Str->Option PX}{base:Qd}{CX:uJ}{k:Nat}{f:PY}{fd:Qc}{ps:List Str}{sp sp':Sp}(F:aQ P w K mg base CX k f fd ps sp)
  (h:∀vs H Q E,sp' vs H Q E->sp vs H Q E):aQ P w K mg base CX k f fd ps sp':=
 ⟨fun vs H Q E q=>F.len vs H Q E (h _ _ _ _ q),fun A outer s H args us vs Q E hr he hb hv hs=>F.run A outer s H args us vs Q E hr he hb hv (h _ _ _ _ hs)⟩
theorem y7.make {P:P0}{w:P4}{K:W.Frag}{mg:Str->Option PX}{base:Qd}{A:P5}{outer:List Env}{s:PZ}{H:Hp}(e:y7 P w K mg base A outer s H)(C:PY)(us:List PX)(kw:List (Str×PX)):
  y7 P w K mg base (A.under (.builtin "type.__call__" ⟨.ref C::us,kw⟩)) outer s H:=⟨by first|exact e.frames|(simpa [P5.under,Code.envs,Code.isFrame,pushEnvs]using e.frames),e.mod,e.bs,e.z8,e.jc,e.p7,e.aX,e.bare⟩
section
variable{X:Cx}{pins:List (PY×Obj)}{σ:St}{H:Hp}{s s':PZ}
theorem Inv.mx (I:Inv X pins σ H s):y7 X.prog X.w X.K X.mg X.base X.A X.stack s H:=
 ⟨I.ok.frames,I.ok.mod,I.bs,PN I.ok.z8 I.sz,I.stack,I.lT,I.aX,I.bare⟩
theorem Inv.after {Q:VK}{u:PX}(I:Inv X pins σ H s)(h:CE X.stack X.prog X.w H s Q u s'):EP X pins σ Q u s':=by
 obtain⟨v,H',os,bare,un,aX,r,q⟩:=h;obtain⟨hh,g,d,t,os'⟩:=s';obtain rfl:os'=s.os:=os;exact⟨v,H',I.call (h':=hh) (g':=g) (d':=d) (t':=t) (ch:=[]) un aX bare (fun b z=>absurd z (by simp)),r,q⟩
end
def rf(sp:Sp)(dvs:List V)(E:XK)(t:TA):TE:=fun σ H Q=>t σ H fun vs H1=>sp (vs++dvs) H1 Q E
def Ja(C:PY)(m:Str)(sp:Sp)(dvs:List V)(E:XK)(ta:TE)(t:TA):TE:=fun σ H Q=>ta σ H fun x H1=>∃a dx fs,x= .ref a/\H1 a=some (.ins C dx fs)/\fs.lookup m=none/\
 t σ H1 fun vs H2=>sp (x::(vs++dvs)) H2 Q E
def Jm(C:PY)(sp:Sp)(dvs:List V)(E:XK)(t:TA):TE:=fun σ H Q=>t σ H fun vs H1=>∀x dx,H1 x=none->H1 dx=none->dx≠x->
 sp (.ref x::(vs++dvs)) (upd (upd H1 dx (.own x)) x (.ins C dx [])) (fun v H2=>v= .cE/\Q (.ref x) H2) E
def Binds(K:W.Frag)(fd:Qc)(ps:List Str)(ds:List PX):Prop:=
 ∀(s:PZ)(us:List PX),K.In s.heap->(us++ds).length=ps.length->BindsTo s fd ⟨us,[]⟩ (ps.zip (us++ds))
theorem Binds.all {K:W.Frag}{fd:Qc}{ps:List Str}(h:∀us:List PX,us.length=ps.length->bindArgs fd ⟨us,[]⟩=pure (ps.zip us)):Binds K fd ps []:=fun s us _ hl=>by
 rw[PD]at hl⊢;exact .of_eq (h us hl)
def Passes(CX:uJ)(X:Cx)(E:XK):Prop:=∀(pins:List (PY×Obj))(σ:St)(H:Hp)(s:PZ)(e:PX)(s':PZ),Inv X pins σ H s->CX X.stack H s E e s'->X.xe e s'
section
variable{X:Cx}{CX:uJ}{k:Nat}{f C:PY}{fd:Qc}{ps:List Str}{sp:Sp}{dvs:List V}{ds:List PX}{E:XK}{x m:Str}{p pos apos:Pos}{e o:Expr}{es:List Expr}{ta:TE}{t:TA}
theorem Aj{pins:List (PY×Obj)}{σ:St}{H:Hp}{s:PZ}{Q:VK}{us:List PX}{vs:List V}(F:aQ X.prog X.w X.K X.mg X.base CX k f fd ps sp)(hr:cB k X.A)(hb:Binds X.K fd ps ds)(hd:Vals dvs ds)(hx:Passes CX X E)
  (I:Inv X pins σ H s) (r:Vals vs us) (h:sp (vs++dvs) H Q E):Qf (model X.prog X.w) X.A (call (.ref f) us) (EP X pins σ Q) X.xe s:=by
 have r2:Vals (vs++dvs) (us++ds):=r.append hd;have hl:(us++ds).length=ps.length:=by rw[←r2.length];exact F.len _ _ _ _ h
 refine wpAny_call (codeAny_mono (F.run X.A X.stack s H ⟨us,[]⟩ (us++ds) (vs++dvs) Q E hr I.mx (hb s us I.jD hl) r2 h) fun r s' hq=>?_)
 cases r with
 |error e=>exact hx pins σ H s e s' I hq
 |ok fl=>
  cases fl with
  |ret u=>exact I.after hq
  |next=>exact False.elim hq
  |brk=>exact False.elim hq
  |cont=>exact False.elim hq
theorem BJ(F:aQ X.prog X.w X.K X.mg X.base CX k f fd ps sp)(hr:cB k X.A)(hg:Gl X x)(hm:X.mg x=some (.ref f))(hk:W.keepIn X.K (.ref f)=true)(hb:Binds X.K fd ps ds)(hd:Vals dvs ds)(hx:Passes CX X E)
  (ha:PA X (e::es) t) (hdb:(x==("__debug__" :Str))=false:=by decide) (he:Qb (e::es) X.env=(false,eval e X.env)::Qb es X.env:=by rfl) (hpl:(Qe pos (Qb es X.env)).any (·.1)=false:=by rfl):
  PE X (.Call (.Name x p) (e::es) [] pos) (rf sp dvs E t):=by
 intro pins s σ H Q I h;refine wpAny_Call_Name_kw (fY I hg hm ?_ hdb);refine W.callWith_K (h₀:=X.base) I.ok.mod.AJ hk (bf (ha pos pins s σ H _ I h) fun us s1 ⟨vs,H1,I1,r,q⟩=>⟨I1.jD,?_⟩) he hpl;exact Aj F hr hb hd hx I1 r q
theorem Ed(F:aQ X.prog X.w X.K X.mg X.base CX k f fd ps sp)(hr:cB k X.A)(hg:Gl X x)(hm:X.mg x=some (.ref f))(hk:W.keepIn X.K (.ref f)=true)(hb:Binds X.K fd ps ds)(hd:Vals dvs ds)(hx:Passes CX X E)
  (hdb:(x==("__debug__" :Str))=false:=by decide):PE X (.Call (.Name x p) [] [] pos) (rf sp dvs E wt):=by
 intro pins s σ H Q I h;refine wpAny_Call_Name_kw (fY I hg hm ?_ hdb);exact W.callWith_K0 I.jD hk (Aj (us:=[]) F hr hb hd hx I .nil h)
theorem Hz{pl:Sem Bool}(he:PE X o ta)(c:CH X.K C)(hm:Meth X.K C m f)(F:aQ X.prog X.w X.K X.mg X.base CX k f fd ps sp)(hr:cB k X.A)(hb:Binds X.K fd ps ds)(hd:Vals dvs ds)(hx:Passes CX X E)(ha:PA X (e::es) t)
  (hst:Qb (e::es) X.env=(false,eval e X.env)::Qb es X.env:=by rfl) (hpl:(Qe pos (Qb es X.env)).any (·.1)=false:=by rfl)
  (ht:eval (.Call (.Attribute o m apos) (e::es) [] pos) X.env=(do
   let ov←eval o X.env
   standAt apos.atName
   let(f,first)←holding [ov] (getMethod ov m pl)
   callWith pos f first (Qe pos (Qb (e::es) X.env)) (backToKw pos (keywordEach [] X.env))):=by rfl):
  PE X (.Call (.Attribute o m apos) (e::es) [] pos) (Ja C m sp dvs E ta t):=by
 intro pins s σ H Q I h;refine W.methodCall_KW (pl:=pl) (bf (he pins s σ H _ I h) fun u s1 ⟨x,H1,I1,rx,a,dx,fs,ex,ea,l,q⟩=>?_) ht;subst ex;obtain rfl:u=PX.ref a:=rx;refine mW I1 ea c hm l ?_;refine W.callWith_K (first:=[.ref a]) (h₀:=X.base) I.ok.mod.AJ hm.kp (bf (ha pos pins s1 σ H1 _ I1 q) fun us s2 ⟨vs,H2,I2,r,q2⟩=>⟨I2.jD,?_⟩) hst hpl;exact Aj (us:= .ref a::us) (vs:= .ref a::vs) F hr hb hd hx I2 (.cons rfl r) q2
structure Mk(K:W.Frag)(C f:PY):Prop where
 makes:W.makesIn K C=true
 init:W.findIn K (.ref C) "__init__" =some (some (.ref f))
 fn:W.isFn K (.ref f)=true
 kp:W.keepIn K (.ref C)=true
theorem FZ{pins:List (PY×Obj)}{σ:St}{H:Hp}{s:PZ}{Q:VK}{us:List PX}{vs:List V}(M:Mk X.K C f)(F:aQ X.prog X.w X.K X.mg X.base CX k f fd ps sp)(hr:cB (k+1) X.A)(hb:Binds X.K fd ps ds)(hd:Vals dvs ds)
  (hx:Passes CX X E) (I:Inv X pins σ H s) (r:Vals vs us)
  (h:∀x dx,H x=none->H dx=none->dx≠x->sp (.ref x::(vs++dvs)) (upd (upd H dx (.own x)) x (.ins C dx [])) (fun v H2=>v= .cE/\Q (.ref x) H2) E):
  Qf (model X.prog X.w) X.A (call (.ref C) us) (EP X pins σ Q) X.xe s:=by
 have hq:=h (s.heap.objs.size+1) s.heap.objs.size (I.aX.fresh (Nat.le_succ _)) (I.aX.fresh (PK _)) (PM (Nat.lt_succ_self _));have I2:=Inv.made (C:=C) I;have r2:Vals (V.ref (s.heap.objs.size+1)::(vs++dvs)) (PX.ref (s.heap.objs.size+1)::(us++ds)):= .cons rfl (r.append hd);have hl:(PX.ref (s.heap.objs.size+1)::us++ds).length=ps.length:=by
  have e:=r2.length;rw[F.len _ _ _ _ hq]at e;exact e.symm
 refine wpAny_call (EF (f:=f) I.jD M.makes M.init (beq_iff_eq.mp M.fn) (codeAny_mono (F.run _ X.stack _ _ ⟨PX.ref (s.heap.objs.size+1)::us,[]⟩ (PX.ref (s.heap.objs.size+1)::(us++ds)) _ _ E (hr.make C us [])
  (I2.mx.make C us []) (hb _ (PX.ref (s.heap.objs.size+1)::us) I2.jD hl) r2 hq) fun r s' hq'=>?_))
 cases r with
 |error e=>exact hx pins σ _ _ e s' I2 hq'
 |ok fl=>
  cases fl with
  |ret u=>
   obtain⟨v,H',I3,rv,ev,q3⟩:=I2.after hq';subst ev;exact⟨rv,⟨V.ref (s.heap.objs.size+1),H',I3,rfl,q3⟩⟩
  |next=>exact False.elim hq'
  |brk=>exact False.elim hq'
  |cont=>exact False.elim hq'
theorem HM(M:Mk X.K C f)(F:aQ X.prog X.w X.K X.mg X.base CX k f fd ps sp)(hr:cB (k+1) X.A)(hg:Gl X x)(hm:X.mg x=some (.ref C))(hb:Binds X.K fd ps ds)(hd:Vals dvs ds)(hx:Passes CX X E)
  (ha:PA X (e::es) t) (hdb:(x==("__debug__" :Str))=false:=by decide) (he:Qb (e::es) X.env=(false,eval e X.env)::Qb es X.env:=by rfl) (hpl:(Qe pos (Qb es X.env)).any (·.1)=false:=by rfl):
  PE X (.Call (.Name x p) (e::es) [] pos) (Jm C sp dvs E t):=by
 intro pins s σ H Q I h;refine wpAny_Call_Name_kw (fY I hg hm ?_ hdb);refine W.callWith_K (h₀:=X.base) I.ok.mod.AJ M.kp (bf (ha pos pins s σ H _ I h) fun us s1 ⟨vs,H1,I1,r,q⟩=>⟨I1.jD,?_⟩) he hpl;exact FZ M F hr hb hd hx I1 r q
end
structure aE(N P:List Str)(sc:Scope):Prop where
 kind:sc.kind= .function
 co:sc.isCoroutine=false
 gen:sc.isGenerator=false
 nd:N.Nodup
 pre:N.take P.length=P
 par:∀x∈P,sc.names.lookup x=some .local\/sc.names.lookup x=some .cell
 Lh:∀y∈sc.names,y.2≠.free
theorem uK{kindOf:Str->Option Qh}{x:Str}:∀{binds:List (Str×PX)}{m:Str->Option PX},(∀v,(x,v)∉binds)->bindL kindOf binds m x=m x
 |[],_,_=>rfl
 |(n,v)::r,m,h=>by
  unfold bindL;rw[uK fun w hw=>h w (Pu _ hw)]
  split
  .have:x≠n:=by rintro rfl;exact h v Pt
   simp[this]
  .rfl
theorem vn{kindOf:Str->Option Qh}{x:Str}:∀{binds:List (Str×PX)}{m:Str->Option PX},(∀v,(x,v)∉binds)->bindC kindOf binds m x=m x
 |[],_,_=>rfl
 |(n,v)::r,m,h=>by
  unfold bindC;rw[vn fun w hw=>h w (Pu _ hw)]
  split
  .rfl
  .have:x≠n:=by rintro rfl;exact h v Pt
   simp[this]
theorem uI{kindOf:Str->Option Qh}{x:Str}{v:PX}:∀{P:List Str}{vs:List PX}{i:Nat}{m:Str->Option PX},P.Nodup->P[i]?=some x->vs[i]?=some v->kindOf x=some .local->
  bindL kindOf (P.zip vs) m x=some v
 |[],_,_,_,_,h,_,_=>by simp at h
 |_::_,[],_,_,_,_,h,_=>by simp at h
 |p::P,w::vs,0,m,nd,h1,h2,hk=>by
  simp at h1 h2;subst h1;subst h2;show bindL kindOf ((p,w)::P.zip vs) m p=_;unfold bindL;rw[uK fun v hv=>(List.nodup_cons.mp nd).1 (List.of_mem_zip hv).1,if_pos hk];simp
 |p::P,w::vs,i+1,m,nd,h1,h2,hk=>by
  show bindL kindOf ((p,w)::P.zip vs) m x=_;unfold bindL;exact uI (i:=i) (List.nodup_cons.mp nd).2 (by simpa using h1) (by simpa using h2) hk
theorem vp{kindOf:Str->Option Qh}{x:Str}{v:PX}:∀{P:List Str}{vs:List PX}{i:Nat}{m:Str->Option PX},P.Nodup->P[i]?=some x->vs[i]?=some v->kindOf x≠some .local->
  bindC kindOf (P.zip vs) m x=some v
 |[],_,_,_,_,h,_,_=>by simp at h
 |_::_,[],_,_,_,_,h,_=>by simp at h
 |p::P,w::vs,0,m,nd,h1,h2,hk=>by
  simp at h1 h2;subst h1;subst h2;show bindC kindOf ((p,w)::P.zip vs) m p=_;unfold bindC;rw[vn fun v hv=>(List.nodup_cons.mp nd).1 (List.of_mem_zip hv).1,if_neg hk];simp
 |p::P,w::vs,i+1,m,nd,h1,h2,hk=>by
  show bindC kindOf ((p,w)::P.zip vs) m x=_;unfold bindC;exact vp (i:=i) (List.nodup_cons.mp nd).2 (by simpa using h1) (by simpa using h2) hk
def start(N:List Str)(vs:List V):St:=vs.map some++List.replicate (N.length-vs.length) none
def tX(CX:uJ)(P:P0)(w:P4)(K:W.Frag)(mg:Str->Option PX)(base:Qd)(N:List Str)(qual:Str)(scope:Scope)(f:PY)(cd:PX)(A:P5)(outer:List Env)(s:PZ)(H:Hp)(E:XK):Cx where
 prog:=P
 w:=w
 K:=K
 mg:=mg
 base:=base
 A:=A.deeper (envOfC qual scope s.heap.objs.size f cd)
 N:=N
 s₀:=s
 H₀:=H
 env:=envOfC qual scope s.heap.objs.size f cd
 outer:=outer
 stack:=envOfC qual scope s.heap.objs.size f cd::outer
 ex:=[]
 calm:=true
 fn:=fun _=>true
 pn:=[]
 xe:=fun e s'=>Qf (model P w) (A.deeper (envOfC qual scope s.heap.objs.size f cd)) (leaving (envOfC qual scope s.heap.objs.size f cd) e) (fun _ s''=>CX outer H s E e s'') (fun e' s''=>CX outer H s E e' s'') s'
theorem yO{sc:Scope}{n:Nat}{x:Str}(h:sc.names.lookup x=some .cell):∃c,(cellsFrom n sc.names []).lookup x=some c:=by
 have q:=W.cellsFrom_some sc.names n [] (.inl h);exact Option.isSome_iff_exists.mp q
theorem va{CX:uJ}{P:P0}{w:P4}{K:W.Frag}{mg:Str->Option PX}{base:Qd}{N ps:List Str}{qual:Str}{scope:Scope}{f:PY}{cd:PX}{A:P5}{outer:List Env}{s s1:PZ}{H:Hp}{E:XK}{us:List PX}{vs:List V}
  (S:aE N ps scope) (hd:A.handled=none) (e0:y7 P w K mg base A outer s H) (hl:vs.length=ps.length) (r:Vals vs us)
  (x:InCallC s s.heap.objs.size (bindL (envOfC qual scope s.heap.objs.size f cd).kindOf (ps.zip us) fun _=>none) (cellsFrom (s.heap.objs.size+1) scope.names []) (bindC (envOfC qual scope s.heap.objs.size f cd).kindOf (ps.zip us) fun _=>none) s1):
  Inv (tX CX P w K mg base N qual scope f cd A outer s H E) [] (start N vs) H s1:=by
 have hpl:ps.length<=N.length:=by have:=congrArg List.length S.pre;rw[Pn]at this;lia
 obtain⟨h1,tk,rfl,hk⟩:=x.done;have noA:∀b:PY,b∉(tX CX P w K mg base N qual scope f cd A outer s H E).ex:=fun b z=>absurd (show b∈([]:List PY)from z) (by simp);refine⟨⟨e0.mod,S.kind,rfl,rfl,PK _,fun y z c h1 h2=>?_,fun y hy=>?_,fun y c _ h=>?_,fun _=>hd,P5.frames_deeper e0.frames,.inr ⟨rfl,rfl⟩,fun b z=>absurd z (noA b),e0.bs,e0.z8,fun b _ _=>noA b,fun b z=>absurd z (noA b),e0.jc,e0.p7⟩,
  rfl,e0.bare,Un.kept hk,⟨_,x.toInCall.ns,fun i y v h1 h2 h3=>?_⟩,fun y c h=>⟨_,x.cell y c h⟩,e0.aX.fresh (PK _),fun y c h=>?_,fun p hp=>absurd (show p∈([]:List (PY×Obj))from hp) (by simp),e0.aX.kept hk,?_⟩
 .exact name_of_addr x.apart (PySem.mem_of_lookup h1) (PySem.mem_of_lookup h2)
 .have hy:scope.names.lookup y=some .cell\/scope.names.lookup y=some .free:=hy
  rcases hy with hy|hy
  .exact yO hy
  .exact absurd rfl (S.Lh _ (PySem.mem_of_lookup hy))
 .exact Nat.le_of_lt (x.above y c (PySem.mem_of_lookup h))
 .have hi:i<vs.length:=by
   unfold start at h2;by_cases hi:i<vs.length
   .exact hi
   .rw[List.getElem?_append_right (by simpa using hi)]at h2
    rw[List.getElem?_replicate]at h2
    split at h2<;>cases h2
  have ha:vs[i]?=some v:=by
   unfold start at h2;rw[List.getElem?_append_left (by simpa using hi),Pf]at h2
   cases e:vs[i]? with
   |none=>rw[e]at h2;cases h2
   |some a=>rw[e]at h2;cases h2;rfl
  obtain⟨u,hu,rv⟩:=r.get ha;have hp:ps[i]?=some y:=by
   rw[←S.pre,List.getElem?_take_of_lt (by lia)];exact h1
  have ndP:ps.Nodup:=by rw[←S.pre];exact S.nd.sublist (List.take_sublist _ _)
  refine⟨u,rv,?_⟩;rcases S.par y (Pr hp)with k|k
  .exact .inl ⟨k,uI ndP hp hu k⟩
  .obtain⟨c,e⟩:=yO (n:=s.heap.objs.size+1) k
   refine .inr ⟨.inl k,c,e,?_⟩;have q:=x.cell y c e;rw[vp ndP hp hu (by show scope.names.lookup y≠_;rw[k];decide)]at q;exact q
 .exact e0.aX.fresh (Nat.le_of_lt (x.above y c (PySem.mem_of_lookup h)))
 .unfold start
  show _=N.length;rw[Pg,Pe,List.length_replicate];lia
theorem Jp{CX:uJ}{P:P0}{w:P4}{K:W.Frag}{mg:Str->Option PX}{base:Qd}{k:Nat}{f:PY}{name qual:Str}{params:Arguments}{body:List Stmt}{scope:Scope}{dV kV doc pm cdv ct oc:PX}{an od:Option PY}
  {osl:Array (Option PX)} {N ps:List Str} {sp:Sp} (lk:K.lookup f=some ⟨oc,od,.func (W.fnOf name qual params body scope dV kV doc pm an cdv ct),osl⟩) (hcd:W.codeIn K cdv qual=true) (S:aE N ps scope)
  (len:∀vs H Q E,sp vs H Q E->vs.length=ps.length)
  (hbody:∀(A:P5)(outer:List Env)(s:PZ)(H:Hp)(vs:List V)(Q:VK)(E:XK),cB k (A.deeper (envOfC qual scope s.heap.objs.size f cdv))->sp vs H Q E->
   ∃t,t5 (tX CX P w K mg base N qual scope f cdv A outer s H E) body t/\t {nx:=fun _ H'=>Q .cE H',rt:=Q} (start N vs) H):
  aQ P w K mg base CX (k+1) f (W.fnOf name qual params body scope dV kV doc pm an cdv ct) ps sp:=by
 refine⟨len,fun A outer s H args us vs Q E hr e0 hb r hsp=>?_⟩;have hl:=len _ _ _ _ hsp;have KX:K.In s.heap:=e0.mod.AJ.keeps fun b o e=>(e0.bs b o e).1;have lim:s.heap.NoLimit:=e0.mod.nolimit.keeps fun b o e=>(e0.bs b o e).1;have hkind:∀y∈ps.zip us,scope.names.lookup y.1=some .local\/(scope.names.lookup y.1=some .cell/\((cellsFrom (s.heap.objs.size+1) scope.names []).lookup y.1).isSome=true):=fun⟨n,v⟩ hy=>by
  rcases S.par n (List.of_mem_zip hy).1 with q|q
  .exact .inl q
  .exact .inr ⟨q,W.cellsFrom_some _ _ _ (.inl q)⟩
 refine codeAny_call_function hr.depth (KX _ _ lk) rfl S.co S.gen rfl (W.codeRec_of KX hcd) (hb _ _ _ _ ?_);refine wpAny_newFunctionEnv_cells S.kind hkind fun env he s1 x=>?_;subst he;refine⟨lim.keeps x.toInCall.keep,codeAny_func ?_⟩;obtain⟨t,ht,hq⟩:=hbody A outer s H vs Q E (hr.deeper _) hsp;have I:Inv (tX CX P w K mg base N qual scope f cdv A outer s H E) [] (start N vs) H s1:=va S hr.hd e0 hl r x;refine Qa (ht [] s1 (start N vs) H _ I hq) (fun fl s' hs=>?_) fun e s' hs=>hs;have fin:∀{σ':St}{H':Hp}{v:V}{u:PX},Inv (tX CX P w K mg base N qual scope f cdv A outer s H E) [] σ' H' s'->RelV v u->Q v H'->CE outer P w H s Q u s':=
  fun{σ' H' v u} J rv q=>⟨v,H',J.os,J.bare,J.base,J.aX,rv,q⟩
 cases fl with
 |ret u=>
  obtain⟨v,σ',H',J,rv,q⟩:=hs;exact fin J rv q
 |next=>
  obtain⟨σ',H',J,q⟩:=hs;exact fin (v:=V.cE) (u:=PX.none) J rfl q
 |brk=>
  obtain⟨_,_,_,q⟩:=hs;exact False.elim q
 |cont=>
  obtain⟨_,_,_,q⟩:=hs;exact False.elim q
section
variable{X:Cx}{x:Str}{p pos:Pos}{e:Expr}{es:List Expr}{t:TA}{id T:String}{r:List V->Hp->VK->Prop}
def NL(r:List V->Hp->VK->Prop)(t:TA):TE:=fun σ H Q=>t σ H fun vs H1=>r vs H1 Q
theorem ar(hc:bZ X (.builtin id) r)(hg:Gl X x)(hm:X.mg x=none)(hv:bootBuiltins x=some (.builtin id))(ha:PA X (e::es) t)(hn:x≠"__name__" :=by decide)(hdb:(x==("__debug__" :Str))=false:=by decide)
  (he:Qb (e::es) X.env=(false,eval e X.env)::Qb es X.env:=by rfl) (hpl:(Qe pos (Qb es X.env)).any (·.1)=false:=by rfl):PE X (.Call (.Name x p) (e::es) [] pos) (NL r t):=by
 intro pins s σ H Q I h;refine wpAny_Call_Name_kw (kL I hg hm hv ?_ hn hdb);exact PyProof.Rows.callWith_builtin1 (bf (ha pos pins s σ H _ I h) fun us s1 ⟨vs,H1,I1,r1,q1⟩=>hc pins s1 σ H1 vs us Q I1 r1 q1) he hpl
theorem aY(hc:bZ X (.type T) r)(hg:Gl X x)(hm:X.mg x=none)(hv:bootBuiltins x=some (.type T))(ha:PA X (e::es) t)(hn:x≠"__name__" :=by decide)(hdb:(x==("__debug__" :Str))=false:=by decide)
  (he:Qb (e::es) X.env=(false,eval e X.env)::Qb es X.env:=by rfl) (hpl:(Qe pos (Qb es X.env)).any (·.1)=false:=by rfl):PE X (.Call (.Name x p) (e::es) [] pos) (NL r t):=by
 intro pins s σ H Q I h;refine wpAny_Call_Name_kw (kL I hg hm hv ?_ hn hdb);exact PyProof.Rows.callWith_type1 (bf (ha pos pins s σ H _ I h) fun us s1 ⟨vs,H1,I1,r1,q1⟩=>hc pins s1 σ H1 vs us Q I1 r1 q1) he hpl
end
end L2
namespace HT
open PySem PyProof.Rows
section
variable{prog:P0}{w:P4}{A:P5}{E:PX->PZ->Prop}{s:PZ}
def zX(n d:Nat):Option Int->Nat
 |none=>d
 |some v=>if v<0 then(v+(n:Int)).toNat else min v.toNat n
end
end HT
namespace L2
open PySem PySem.Spec PyProof.Rows
abbrev TO:=St->Hp->(Option Int->Hp->Prop)->Prop
def PO(X:Cx)(e:Option Expr)(t:TO):Prop:=
 ∀(pins:List (PY×Obj))(s:PZ)(σ:St)(H:Hp)(Q:Option Int->Hp->Prop),Inv X pins σ H s->t σ H Q->
  Qf (model X.prog X.w) X.A (evalPart e X.env) (fun u s'=>∃o H',Inv X pins σ H' s'/\IsPart u o/\Q o H') X.xe s
def HX:TO:=fun _ H Q=>Q none H
def Na(t:TE):TO:=fun σ H Q=>t σ H fun x H1=>∃i,x= .int i/\Q (some i) H1
section
variable{X:Cx}{e:Expr}{te:TE}{lo hi:Option Expr}{tl th:TO}{pos p2:Pos}
theorem jv:PO X none HX:=by
 intro pins s σ H Q I h;rw[evalPart_none];exact P9 ⟨none,H,I,.none,h⟩
theorem eO(h:PE X e te):PO X (some e) (Na te):=by
 intro pins s σ H Q I hw;rw[evalPart_some];refine bf (h pins s σ H _ I hw) fun u s1 ⟨x,H1,I1,r1,q1⟩=>?_;obtain⟨i,rfl,q⟩:=q1;obtain⟨t,rfl⟩:=r1;exact⟨some i,H1,I1,.int i t,q⟩
def Ny(X:Cx)(r:V->Option Int->Option Int->Hp->VK->Prop):Prop:=
 ∀(pins:List (PY×Obj))(s:PZ)(σ:St)(H:Hp)(x:V)(v vl vu:PX)(lo hi:Option Int)(sl:PY)(Q:VK),Inv X pins σ H s->RelV x v->s.heap.IsSliceOf sl vl vu .none->IsPart vl lo->IsPart vu hi->r x lo hi H Q->
  ∃T id,typeLookup (.type T) "__getitem__" =pure (some (.builtin id))/\s.TypeIs v T/\Qf (model X.prog X.w) X.A (getItem v (.ref sl)) (EP X pins σ Q) X.xe s
def ON(r:V->Option Int->Option Int->Hp->VK->Prop)(te:TE)(tl th:TO):TE:=fun σ H Q=>te σ H fun x H1=>tl σ H1 fun l H2=>th σ H2 fun u H3=>r x l u H3 Q
theorem eR{r:V->Option Int->Option Int->Hp->VK->Prop}(hr:Ny X r)(he:PE X e te)(hl:PO X lo tl)(hu:PO X hi th):PE X (.Subscript e (.Slice lo hi none p2) pos) (ON r te tl th):=by
 intro pins s σ H Q I h;refine Subscript_ (bf (he pins s σ H _ I h) fun v s1 ⟨x,H1,I1,r1,q1⟩=>?_);refine wpAny_Slice (bf (hl pins s1 σ H1 _ I1 q1) fun vl s2 ⟨l,H2,I2,pl,q2⟩=>bf (hu pins s2 σ H2 _ I2 q2) fun vu s3 ⟨u,H3,I3,pu,q3⟩=>?_);rw[evalPart_none];refine P9 ?_;have I4:Inv X pins σ H3 {s3 with heap:=s3.heap.push {cls:= .type "slice",data:= .fields #[vl,vu,.none]}}:=I3.kept (t':=s3.toks) fun b ob q=>Qd.get?_push_of_some _ q;obtain⟨T,id,hT,ht,hg⟩:=hr pins {s3 with heap:=s3.heap.push {cls:= .type "slice",data:= .fields #[vl,vu,.none]}} σ H3 x v vl vu l u s3.heap.objs.size Q I4 r1 (Qd.IsSliceOf.new ..) pl pu q3;show Qf (model X.prog X.w) X.A (subscriptTail e (.Slice lo hi none p2) v (.ref s3.heap.objs.size)) (EP X pins σ Q) X.xe {s3 with heap:=s3.heap.push {cls:= .type "slice",data:= .fields #[vl,vu,.none]}};exact tail_any (ops:=[.ref s3.heap.objs.size,v]) ht hT hg (by with_unfolding_all rfl)
def mv(xs:List V)(lo hi:Option Int):List V:=(xs.drop (HT.zX xs.length 0 lo)).take (HT.zX xs.length xs.length hi-HT.zX xs.length 0 lo)
theorem yS(xs:List V)(lo hi:Option Int):(mv xs lo hi).length<=xs.length:=by
 unfold mv;rw[Pn,List.length_drop];lia
end
def Gr(n:Nat)(i:Int):Option Nat:=if 0<=i then(if i<n then some i.toNat else none)else if-(n:Int)<=i then some (i+n).toNat else none
def wm{α:Type}(xs:List α)(i:Int):Option α:=(Gr xs.length i).bind fun j=>xs[j]?
theorem qN{n:Nat}{i:Int}{j:Nat}(h:Gr n i=some j):seqIndex? i n=some j/\j<n/\-(n:Int)<=i/\i<n:=by
 unfold Gr at h;by_cases h0:0<=i
 .rw[if_pos h0]at h
  by_cases h1:i<n
  .rw[if_pos h1]at h
   have e:i.toNat=j:=PU h;exact⟨by rw[seqIndex_of h0 h1,e],by lia,by lia,h1⟩
  .rw[if_neg h1]at h;cases h
 .rw[if_neg h0]at h
  by_cases h1: -(n:Int)<=i
  .rw[if_pos h1]at h
   have e:(i+n).toNat=j:=PU h;exact⟨by rw[seqIndex_neg (by lia) h1,e],by lia,h1,by lia⟩
  .rw[if_neg h1]at h;cases h
theorem vA{α:Type}{xs:List α}{i:Int}{v:α}(h:wm xs i=some v):∃j,seqIndex? i xs.length=some j/\xs[j]?=some v/\j<xs.length/\-(xs.length:Int)<=i/\i<xs.length:=by
 unfold wm at h
 cases e:Gr xs.length i with
 |none=>rw[e]at h;cases h
 |some j=>
  rw[e]at h;obtain⟨h1,h2,h3,h4⟩:=qN e;exact⟨j,h1,h,h2,h3,h4⟩
theorem bN{α:Type}{xs:List α}{j:Nat}{v:α}(h:xs[j]?=some v):wm xs (j:Int)=some v:=by
 have hj:j<xs.length:=(List.getElem?_eq_some_iff.mp h).1;have e:Gr xs.length (j:Int)=some j:=by
  unfold Gr;rw[if_pos (by lia),if_pos (by lia)];simp
 unfold wm;rw[e];exact h
def BO(b:Expr):Prop:=∀o i,subscripted b false o i=operate [o,i] (getItem o i)
def Li(X:Cx)(r:R2):Prop:=
 ∀(value slice:Expr)(pins:List (PY×Obj))(s:PZ)(σ:St)(H:Hp)(x y:V)(v u:PX)(Q:VK),Inv X pins σ H s->RelV x v->RelV y u->r x y H Q->
  subscripted slice false v u=operate [v,u] (getItem v u)->Qf (model X.prog X.w) X.A (subscriptTail value slice v u) (EP X pins σ Q) X.xe s
def As(X:Cx)(id:String)(r:V->List V->Hp->VK->Prop):Prop:=
 ∀(pins:List (PY×Obj))(s:PZ)(σ:St)(H:Hp)(x:V)(xs:List V)(v:PX)(us:List PX)(Q:VK),Inv X pins σ H s->RelV x v->Vals xs us->r x xs H Q->
  Qf (model X.prog X.w) X.A (call (.builtin id) (v::us)) (EP X pins σ Q) X.xe s
section
variable{X:Cx}{a b:Expr}{ta tb:TE}{pos:Pos}
theorem bC{r:R2}(hr:Li X r)(ha:PE X a ta)(hb:PE X b tb)(hs:BO b):PE X (.Subscript a b pos) (GK r ta tb):=by
 intro pins s σ H Q I h;exact Subscript_ (Kq ha hb I h fun v u s2 x y H2 I2 rx ry q=>hr a b pins s2 σ H2 x y v u Q I2 rx ry q (hs _ _))
def Ir(K:W.Frag):R2:=fun x y H Q=>∃p xs i v,x= .ref p/\y= .int i/\aI K H p xs/\wm xs i=some v/\Q v H
def MV(K:W.Frag):R2:=fun x y H Q=>∃p xs i v,x= .ref p/\y= .int i/\gL K H p xs/\wm xs i=some v/\Q v H
def NA:R2:=fun x y H Q=>∃z i c,x= .str z/\y= .int i/\z.length<=P6/\wm z.cps.toList i=some c/\Q (.str ⟨#[c]⟩) H
theorem Im:Li X (Ir X.K):=by
 intro value slice pins s σ H x y v u Q I rx ry h hs;obtain⟨p,xs,i,z,rfl,rfl,hq,he,q⟩:=h;cases rx;obtain⟨t,rfl⟩:=ry;obtain⟨its,r,pl,hz⟩:=I.list hq;obtain⟨j,h1,h2,h3,h4,h5⟩:=vA he;obtain⟨w,ew,rw'⟩:=r.get h2;have hl:=r.length;have hn:=o7;have fin:EP X pins σ Q w s:=⟨z,H,I,rw',q⟩;by_cases h0:0<=i
 .have hj:i.toNat=j:=by
   rw[seqIndex_of h0 h5]at h1;exact PU h1
  exact item_listR pl.isList h0 (by lia) (by rw[hj];simpa using ew) fin hs
 .have hj:(i+(its.toArray.size:Int)).toNat=j:=by
   rw[seqIndex_neg (by lia) h4]at h1;rw[Pz,←hl];exact PU h1
  exact subscriptTail_builtinR (x:=w) pl.isList.typeIs slot_list_getitem.lookup
   (wpAny_getItem_list_neg (Q:=fun r s'=>r=w/\EP X pins σ Q r s') pl.isList (by lia) (by rw[Pz]<;>lia) (by lia) (by rw[hj];simpa using ew) ⟨rfl,fin⟩) hs
theorem JR:Li X (MV X.K):=by
 intro value slice pins s σ H x y v u Q I rx ry h hs;obtain⟨p,xs,i,z,rfl,rfl,hq,he,q⟩:=h;cases rx;obtain⟨t,rfl⟩:=ry;obtain⟨its,r,pl,hz⟩:=I.tuple hq;obtain⟨j,h1,h2,h3,h4,h5⟩:=vA he;obtain⟨w,ew,rw'⟩:=r.get h2;have hl:=r.length;have hn:=o7;have fin:EP X pins σ Q w s:=⟨z,H,I,rw',q⟩;exact subscriptTail_builtinR (x:=w) pl.typeIs slot_tuple_getitem.lookup
  (getItem_tuple (j:=j) (Q:=fun r s'=>r=w/\EP X pins σ Q r s') pl (by lia) (by lia) (by rw[Pz,←hl];exact h1) (by simpa using ew) ⟨rfl,fin⟩) hs
theorem FE:Li X NA:=by
 intro value slice pins s σ H x y v u Q I rx ry h hs;obtain⟨z,i,c,rfl,rfl,hz,he,q⟩:=h;obtain⟨t,rfl⟩:=rx;obtain⟨t',rfl⟩:=ry;obtain⟨j,h1,h2,h3,h4,h5⟩:=vA he;have hl:z.cps.toList.length=z.length:=by simp[Str.length]
 rw[hl]at h1 h4 h5;have hn:=o7;exact tail_any (typeIs_str s z t) slot_str_getitem.lookup (getItem_str (c:=c) (by
  have e1:decide (i< -(2^63:Int))=false:=decide_eq_false (by lia);have e2:decide (i≥2^63)=false:=decide_eq_false (by lia);rw[e1,e2,Bool.or_false]) (by rw[h1];simpa using h2) ⟨.str ⟨#[c]⟩,H,I.tok _,⟨_,rfl⟩,q⟩) hs
theorem A5(its:List PX)(n j:Nat)(u:PX):Obj.mapSeq (·.setIfInBounds j u) {cls:= .type "list",data:= .seq its.toArray n}={cls:= .type "list",data:= .seq (its.set j u).toArray n}:=by
 simp[Obj.mapSeq]
theorem Inv.lst {pins:List (PY×Obj)}{σ:St}{H:Hp}{s:PZ}{p:PY}{xs:List V}(I:Inv X pins σ H s)(h:H p=some (.lst xs)):
  ∃(its:List PX)(n:Nat),Vals xs its/\s.heap.get? p=some {cls:= .type "list",data:= .seq its.toArray n}/\xs.length<=P6:=by
 obtain⟨z,its,n,r,e⟩:=I.aX p _ h;exact⟨its,n,r,e,z⟩
theorem Inv.J5 {pins:List (PY×Obj)}{σ:St}{H:Hp}{s:PZ}{p:PY}{xs ys:List V}{its its':List PX}{n n':Nat}{f:Obj->Obj}(I:Inv X pins σ H s)(h:H p=some (.lst xs))
  (ho:s.heap.get? p=some {cls:= .type "list",data:= .seq its.toArray n}) (hf:f {cls:= .type "list",data:= .seq its.toArray n}={cls:= .type "list",data:= .seq its'.toArray n'}) (r:Vals ys its') (hz:ys.length<=P6) (t:Nat):
  Inv X pins σ (upd H p (.lst ys)) {s with heap:=s.heap.update p f,toks:=t}:=by
 have e:(s.heap.update p f).get? p=some {cls:= .type "list",data:= .seq its'.toArray n'}:=by
  rw[Qd.get?_update_self f ho (by rw[hf]<;>rfl),hf]
 refine I.write (x:=p) (e:=p) (by rw[h];trivial) (.inl rfl) (fun b u hb q=>(Qd.get?_update_other _ _ (Ne.symm hb)).trans q) ⟨_,e⟩ ?_;exact⟨hz,its',n',r,e⟩
def MR:V->V->V->Hp->(Hp->Prop)->Prop:=fun o i v H Q=>∃p xs k j,o= .ref p/\i= .int k/\H p=some (.lst xs)/\Gr xs.length k=some j/\Q (upd H p (.lst (xs.set j v)))
theorem set_list:LX X MR:=by
 intro pins s σ H o i v ov iv u Q I ro ri rv h;obtain⟨p,xs,k,j,rfl,rfl,hp,hj,q⟩:=h;cases ro;obtain⟨t,rfl⟩:=ri;obtain⟨its,n,r,ho,hz⟩:=I.lst hp;obtain⟨h1,h2,h3,h4⟩:=qN hj;have hl:=r.length;have hn:=o7;have I':Inv X pins σ (upd H p (.lst (xs.set j v))) {s with heap:=s.heap.update p (Obj.mapSeq (·.setIfInBounds j u))}:=
  I.J5 hp ho (A5 its n j u) (r.set rv j) (by rw[List.length_set];exact hz) s.toks
 by_cases h0:0<=k
 .have hk:k.toNat=j:=by
   rw[seqIndex_of h0 h4]at h1;exact PU h1
  exact W.ki_setAt ho h0 (by lia) (by rw[Pz,←hl];exact h4) (by rw[hk];exact⟨_,I',q⟩)
 .have hk:(k+(its.toArray.size:Int)).toNat=j:=by
   rw[seqIndex_neg (by lia) h3]at h1;rw[Pz,←hl];exact PU h1
  exact W.ki_setBack ho (by lia) (by rw[Pz,←hl];exact h3) (by lia) (by rw[hk];exact⟨_,I',q⟩)
theorem w5(lo hi:Option Int)(n:Nat):(sliceBounds lo hi none n).1=((HT.zX n 0 lo:Nat):Int)/\(sliceBounds lo hi none n).2.1=((HT.zX n n hi:Nat):Int)/\(sliceBounds lo hi none n).2.2=1:=by
 refine⟨?_,?_,rfl⟩
 .cases lo with
  |none=>simp[sliceBounds,HT.zX]
  |some i=>
   simp only[sliceBounds,HT.zX,Option.getD_none,show(1:Int)>0 by decide,if_true];by_cases h:i<0
   .simp only[h,if_true]<;>lia
   .simp only[h,if_false]<;>lia
 .cases hi with
  |none=>simp[sliceBounds,HT.zX]
  |some i=>
   simp only[sliceBounds,HT.zX,Option.getD_none,show(1:Int)>0 by decide,if_true];by_cases h:i<0
   .simp only[h,if_true]<;>lia
   .simp only[h,if_false]<;>lia
theorem t9(its:List PX)(lo hi:Option Int):slicePick its.toArray lo hi none=((its.drop (HT.zX its.length 0 lo)).take (HT.zX its.length its.length hi-HT.zX its.length 0 lo)).toArray:=by
 obtain⟨h1,h2,h3⟩:=w5 lo hi its.toArray.size;unfold slicePick;rw[h1,h2,h3];simp only[sliceRange_one,pick_run,Pz]<;>rfl
def Ms(K:W.Frag):V->Option Int->Option Int->Hp->VK->Prop:=fun x lo hi H Q=>∃a xs,x= .ref a/\aI K H a xs/\∀p,H p=none->Q (.ref p) (upd H p (.lst (mv xs lo hi)))
theorem Hw:Ny X (Ms X.K):=by
 intro pins s σ H x v vl vu lo hi sl Q I rx hs pl pu h;obtain⟨a,xs,rfl,hx,q⟩:=h;cases rx;obtain⟨its,r,ht,hz⟩:=I.list hx;have hlen:=r.length;refine⟨"list",_,slot_list_getitem.lookup,ht.isList.typeIs,?_⟩;refine wpAny_getItem_list_slice ht.isList hs pl pu .none (by simp) ?_ (by rw[Pz]<;>lia);rw[t9,←hlen];refine⟨.ref s.heap.objs.size,_,I.laid (t':=s.toks) (o:= .lst (mv xs lo hi)) (fun b ob q=>Qd.get?_push_of_some _ q) (PK _) ?_,rfl,q _ (I.aX.fresh (PK _))⟩;exact⟨PN (yS xs lo hi) hz,_,0,(r.drop (HT.zX xs.length 0 lo)).take (HT.zX xs.length xs.length hi-HT.zX xs.length 0 lo),Qd.get?_push_size _ rfl⟩
def lh:V->Bool
 | .cE=>true
 | .bl _=>true
 | .int _=>true
 | .str _=>true
 |_=>false
def zY:V->V->Bool
 | .cE,.cE=>true
 | .bl a,.bl b=>a==b
 | .bl a,.int b=>(if a then 1 else 0)==b
 | .int a,.bl b=>a==(if b then 1 else 0)
 | .int a,.int b=>a==b
 | .str a,.str b=>a==b
 |_,_=>false
theorem Lj{A:P5}{s:PZ}{y x:V}{u v:PX}(ry:RelV y u)(rx:RelV x v)(fy:lh y=true)(fx:lh x=true):SeqAt.EqAt A s u v (zY y x):=by
 cases y with
 |cE=>
  cases ry
  cases x with
  |cE=>cases rx;exact SeqAt.EqAt.same _
  |bl b=>cases rx;exact SeqAt.EqAt.none_bool b
  |int b=>obtain⟨t,rfl⟩:=rx;exact SeqAt.EqAt.none_int b t
  |str b=>obtain⟨t,rfl⟩:=rx;exact SeqAt.EqAt.none_str b t
  |_=>exact absurd (show false=true from fx) PR
 |bl a=>
  cases ry
  cases x with
  |cE=>cases rx;exact SeqAt.EqAt.bool_none a
  |bl b=>cases rx;exact SeqAt.EqAt.bool_bool a b
  |int b=>obtain⟨t,rfl⟩:=rx;exact SeqAt.EqAt.bool_int a b t
  |str b=>obtain⟨t,rfl⟩:=rx;exact SeqAt.EqAt.bool_str a b t
  |_=>exact absurd (show false=true from fx) PR
 |int a=>
  obtain⟨t',rfl⟩:=ry
  cases x with
  |cE=>cases rx;exact SeqAt.EqAt.int_none a t'
  |bl b=>cases rx;exact SeqAt.EqAt.int_bool a t' b
  |int b=>obtain⟨t,rfl⟩:=rx;exact SeqAt.EqAt.int_int a t' b t
  |str b=>obtain⟨t,rfl⟩:=rx;exact SeqAt.EqAt.int_str a t' b t
  |_=>exact absurd (show false=true from fx) PR
 |str a=>
  obtain⟨t',rfl⟩:=ry
  cases x with
  |cE=>cases rx;exact SeqAt.EqAt.str_none a t'
  |bl b=>cases rx;exact SeqAt.EqAt.str_bool a t' b
  |int b=>obtain⟨t,rfl⟩:=rx;exact SeqAt.EqAt.str_int a t' b t
  |str b=>obtain⟨t,rfl⟩:=rx;exact SeqAt.EqAt.str_str a t' b t
  |_=>exact absurd (show false=true from fx) PR
 |_=>exact absurd (show false=true from fy) PR
def A3(x:V)(u:PX):Bool:=match u with
 | .none=>zY .cE x
 | .bool b=>zY (.bl b) x
 | .int i _=>zY (.int i) x
 | .str z _=>zY (.str z) x
 |_=>false
theorem Em{x y:V}{u:PX}(r:RelV y u)(f:lh y=true):A3 x u=zY y x:=by
 cases y with
 |cE=>cases r;rfl
 |bl b=>cases r;rfl
 |int i=>obtain⟨t,rfl⟩:=r;rfl
 |str z=>obtain⟨t,rfl⟩:=r;rfl
 |_=>exact absurd (show false=true from f) PR
theorem nO{x:V}:∀{xs:List V}{us:List PX},Vals xs us->xs.all lh=true->us.any (A3 x)=xs.any fun y=>zY y x
 |_,_,.nil,_=>rfl
 |y::xs,u::us,.cons r t,f=>by
  rw[List.all_cons,Bool.and_eq_true]at f;rw[List.any_cons,List.any_cons,Em r f.1,nO t f.2]
theorem kR{A:P5}{s:PZ}{x:V}{v:PX}(rx:RelV x v)(fx:lh x=true):∀{xs:List V}{us:List PX},Vals xs us->xs.all lh=true->∀u∈us,SeqAt.EqAt A s u v (A3 x u)
 |_,_,.nil,_=>fun u hu=>by cases hu
 |y::xs,u::us,.cons r t,f=>fun u' hu=>by
  rw[List.all_cons,Bool.and_eq_true]at f;rcases List.mem_cons.mp hu with rfl|hu
  .rw[Em r f.1];exact Lj r rx f.1 fx
  .exact kR rx fx t f.2 u' hu
def CO(x:V)(xs:List V):Bool:=xs.any fun y=>zY y x
def Nq(K:W.Frag)(neg:Bool):R2:=fun x y H Q=>∃p xs,y= .ref p/\(aI K H p xs\/gL K H p xs)/\lh x=true/\xs.all lh=true/\Q (.bl (if neg then !CO x xs else CO x xs)) H
theorem Dw:kK X (compareOp .In) (Nq X.K false):=by
 intro pins s σ H x y v u Q I rx ry h;obtain⟨p,xs,rfl,hq,fx,fs,q⟩:=h;cases ry;rcases hq with hq|hq
 .obtain⟨its,r,pl,hz⟩:=I.list hq
  refine SeqAt.in_listAt (A3 x) pl.isList (fun w hw=>kR rx fx r fs w (by simpa using hw)) ⟨.bl _,H,I,rfl,?_⟩;rw[show its.toArray.any (A3 x)=its.any (A3 x) by simp,nO r fs];exact q
 .obtain⟨its,r,pl,hz⟩:=I.tuple hq
  refine SeqAt.in_tupleAt (A3 x) pl (fun w hw=>kR rx fx r fs w (by simpa using hw)) ⟨.bl _,H,I,rfl,?_⟩;rw[show its.toArray.any (A3 x)=its.any (A3 x) by simp,nO r fs];exact q
theorem we:kK X (compareOp .NotIn) (Nq X.K true):=by
 intro pins s σ H x y v u Q I rx ry h;obtain⟨p,xs,rfl,hq,fx,fs,q⟩:=h;cases ry;rcases hq with hq|hq
 .obtain⟨its,r,pl,hz⟩:=I.list hq
  refine SeqAt.notIn_listAt (A3 x) pl.isList (fun w hw=>kR rx fx r fs w (by simpa using hw)) ⟨.bl _,H,I,rfl,?_⟩;rw[show its.toArray.any (A3 x)=its.any (A3 x) by simp,nO r fs];exact q
 .obtain⟨its,r,pl,hz⟩:=I.tuple hq
  refine SeqAt.notIn_tupleAt (A3 x) pl (fun w hw=>kR rx fx r fs w (by simpa using hw)) ⟨.bl _,H,I,rfl,?_⟩;rw[show its.toArray.any (A3 x)=its.any (A3 x) by simp,nO r fs];exact q
theorem vT:bZ X (.builtin "len") (fun xs H Q=>∃p ys,xs=[.ref p]/\(aI X.K H p ys\/gL X.K H p ys)/\Q (.int ys.length) H):=by
 intro pins s σ H xs us Q I r h;obtain⟨p,ys,rfl,hq,q⟩:=h;obtain⟨u,rfl,rx⟩:=vals1 r;cases rx;have hn:=o7;rcases hq with hq|hq
 .obtain⟨its,r',pl,hz⟩:=I.list hq
  have hlen:=r'.length;exact Calls.call_len_list pl.isList (by simp only[Pz]<;>lia) ⟨.int ys.length,H,I.tok _,⟨s.toks+1,by rw[Pz,hlen]⟩,q⟩
 .obtain⟨its,r',pl,hz⟩:=I.tuple hq
  have hlen:=r'.length;exact len_tuple pl (by simp only[Pz]<;>lia) ⟨.int ys.length,H,I.tok _,⟨s.toks+1,by rw[Pz,hlen]⟩,q⟩
theorem cI:bZ X (.builtin "len") (fun xs H Q=>∃z,xs=[.str z]/\z.length<=P6/\Q (.int z.length) H):=by
 intro pins s σ H xs us Q I r h;obtain⟨z,rfl,hz,q⟩:=h;obtain⟨u,rfl,t,rfl⟩:=vals1 r;have hn:=o7;exact len_str (by lia) ⟨.int z.length,H,I.tok _,⟨_,rfl⟩,q⟩
theorem wC:bZ X (.type "list") (fun xs H Q=>∃p ys,xs=[.ref p]/\(aI X.K H p ys\/gL X.K H p ys)/\∀l,H l=none->Q (.ref l) (upd H l (.lst ys))):=by
 intro pins s σ H xs us Q I r h;obtain⟨p,ys,rfl,hq,q⟩:=h;obtain⟨u,rfl,rx⟩:=vals1 r;cases rx;have fin:∀(its:List PX),Vals ys its->ys.length<=P6->∀(h':Qd)(c':Nat),(∀b o',s.heap.get? b=some o'->h'.get? b=some o')->
   h'.get? s.heap.objs.size=some {cls:= .type "list",dict:=none,data:= .seq its.toArray c',slots:= #[]}->EP X pins σ Q (.ref s.heap.objs.size) {s with heap:=h'}:=fun its r' hz h' c' kp e=>
  ⟨.ref s.heap.objs.size,_,I.laid (t':=s.toks) kp (PK _) (show bF X.prog X.w _ h' _ (.lst ys)from⟨hz,its,c',r',e⟩),rfl,q _ (I.aX.fresh (PK _))⟩
 rcases hq with hq|hq
 .obtain⟨its,r',pl,hz⟩:=I.list hq
  have hlen:=r'.length;obtain⟨o,ho,hc,n,hd⟩:=pl.isList;exact call_list_seq p (.inl rfl) ho hc hd (fun h' c' kp e=>fin its r' hz h' c' kp e) (by simp only[Pz]<;>lia)
 .obtain⟨its,r',pl,hz⟩:=I.tuple hq
  have hlen:=r'.length;obtain⟨o,ho,hc,n,hd⟩:=pl;exact call_list_seq p (.inr rfl) ho hc hd (fun h' c' kp e=>fin its r' hz h' c' kp e) (by simp only[Pz]<;>lia)
theorem tN:bZ X (.type "tuple") (fun xs H Q=>∃p ys,xs=[.ref p]/\((aI X.K H p ys/\∀l,H l=none->Q (.ref l) (upd H l (.tup ys)))\/(gL X.K H p ys/\Q (.ref p) H))):=by
 intro pins s σ H xs us Q I r h;obtain⟨p,ys,rfl,h⟩:=h;obtain⟨u,rfl,rx⟩:=vals1 r;cases rx;rcases h with⟨hq,q⟩|⟨hq,q⟩
 .obtain⟨its,r',pl,hz⟩:=I.list hq
  have hlen:=r'.length;refine call_tuple_list pl.isList (fun h' kp=>?_) (by simp only[Pz]<;>lia);have I1:Inv X pins σ H {s with heap:=h'}:=I.kept (t':=s.toks) kp;have I2:Inv X pins σ (upd H h'.objs.size (.tup ys)) {s with heap:=h'.push {cls:= .type "tuple",data:= .seq its.toArray}}:=
   I1.laid (t':=s.toks) (fun b o e=>Qd.get?_push_of_some _ e) (PK _) (show bF X.prog X.w _ _ _ (.tup ys)from⟨hz,its,r',IsTup.new _ _⟩)
  exact⟨.ref h'.objs.size,_,I2,rfl,q _ (I1.aX.fresh (PK _))⟩
 .obtain⟨its,r',pl,hz⟩:=I.tuple hq
  exact call_tuple_same pl ⟨.ref p,H,I,rfl,q⟩
def NM(K:W.Frag)(T:String)(x:V)(H:Hp):Prop:=match x with
 | .str _=>T= "str"
 | .int _=>T= "int"
 | .ref p=>(T= "list"/\∃xs,aI K H p xs)\/(T= "tuple"/\((∃o,K.lookup p=some o/\o.cls= .type "tuple"/\o.dict=none)\/∃o xs,H p=some (.mL o (.tup xs))/\o.cls= .type "tuple"/\o.dict=none))\/
   (T= "dict"/\((∃kvs,H p=some (.dK kvs))\/∃kvs,H p=some (.dT kvs)))\/(T= "set"/\∃S n,H p=some (.set S n))
 |_=>False
theorem Er{pins:List (PY×Obj)}{σ:St}{H:Hp}{s:PZ}{T:String}{x:V}{v:PX}(I:Inv X pins σ H s)(r:RelV x v)(ty:NM X.K T x H):
  s.TypeIs v T/\∀a,v= .ref a->∃ob,s.heap.get? a=some ob/\ob.dict=none:=by
 cases x with
 |str z=>
  obtain⟨t,rfl⟩:=r;cases(show T= "str"from ty);exact⟨typeIs_str s z t,fun _ e=>nomatch e⟩
 |int i=>
  obtain⟨t,rfl⟩:=r;cases(show T= "int"from ty);exact⟨typeIs_int s i t,fun _ e=>nomatch e⟩
 |ref p=>
  cases r;rcases ty with⟨rfl,xs,hq⟩|⟨rfl,⟨o,hk,hc,hd⟩|⟨o,xs,hk,hc,hd⟩⟩|⟨rfl,hk⟩|⟨rfl,S,n,hk⟩
  .obtain⟨its,_,pl,_⟩:=I.list hq
   refine⟨pl.isList.typeIs,fun a e=>?_⟩;cases e;obtain⟨o,n,e,c,hd,_⟩:=pl;exact⟨o,e,hd⟩
  .refine⟨⟨o,I.jD p o hk,hc⟩,fun a e=>?_⟩
   cases e;exact⟨o,I.jD _ o hk,hd⟩
  .obtain⟨e,_⟩:=(show bF X.prog X.w H s.heap p (.mL o (.tup xs))from I.aX p _ hk)
   exact⟨⟨o,e,hc⟩,fun a z=>by cases z;exact⟨o,e,hd⟩⟩
  .have z:∃o,s.heap.get? p=some o/\o.ExactDict:=by
    rcases hk with⟨kvs,hk⟩|⟨kvs,hk⟩
    .obtain⟨_,_,_,_,o,_,_,e,ex,_⟩:=I.aX p _ hk
     exact⟨o,e,ex⟩
    .obtain⟨_,_,_,_,o,_,_,e,ex,_⟩:=I.aX p _ hk
     exact⟨o,e,ex⟩
   obtain⟨o,e,ex⟩:=z;refine⟨⟨o,e,ex.1⟩,fun a e2=>?_⟩;cases e2;exact⟨o,e,ex.2.1⟩
  .obtain⟨o,_,_,_,e,ex,_⟩:=I.aX p _ hk
   refine⟨⟨o,e,ex.1⟩,fun a e2=>?_⟩;cases e2;exact⟨o,e,ex.2.1⟩
 |_=>exact False.elim ty
def Ml(K:W.Frag)(T:String)(r:V->List V->Hp->VK->Prop)(to:TE):TE:=fun σ H Q=>to σ H fun x H1=>NM K T x H1/\r x [] H1 Q
def Nu(K:W.Frag)(T:String)(r:V->List V->Hp->VK->Prop)(to:TE)(t:TA):TE:=fun σ H Q=>to σ H fun x H1=>NM K T x H1/\t σ H1 fun xs H2=>r x xs H2 Q
variable{o e:Expr}{es:List Expr}{to:TE}{t:TA}{name:Str}{apos cpos:Pos}{T id:String}{r:V->List V->Hp->VK->Prop}
theorem Le(pa:PlainAttrs T)(slot:Slot T name id)(hty:typeOf (.builtin id)=pure (.type "method_descriptor"))(hm:As X id r)(ho:PE X o to)
  (hbase:attributeBase o name X.env (eval o X.env)=eval o X.env:=by rfl) (hline:(apos.endLine==cpos.line)=true:=by rfl):PE X (.Call (.Attribute o name apos) [] [] cpos) (Ml X.K T r to):=by
 intro pins s σ H Q I h;refine wpAny_Call_method0_late hbase hline (bf (ho pins s σ H _ I h) fun v s1 ⟨x,H1,I1,r1,ty,q1⟩=>?_);obtain⟨h1,h2⟩:=Er I1 r1 ty;exact⟨T,id,pa,slot,hty,h1,h2,Calls.callWith_builtin rfl (PySem.evalArgs_none (hm pins s1 σ H1 x [] v [] Q I1 r1 .nil q1))⟩
theorem LO(pa:PlainAttrs T)(slot:Slot T name id)(hty:typeOf (.builtin id)=pure (.type "method_descriptor"))(hm:As X id r)(ho:PE X o to)(ha:PA X (e::es) t)
  (hbase:attributeBase o name X.env (eval o X.env)=eval o X.env:=by rfl)
  (hfew:((Qe cpos (Qb (e::es) X.env)).all (fun x=> !x.1)&&(backToKw cpos (keywordEach [] X.env)).all (fun x=>x.1.isSome)
   &&decide ((e::es).length+([]:List Keyword).length+(if([]:List Keyword).isEmpty then 0 else 1)<30))=true:=by rfl)
  (hline:(apos.endLine==cpos.line)=true:=by rfl) (hs:Qb (e::es) X.env=(false,eval e X.env)::Qb es X.env:=by rfl) (hplain:(Qe cpos (Qb es X.env)).any (·.1)=false:=by rfl):
  PE X (.Call (.Attribute o name apos) (e::es) [] cpos) (Nu X.K T r to t):=by
 intro pins s σ H Q I h;refine wpAny_Call_method_late hbase hfew hline rfl (bf (ho pins s σ H _ I h) fun v s1 ⟨x,H1,I1,r1,ty,q1⟩=>?_);obtain⟨h1,h2⟩:=Er I1 r1 ty;refine⟨T,id,pa,slot,hty,h1,h2,?_⟩;have hA:=ha cpos pins s1 σ H1 _ I1 q1;rw[hs]at hA⊢;refine Calls.callWith_builtin (by show(false||(Qe cpos (Qb es X.env)).any (·.1))=false;rw[hplain]<;>rfl) (Calls.evalArgs_plain ?_);exact bf hA fun us s2 ⟨vs,H2,I2,r2,q2⟩=>hm pins s2 σ H2 x vs v us Q I2 r1 r2 q2
end
def Nt(X:Cx)(id:String)(r:V->List V->Hp->VK->Prop):Prop:=
 ∀(pins:List (PY×Obj))(s:PZ)(σ:St)(H:Hp)(x:V)(xs:List V)(v:PX)(us:List PX)(Q:VK),Inv X pins σ H s->RelV x v->Vals xs us->r x xs H Q->
  Qf (model X.prog X.w) X.A (call (.builtin id) (v::us)) (EP X pins σ Q) X.xe s
theorem Vals.one:∀{x:V}{us:List PX},Vals [x] us->∃u,us=[u]/\RelV x u
 |_,_,.cons r .nil=>⟨_,rfl,r⟩
theorem Vals.zero:∀{us:List PX},Vals [] us->us=[]
 |_,.nil=>rfl
theorem Vals.dropLast {xs:List V}{us:List PX}(h:Vals xs us):Vals xs.dropLast us.dropLast:=by
 induction h with
 |nil=>exact .nil
 |cons r t ih=>
  cases t with
  |nil=>exact .nil
  |cons q t'=>exact .cons r ih
theorem Vals.eraseIdx:∀{xs:List V}{us:List PX}(i:Nat),Vals xs us->Vals (xs.eraseIdx i) (us.eraseIdx i)
 |_,_,_,.nil=> .nil
 |_,_,0,.cons _ t=>t
 |_,_,i+1,.cons r t=> .cons r (Vals.eraseIdx i t)
theorem AU{α:Type}(l:List α):l.eraseIdx (l.length-1)=l.dropLast:=by
 induction l with
 |nil=>rfl
 |cons a r ih=>
  cases r with
  |nil=>rfl
  |cons b r=>
   have e:(a::b::r).length-1=((b::r).length-1)+1:=by
    have h1:(a::b::r).length=r.length+2:=rfl;have h2:(b::r).length=r.length+1:=rfl;lia
   rw[e,List.eraseIdx_cons_succ,ih]
   all_goals rfl
theorem uH{α:Type}:∀(l:List α)(i:Nat),(l.eraseIdx i).length<=l.length
 |[],_=>PK _
 |_::_,0=>Nat.le_succ _
 |_::r,i+1=>Nat.succ_le_succ (uH r i)
section
variable{X:Cx}{pins:List (PY×Obj)}{σ:St}{H:Hp}{s:PZ}{l b:PY}{xs ys zs:List V}
theorem Inv.EO {its its':List PX}{n:Nat}{f:Array PX->Array PX}{t':Nat}(I:Inv X pins σ H s)(hH:H l=some (.lst xs))
  (e:s.heap.get? l=some {cls:= .type "list",data:= .seq its.toArray n}) (hf:f its.toArray=its'.toArray) (hv:Vals ys its') (hz:ys.length<=P6):
  Inv X pins σ (upd H l (.lst ys)) {s with heap:=s.heap.update l (Obj.mapSeq f),toks:=t'}:=by
 have q:=PySem.IsL.update e f;rw[hf]at q;refine I.write (x:=l) (e:=l) (by rw[hH];exact trivial) (.inl rfl) (fun b' u hb hu=>(Qd.get?_update_other s.heap (Obj.mapSeq f) (Ne.symm hb)).trans hu) ⟨_,q⟩ ?_;exact⟨hz,its',_,hv,q⟩
theorem Inv.NG {its:List PX}{t':Nat}(I:Inv X pins σ H s)(hv:Vals ys its)(hz:ys.length<=P6):
  Inv X pins σ (upd H s.heap.objs.size (.lst ys)) {s with heap:=s.heap.push {cls:= .type "list",data:= .seq its.toArray},toks:=t'}:=
 I.laid (fun _ _ q=>Qd.get?_push_of_some _ q) (PK _) ⟨hz,its,0,hv,Qd.get?_push_size _ rfl⟩
theorem Inv.fresh (I:Inv X pins σ H s):H s.heap.objs.size=none:=I.aX.fresh (PK _)
theorem Inv.sF (I:Inv X pins σ H s)(hH:H l=some (.lst xs)):xs.length<=P6/\∃(its:List PX)(n:Nat),Vals xs its/\xs.length=its.length/\s.heap.get? l=some {cls:= .type "list",data:= .seq its.toArray n}:=by
 obtain⟨z,its,n,r,e⟩:=I.aX l _ hH;exact⟨z,its,n,r,r.length,e⟩
theorem E3{n:Nat}(h:n<=P6):Qi.List.listTooLong n=false:=by
 unfold Qi.List.listTooLong;exact decide_eq_false (by lia)
end
section
variable{X:Cx}
def Bs:V->List V->Hp->VK->Prop:=fun x vs H Q=>∃l xs y,x= .ref l/\vs=[y]/\H l=some (.lst xs)/\xs.length<P6/\Q .cE (upd H l (.lst (xs++[y])))
theorem c8:Nt X "list.append" Bs:=by
 intro pins s σ H x vs v us Q I rx rv h;obtain⟨l,xs,y,rfl,rfl,hH,hz,q⟩:=h;cases rx;obtain⟨u,rfl,ru⟩:=rv.one;obtain⟨z,its,n,r,hl,e⟩:=I.sF hH;refine call_meets F.slot_list_append ⟨_,e,rfl⟩ F.entry_list_append (F.args_list_append_2 _ _) (PySem.list_append l its.toArray n u (by rw[Pz];lia)) ⟨e,?_⟩;refine⟨.cE,_,I.EO (its':=its++[u]) hH e (by simp) (r.append (.cons ru .nil)) ?_,rfl,q⟩;rw[Pg,List.length_singleton];lia
def IA:V->List V->Hp->VK->Prop:=fun x vs H Q=>∃l b xs zs,x= .ref l/\vs=[.ref b]/\H l=some (.lst xs)/\H b=some (.lst zs)/\xs.length+zs.length<=P6/\Q .cE (upd H l (.lst (xs++zs)))
theorem LA:Nt X "list.extend" IA:=by
 intro pins s σ H x vs v us Q I rx rv h;obtain⟨l,b,xs,zs,rfl,rfl,hH,hB,hz,q⟩:=h;cases rx;obtain⟨u,rfl,ru⟩:=rv.one;cases ru;obtain⟨z,its,n,r,hl,e⟩:=I.sF hH;obtain⟨z2,its2,n2,r2,hl2,e2⟩:=I.sF hB;have hsz:its.toArray.size+its2.toArray.size<=P6:=by rw[Pz,Pz];lia
 have hlong:¬(!its.toArray.isEmpty&&Qi.List.listTooLong (its.toArray.size+its2.toArray.size))=true:=by
  rw[E3 hsz,Bool.and_false];exact PR
 refine call_meets F.slot_list_extend ⟨_,e,rfl⟩ F.entry_list_extend (F.args_list_extend_2 _ _)
  (AutoSeq1.list_extend_list_list_0 l its.toArray n b its2.toArray n2 hlong (by rw[Pz];lia) (by lia)) ⟨e,e2,?_⟩
 refine⟨.cE,_,I.EO (its':=its++its2) hH e (by simp) (r.append r2) ?_,rfl,q⟩;rw[Pg];lia
def Oi:V->List V->Hp->VK->Prop:=fun x vs H Q=>∃l xs y,x= .ref l/\vs=[]/\H l=some (.lst xs)/\xs[xs.length-1]?=some y/\Q y (upd H l (.lst xs.dropLast))
theorem JW:Nt X "list.pop" Oi:=by
 intro pins s σ H x vs v us Q I rx rv h;obtain⟨l,xs,y,rfl,rfl,hH,hy,q⟩:=h;cases rx;have hus:=rv.zero;subst hus;obtain⟨z,its,n,r,hl,e⟩:=I.sF hH;obtain⟨u,hu,ru⟩:=r.get hy;have hy':its.toArray[its.toArray.size-1]?=some u:=by
  show its.toArray[its.length-1]?=some u;rw[←Array.getElem?_toList,←hl];exact hu
 refine call_meets F.slot_list_pop ⟨_,e,rfl⟩ F.entry_list_pop (F.args_list_pop_1 _) (MeetsSeq.list_pop_last l its.toArray n u hy' (by rw[Pz];lia)) ⟨e,?_⟩;refine⟨y,_,I.EO (its':=its.dropLast) hH e ?_ r.dropLast ?_,ru,q⟩
 .show its.toArray.eraseIdxIfInBounds (its.toArray.size-1)=its.dropLast.toArray
  rw[Pz,List.eraseIdxIfInBounds_toArray,AU]
 .rw[List.length_dropLast]
  lia
def J1:V->List V->Hp->VK->Prop:=fun x vs H Q=>∃l xs i k y,x= .ref l/\vs=[.int i]/\H l=some (.lst xs)/\-(2^63)<=i/\i<2^63/\seqIndex? i xs.length=some k/\xs[k]?=some y/\Q y (upd H l (.lst (xs.eraseIdx k)))
theorem yr:Nt X "list.pop" J1:=by
 intro pins s σ H x vs v us Q I rx rv h;obtain⟨l,xs,i,k,y,rfl,rfl,hH,h1,h2,hk,hy,q⟩:=h;cases rx;obtain⟨u,rfl,ru⟩:=rv.one;obtain⟨t,rfl⟩:=ru;obtain⟨z,its,n,r,hl,e⟩:=I.sF hH;obtain⟨w,hw,rw'⟩:=r.get hy;refine call_meets F.slot_list_pop ⟨_,e,rfl⟩ F.entry_list_pop (F.args_list_pop_2 _ _)
  (MeetsSeq.list_pop_at l its.toArray n i t k w (fitsIndex_both h1 h2) (by rw[Pz,←hl];exact hk) (by rw[←Array.getElem?_toList];exact hw) (by rw[Pz];lia)) ⟨e,?_⟩
 refine⟨y,_,I.EO (its':=its.eraseIdx k) hH e ?_ (r.eraseIdx k) ?_,rw',q⟩
 .show its.toArray.eraseIdxIfInBounds k=(its.eraseIdx k).toArray
  rw[List.eraseIdxIfInBounds_toArray]
 .have:=uH xs k
  lia
def Oq:R2:=fun x y H Q=>∃l b xs zs,x= .ref l/\y= .ref b/\H l=some (.lst xs)/\H b=some (.lst zs)/\xs.length+zs.length<=P6/\∀p,H p=none->Q (.ref p) (upd H p (.lst (xs++zs)))
theorem rF:kK X (binaryOp .Add) Oq:=by
 intro pins s σ H x y v u Q I rx ry h;obtain⟨l,b,xs,zs,rfl,rfl,hH,hB,hz,q⟩:=h;cases rx;cases ry;obtain⟨z,its,n,r,hl,e⟩:=I.sF hH;obtain⟨z2,its2,n2,r2,hl2,e2⟩:=I.sF hB;refine PySem.P.add_list e e2 ?_ (by rw[Pz,Pz];lia);have ea:its.toArray++its2.toArray=(its++its2).toArray:=by simp
 rw[ea];exact⟨.ref _,_,I.NG (t':=s.toks) (r.append r2) (by rw[Pg];lia),rfl,q _ I.fresh⟩
end
section
variable{κ:Type}[DecidableEq κ]
def cQ(kvs:List (κ×V))(k:κ):Option V:=(kvs.find? fun kv=>decide (kv.1=k)).map (·.2)
def putK(kvs:List (κ×V))(k:κ)(v:V):List (κ×V):=
 if(kvs.any fun kv=>decide (kv.1=k))=true then kvs.map (fun kv=>if kv.1=k then(kv.1,v)else kv)else kvs++[(k,v)]
def nW(kvs:List (κ×V))(k:κ):List (κ×V):=kvs.filter fun kv=>decide (kv.1≠k)
theorem cA{p:κ×V}{r:List (κ×V)}{k:κ}(e:p.1=k):cQ (p::r) k=some p.2:=by simp[cQ,List.find?_cons,e]
theorem cL{p:κ×V}{r:List (κ×V)}{k:κ}(e:¬p.1=k):cQ (p::r) k=cQ r k:=by simp[cQ,List.find?_cons,e]
theorem og(k:κ):∀kvs:List (κ×V),(kvs.any fun kv=>decide (kv.1=k))=(cQ kvs k).isSome
 |[]=>rfl
 |p::r=>by
  rw[List.any_cons];by_cases e:p.1=k
  .simp only[cA e,decide_eq_true e,Bool.true_or,Option.isSome_some]
  .rw[cL e,decide_eq_false e,Bool.false_or];exact og k r
theorem yD(k j:κ)(y:V):∀kvs:List (κ×V),cQ (kvs.map fun kv=>if kv.1=k then(kv.1,y)else kv) j=(cQ kvs j).map fun x=>if j=k then y else x
 |[]=>rfl
 |p::r=>by
  have ih:=yD k j y r;rw[Pm];by_cases h:p.1=k
  .rw[if_pos h]
   by_cases e:p.1=j
   .rw[cA (p:=(p.1,y)) e,cA e,Option.map_some,if_pos (e.symm.trans h)]
   .rw[cL (p:=(p.1,y)) e,cL e,ih]
  .rw[if_neg h]
   by_cases e:p.1=j
   .rw[cA (p:=p) e,cA e,Option.map_some,if_neg (fun z=>h (e.trans z))]
   .rw[cL (p:=p) e,cL e,ih]
theorem vd(k j:κ)(y:V):∀kvs:List (κ×V),cQ kvs k=none->cQ (kvs++[(k,y)]) j=if j=k then some y else cQ kvs j
 |[],_=>by
  by_cases e:k=j
  .rw[if_pos e.symm];exact cA (p:=(k,y)) e
  .rw[if_neg (fun z=>e z.symm)];exact cL (p:=(k,y)) e
 |p::r,hn=>by
  rw[List.cons_append];have hk:¬p.1=k:=fun z=>by rw[cA z]at hn;cases hn
  rw[cL hk]at hn;have ih:=vd k j y r hn;by_cases e:p.1=j
  .rw[cA e,cA e,if_neg (fun z=>hk (e.trans z))]
  .rw[cL e,cL e,ih]
theorem F5(kvs:List (κ×V))(k j:κ)(y:V):cQ (putK kvs k y) j=if j=k then some y else cQ kvs j:=by
 unfold putK;by_cases a:(kvs.any fun kv=>decide (kv.1=k))=true
 .rw[if_pos a,yD]
  rw[og]at a;by_cases e:j=k
  .obtain⟨x,hx⟩:=Option.isSome_iff_exists.mp a
   rw[if_pos e,e,hx,Option.map_some,if_pos rfl]
  .rw[if_neg e]
   cases cQ kvs j with
   |none=>rfl
   |some x=>rw[Option.map_some,if_neg e]
 .rw[if_neg a]
  refine vd k j y kvs ?_;rw[og]at a
  cases q:cQ kvs k with
  |none=>rfl
  |some x=>rw[q]at a;exact(a rfl).elim
theorem iJ(kvs:List (κ×V))(k:κ)(v:V):(putK kvs k v).length<=kvs.length+1:=by
 unfold putK
 split
 .rw[Pe];lia
 .rw[Pg,Pl,List.length_nil];lia
theorem ji.hJ {o:Option V}{u:Option PX}(r:ji o u):o.isSome=u.isSome:=by
 cases o with
 |none=>cases u with
  |none=>rfl
  |some _=>exact(show False from r).elim
 |some _=>cases u with
  |none=>exact(show False from r).elim
  |some _=>rfl
theorem ji.getD {o:Option V}{u:Option PX}{d:V}{d':PX}(r:ji o u)(rd:RelV d d'):RelV (o.getD d) (u.getD d'):=by
 cases o with
 |none=>cases u with
  |none=>exact rd
  |some _=>exact(show False from r).elim
 |some _=>cases u with
  |none=>exact(show False from r).elim
  |some _=>exact r
theorem KV.val {kvs:List (κ×V)}{vs:List (κ×PX)}(r:KV kvs vs)(k:κ):ji (cQ kvs k) (valueAt vs k):=by
 unfold KV at r
 induction r with
 |nil=>exact True.intro
 | @cons p q ps qs h t ih=>
  obtain⟨h1,h2⟩:=h;by_cases e:p.1=k
  .have e':q.1=k:=h1.symm.trans e
   have b:valueAt (q::qs) k=some q.2:=by simp[valueAt,List.find?_cons,e']
   rw[cA e,b];exact h2
  .have e':¬q.1=k:=fun z=>e (h1.trans z)
   have b:valueAt (q::qs) k=valueAt qs k:=by simp[valueAt,List.find?_cons,e']
   rw[cL e,b];exact ih
theorem KV.any {kvs:List (κ×V)}{vs:List (κ×PX)}(r:KV kvs vs)(k:κ):(kvs.any fun kv=>decide (kv.1=k))=vs.any fun kv=>decide (kv.1=k):=by
 unfold KV at r
 induction r with
 |nil=>rfl
 |cons h t ih=>rw[List.any_cons,List.any_cons,ih,h.1]
theorem KV.K0 {kvs:List (κ×V)}{vs:List (κ×PX)}(r:KV kvs vs)(k:κ){y:V}{u:PX}(ry:RelV y u):
  KV (kvs.map fun kv=>if kv.1=k then(kv.1,y)else kv) (vs.map fun kv=>if kv.1=k then(kv.1,u)else kv):=by
 unfold KV at r⊢
 induction r with
 |nil=>exact .nil
 | @cons p q ps qs h t ih=>
  rw[Pm,Pm];refine .cons ?_ ih;obtain⟨h1,h2⟩:=h;by_cases e:p.1=k
  .rw[if_pos e,if_pos (h1.symm.trans e)];exact⟨h1,ry⟩
  .rw[if_neg e,if_neg (fun z=>e (h1.trans z))];exact⟨h1,h2⟩
theorem KV.put {kvs:List (κ×V)}{vs:List (κ×PX)}(r:KV kvs vs)(k:κ){y:V}{u:PX}(ry:RelV y u):KV (putK kvs k y) (stored vs k u):=by
 unfold putK stored;rw[r.any k];by_cases e:(vs.any fun kv=>decide (kv.1=k))=true
 .rw[if_pos e,if_pos e];exact r.K0 k ry
 .rw[if_neg e,if_neg e];exact Paired.snoc r ⟨rfl,ry⟩
theorem KV.drop {kvs:List (κ×V)}{vs:List (κ×PX)}(r:KV kvs vs)(k:κ):KV (nW kvs k) (without vs k):=by
 unfold KV at r⊢;unfold nW without
 induction r with
 |nil=>exact .nil
 | @cons p q ps qs h t ih=>
  obtain⟨h1,h2⟩:=h;rw[List.filter_cons,List.filter_cons];by_cases e:p.1=k
  .have a:¬decide (p.1≠k)=true:=by simp[e]
   have b:¬decide (q.1≠k)=true:=by simp[h1.symm.trans e]
   rw[if_neg a,if_neg b];exact ih
  .have e':¬q.1=k:=fun z=>e (h1.trans z)
   have a:decide (p.1≠k)=true:=by simp[e]
   have b:decide (q.1≠k)=true:=by simp[e']
   rw[if_pos a,if_pos b];exact .cons ⟨h1,h2⟩ ih
theorem KV.keys {kvs:List (κ×V)}{vs:List (κ×PX)}(r:KV kvs vs):kvs.map (·.1)=vs.map (·.1):=by
 unfold KV at r
 induction r with
 |nil=>rfl
 |cons h t ih=>rw[Pm,Pm,ih,h.1]
theorem KV.length {kvs:List (κ×V)}{vs:List (κ×PX)}(r:KV kvs vs):kvs.length=vs.length:=Paired.length r
theorem Gd(kvs:List (κ×V))(k:κ):(nW kvs k).length<=kvs.length:=List.length_filter_le _ _
end
theorem mO{P:P0}{w:P4}{k:Key}{u:PX}(r:RelV (kV k) u):(bB P w).is k u=true:=by
 cases k with
 |inl i=>obtain⟨t,e⟩:=(show∃t,u=PX.int i t from r);subst e;exact yc P w i t
 |inr x=>obtain⟨t,e⟩:=(show∃t,u=PX.str x t from r);subst e;exact yu P w x t
theorem vm{P:P0}{w:P4}:∀{ks:List Key}{us:List PX},Vals (ks.map kV) us->ItemsAre (bB P w) ks us
 |[],_,r=>by rw[List.map_nil]at r;cases r;exact .nil
 |k::ks,_,r=>by
  rw[Pm]at r
  cases r with
  |cons h t=>exact .cons (mO h) (vm t)
abbrev KT(H:Hp):List (List Key×V)->List (List Key×PY×PX)->Prop:=Paired fun p q=>p.1=q.1/\H q.2.1=some (.tup (p.1.map kV))/\RelV p.2 q.2.2
theorem KT.val {H:Hp}{kvs:List (List Key×V)}{xs:List (List Key×PY×PX)}(r:KT H kvs xs)(k:List Key):ji (cQ kvs k) ((atKey xs k).map (·.2)):=by
 induction r with
 |nil=>exact True.intro
 | @cons p q ps qs h t ih=>
  obtain⟨h1,_,h2⟩:=h;by_cases e:p.1=k
  .have e':q.1=k:=h1.symm.trans e
   have b:atKey (q::qs) k=some q.2:=by simp[atKey,List.find?_cons,e']
   rw[cA e,b];exact h2
  .have e':¬q.1=k:=fun z=>e (h1.trans z)
   have b:atKey (q::qs) k=atKey qs k:=by simp[atKey,List.find?_cons,e']
   rw[cL e,b];exact ih
theorem KT.K0 {H:Hp}{kvs:List (List Key×V)}{xs:List (List Key×PY×PX)}(r:KT H kvs xs)(k:List Key){y:V}{u:PX}(ry:RelV y u):
  KT H (kvs.map fun kv=>if kv.1=k then(kv.1,y)else kv) (xs.map (putAt k u)):=by
 induction r with
 |nil=>exact .nil
 | @cons p q ps qs h t ih=>
  rw[Pm,Pm];refine .cons ?_ ih;obtain⟨h1,h2,h3⟩:=h;unfold putAt;by_cases e:p.1=k
  .rw[if_pos e,if_pos (h1.symm.trans e)];exact⟨h1,h2,ry⟩
  .rw[if_neg e,if_neg (fun z=>e (h1.trans z))];exact⟨h1,h2,h3⟩
theorem KT.put {H:Hp}{kvs:List (List Key×V)}{xs:List (List Key×PY×PX)}(r:KT H kvs xs)(k:List Key){b:PY}{y:V}{u:PX}(hb:H b=some (.tup (k.map kV)))(ry:RelV y u):
  KT H (putK kvs k y) (storedH xs k b u):=by
 have e:(kvs.any fun kv=>decide (kv.1=k))=(atKey xs k).isSome:=by
  rw[og,(r.val k).hJ,Option.isSome_map]
 unfold putK storedH;rw[e];by_cases q:(atKey xs k).isSome=true
 .rw[if_pos q,if_pos q];exact r.K0 k ry
 .rw[if_neg q,if_neg q];exact Paired.snoc r ⟨rfl,hb,ry⟩
theorem KT.keeps {H H':Hp}{kvs:List (List Key×V)}{xs:List (List Key×PY×PX)}(r:KT H kvs xs)(ht:∀b ys,H b=some (.tup ys)->H' b=some (.tup ys)):KT H' kvs xs:=
 Paired.Ao r fun _ _ z=>⟨z.1,ht _ _ z.2.1,z.2.2⟩
section
variable{P:P0}{w:P4}{H:Hp}{h:Qd}{a:PY}
theorem IP{u:HO}(ok:ma P w H h)(e:Rd H a u):bF P w H h a u:=e.ok ok
theorem zk{kvs:List (Key×V)}(ok:ma P w H h)(e:Rd H a (.dK kvs)):kvs.length<=P6/\(a==sysModules)=false/\∃vs,KV kvs vs/\h.DictOf (bB P w) a vs:=
 show bF P w H h a (.dK kvs)from IP ok e
theorem yx{kvs:List (Key×V)}(ok:ma P w H h)(e:H a=some (.dK kvs)):kvs.length<=P6/\(a==sysModules)=false/\∃vs,KV kvs vs/\h.DictOf (bB P w) a vs:=zk ok (.inl e)
theorem xf{ks:List Key}(ok:ma P w H h)(e:H a=some (.tup (ks.map kV))):(tupleKind (bB P w)).is h ks a:=by
 obtain⟨_,its,r,o,h1,h2,n,h3⟩:=(show bF P w H h a (.tup (ks.map kV))from ok a _ e);exact⟨o,its.toArray,n,h1,h2,h3,by simpa using vm r⟩
theorem BC{kvs:List (List Key×V)}(ok:ma P w H h)(e:Rd H a (.dT kvs)):kvs.length<=P6/\(a==sysModules)=false/\
  ∃xs,KT H kvs xs/\h.DictOfH (tupleKind (bB P w)) a xs:=by
 obtain⟨z,y,xs,r,o,es,ep,h1,h2,h3,h4,h5⟩:=(show bF P w H h a (.dT kvs)from IP ok e);refine⟨z,y,xs,r,o,es,ep,h1,h2,h3,h4,fun x hx=>?_,h5⟩;have all:∀{l:List (List Key×V)}{m:List (List Key×PY×PX)},KT H l m->∀x∈m,(tupleKind (bB P w)).is h x.1 x.2.1:=by
  intro l m q
  induction q with
  |nil=>intro x hx;exact nomatch hx
  | @cons p q ps qs hq t ih=>
   intro x hx;rcases List.mem_cons.mp hx with e|hx
   .subst e
    exact xf ok (by rw[←hq.1];exact hq.2.1)
   .exact ih x hx
 exact all r x hx
theorem LH{kvs:List (List Key×V)}(ok:ma P w H h)(e:H a=some (.dT kvs)):kvs.length<=P6/\(a==sysModules)=false/\
  ∃xs,KT H kvs xs/\h.DictOfH (tupleKind (bB P w)) a xs:=BC ok (.inl e)
end
def kU(H:Hp)(a:PY)(y:V)(r:Option V):Prop:=
 (∃kvs k,Rd H a (.dK kvs)/\y=kV k/\r=cQ kvs k)\/∃kvs k b,Rd H a (.dT kvs)/\y= .ref b/\H b=some (.tup (k.map kV))/\r=cQ kvs k
def Dk(H:Hp)(a:PY)(y v:V)(H':Hp):Prop:=
 (∃kvs k,H a=some (.dK kvs)/\y=kV k/\kvs.length<P6/\H'=upd H a (.dK (putK kvs k v)))\/
 ∃kvs k b,H a=some (.dT kvs)/\y= .ref b/\H b=some (.tup (k.map kV))/\kvs.length<P6/\H'=upd H a (.dT (putK kvs k v))
theorem kU.k {H:Hp}{a:PY}{kvs:List (Key×V)}{k:Key}(e:H a=some (.dK kvs)):kU H a (kV k) (cQ kvs k):= .inl ⟨kvs,k,.inl e,rfl,rfl⟩
theorem Dk.k {H:Hp}{a:PY}{kvs:List (Key×V)}{k:Key}{v:V}(e:H a=some (.dK kvs))(hl:kvs.length<P6):Dk H a (kV k) v (upd H a (.dK (putK kvs k v))):= .inl ⟨kvs,k,e,rfl,hl,rfl⟩
section
variable{X:Cx}{pins:List (PY×Obj)}{σ:St}{H:Hp}{s:PZ}{a:PY}{y v:V}{u r:PX}{o:Option V}{A:P5}{E:PX->PZ->Prop}
theorem Inv.big (I:Inv X pins σ H s):sysModules<s.heap.objs.size:=by
 have h:P7<s.heap.objs.size:=(I.mod.glob.keeps I.bk).lt;exact Nat.lt_trans (by decide) h
theorem Cv{Q:PX->PZ->Prop}(hu:A.units+1<cLine)(I:Inv X pins σ H s)(g:kU H a y (some v))(ry:RelV y u)(h:∀w' s',Inv X pins σ H s'->RelV v w'->Q w' s'):
  Qf (model X.prog X.w) A (getItem (.ref a) u) Q E s:=by
 rcases g with⟨kvs,k,e,ey,l⟩|⟨kvs,k,b,e,ey,eb,l⟩
 .subst ey
  obtain⟨z,hd,vs,rel,dd⟩:=zk I.aX e;obtain⟨w',hw,rw'⟩:=ji.some_of (v:=v) (o:=valueAt vs k) (by rw[l];exact rel.val k);exact wpAny_getItem_of (mO ry) dd.mapOf hw (h w' _ (I.tok _) rw')
 .subst ey
  cases(show u=PX.ref b from ry);obtain⟨z,hd,xs,rel,dd⟩:=BC I.aX e;obtain⟨w',hw,rw'⟩:=ji.some_of (v:=v) (o:=(atKey xs k).map (·.2)) (by rw[l];exact rel.val k);obtain⟨p,hp,hp2⟩:=Option.map_eq_some_iff.mp hw;refine wpAny_getItem_heap (tupleKind_room_in1 hu) (xf I.aX eb) dd hp ?_;rw[hp2];exact h w' _ (I.tok _) rw'
theorem GP{Q:PX->PZ->Prop}(hu:A.units+1<cLine)(I:Inv X pins σ H s)(g:kU H a y o)(ry:RelV y u)(h:∀s',Inv X pins σ H s'->Q (.bool (!o.isSome)) s'):
  Qf (model X.prog X.w) A (compareOp .NotIn u (.ref a)) Q E s:=by
 rcases g with⟨kvs,k,e,ey,l⟩|⟨kvs,k,b,e,ey,eb,l⟩
 .subst ey
  obtain⟨z,hd,vs,rel,dd⟩:=zk I.aX e;refine wpAny_notIn_of (mO ry) hd dd.mapOf ?_;rw[←(rel.val k).hJ,←l];exact h _ (I.tok _)
 .subst ey
  cases(show u=PX.ref b from ry);obtain⟨z,hd,xs,rel,dd⟩:=BC I.aX e;refine wpAny_notIn_heap (tupleKind_room_in1 hu) (xf I.aX eb) hd dd ?_;have q:=(rel.val k).hJ;rw[Option.isSome_map]at q;rw[←q,←l];exact h _ (I.tok _)
theorem qY{h':Qd}{t':Nat}{ob:HO}(I:Inv X pins σ H s)(mu:MI (H a))(hs:Qd.SameBut a s.heap h')(he:∃q,h'.get? a=some q)(new:bF X.prog X.w (upd H a ob) h' a ob):
  Inv X pins σ (upd H a ob) {s with heap:=h',toks:=t'}:=
 I.write (x:=a) (e:=a) mu (.inl rfl) (fun b q hb z=>(hs.2 b hb).trans z) he new
theorem Ab{P:P0}{w:P4}{H':Hp}{h':Qd}{kvs:List (Key×V)}{vs:List (Key×PX)}(z:kvs.length<=P6)(hd:(a==sysModules)=false)(rel:KV kvs vs)(dd:h'.DictOf (bB P w) a vs):
  bF P w H' h' a (.dK kvs):=⟨z,hd,vs,rel,dd⟩
theorem CU{H':Hp}{Q:Unit->PZ->Prop}(hu:A.units+1<cLine)(I:Inv X pins σ H s)(g:Dk H a y v H')(ry:RelV y u)(rv:RelV v r)(h:∀s',Inv X pins σ H' s'->Q () s'):
  Qf (model X.prog X.w) A (setItem (.ref a) u r) Q E s:=by
 rcases g with⟨kvs,k,e,ey,l,eH⟩|⟨kvs,k,b,e,ey,eb,l,eH⟩
 .subst ey eH
  obtain⟨z,hd,vs,rel,dd⟩:=yx I.aX e;have hz:vs.length<=P6:=by rw[←rel.length];exact z
  have hl:(putK kvs k v).length<=P6:=by have:=iJ kvs k v;lia
  refine wpAny_setItem_pairs (hsz:=hz) (mO ry) dd fun h' dd' hs=>h _ ?_;have he:∃q,h'.get? a=some q:=let⟨q,_,_,hq,_⟩:=dd';⟨q,hq⟩
  exact qY I (by rw[e];exact True.intro) hs he (Ab hl hd (rel.put k rv) dd')
 .subst ey eH
  cases(show u=PX.ref b from ry);obtain⟨z,hd,xs,rel,dd⟩:=LH I.aX e;have hz:xs.length<=P6:=by rw[←Paired.length rel];exact z
  have hl:(putK kvs k v).length<=P6:=by have:=iJ kvs k v;lia
  refine wpAny_setItem_heap (hsz:=hz) (tupleKind_room_in1 hu) (xf I.aX eb) dd fun h' dd' hs=>h _ ?_;obtain⟨q,es,ep,hq,h2,h3,h4,_,h5⟩:=dd';refine qY I (by rw[e];exact True.intro) hs ⟨q,hq⟩ ⟨hl,hd,_,(rel.put k eb rv).keeps fun c ys ec=>?_,q,es,ep,hq,h2,h3,h4,h5⟩;rw[ao (Ga ec e (fun z=>nomatch z))];exact ec
end
section
variable{X:Cx}{pins:List (PY×Obj)}{σ:St}{H:Hp}{s:PZ}{a:PY}{kvs:List (Key×V)}{k:Key}{u:PX}{A:P5}{E:PX->PZ->Prop}
theorem Cr{Q:Unit->PZ->Prop}(I:Inv X pins σ H s)(e:H a=some (.dK kvs))(ry:RelV (kV k) u)(l:(cQ kvs k).isSome=true)(h:∀s',Inv X pins σ (upd H a (.dK (nW kvs k))) s'->Q () s'):
  Qf (model X.prog X.w) A (delItem (.ref a) u) Q E s:=by
 obtain⟨z,hd,vs,rel,dd⟩:=yx I.aX e;refine wpAny_delItem_slot dd.typeIs (by decide) PySem.F.slot_dict_delitem
  (call_meetsIn PySem.F.slot_dict_delitem dd.typeIs PySem.F.entry_dict_delitem (PySem.F.args_dict_delitem_2 _ _) (meets_dict_delitem_pairs (bB X.prog X.w) a (mO ry)) ⟨vs,dd,by rw[←rel.length];exact z,by rw[←(rel.val k).hJ];exact l,fun h' dd' hs=>h _ ?_⟩)
 have he:∃q,h'.get? a=some q:=let⟨q,_,_,hq,_⟩:=dd';⟨q,hq⟩
 exact qY I (by rw[e];exact True.intro) hs he (Ab (PN (Gd kvs k) z) hd (rel.drop k) dd')
theorem M4{Q:PX->PZ->Prop}(I:Inv X pins σ H s)(e:Rd H a (.dK kvs))(h:∀t s',Inv X pins σ H s'->Q (.int kvs.length t) s'):Qf (model X.prog X.w) A (call (.builtin "len") [.ref a]) Q E s:=by
 obtain⟨z,hd,vs,rel,dd⟩:=zk I.aX e;refine call_len_dict hd dd (by rw[←rel.length];rw[sizeLine_eq]at z;lia) ?_;rw[←rel.length];exact h _ _ (I.tok _)
end
def K9(i:Expr):Prop:=∀ov iv,subscripted i false ov iv=operate [ov,iv] (getItem ov iv)
theorem B4{prog:P0}{w:P4}{A:P5}{E:PX->PZ->Prop}{s:PZ}{env:Env}{value slice:Expr}{pos:Pos}{T id:String}{Q:PX->PZ->Prop}
  (hl:typeLookup (.type T) "__getitem__" =pure (some (.builtin id))) (hs:K9 slice)
  (h:Qf (model prog w) A (eval value env) (fun o s₁=>Qf (model prog w) A (eval slice env) (fun i s₂=>s₂.TypeIs o T/\Qf (model prog w) A (getItem o i) Q E s₂) E s₁) E s):
  Qf (model prog w) A (eval (.Subscript value slice pos) env) Q E s:=by
 refine Subscript_ (Qa h (fun o s₁ h₁=>Qa h₁ (fun i s₂ h₂=>?_) fun _ _ x=>x) fun _ _ x=>x);obtain⟨hT,h₂⟩:=h₂;unfold subscriptTail;refine P8 ?_;rw[getitemInPython_of_ne hT.not_modules];refine P8 (wpAny_specialOf hT hl ?_);have fin:Qf (model prog w) A (subscripted slice false o i) (fun r s₃=>Qf (model prog w) A (letTemporaryGo value o r>>=fun _=>pure r) Q E s₃) E s₂:=by
  rw[hs o i];exact wpAny_operating (Qa h₂ (fun r s₃ h₃=>P8 (wpAny_letTemporaryGo (P9 h₃))) fun _ _ x=>x)
 first
  |exact P9 (P8 fin)
  |exact P8 (P9 (P8 fin))
  |exact P8 fin
theorem yv{X:Cx}{pins:List (PY×Obj)}{σ:St}{H:Hp}{s:PZ}{a:PY}{y:V}{o:Option V}(I:Inv X pins σ H s)(g:kU H a y o):s.TypeIs (.ref a) "dict" :=by
 rcases g with⟨kvs,k,e,_,_⟩|⟨kvs,k,b,e,_,_,_⟩
 .obtain⟨_,_,vs,_,dd⟩:=zk I.aX e
  exact dd.typeIs
 .obtain⟨_,_,xs,_,dd⟩:=BC I.aX e
  exact dd.typeIs
def MB(td ty:TE):TE:=fun σ H Q=>td σ H fun x H1=>ty σ H1 fun y H2=>∃a v,x= .ref a/\kU H2 a y (some v)/\Q v H2
def Hu(ty td:TE):TE:=fun σ H Q=>ty σ H fun y H1=>td σ H1 fun x H2=>∃a o,x= .ref a/\kU H2 a y o/\Q (.bl (!o.isSome)) H2
def Mi(td ty tv:TE):TS:=fun D σ H=>tv σ H fun v H1=>td σ H1 fun x H2=>ty σ H2 fun y H3=>∃a H4,x= .ref a/\Dk H3 a y v H4/\D.nx σ H4
def MH(td ty:TE):TS:=fun D σ H=>td σ H fun x H1=>ty σ H1 fun y H2=>∃a kvs k,x= .ref a/\H2 a=some (.dK kvs)/\y=kV k/\(cQ kvs k).isSome=true/\D.nx σ (upd H2 a (.dK (nW kvs k)))
section
variable{X:Cx}{o i e value:Expr}{pos pos' tpos:Pos}{td ty tv:TE}
theorem n5(hu:X.A.units+1<cLine)(ho:PE X o td)(hi:PE X i ty)(hs:K9 i):PE X (.Subscript o i pos) (MB td ty):=by
 intro pins s σ H Q I h;refine B4 PySem.F.slot_dict_getitem.lookup hs (bf (ho pins s σ H _ I h) fun u s1 ⟨x,H1,I1,rx,q1⟩=>bf (hi pins s1 σ H1 _ I1 q1) fun iv s2 ⟨y,H2,I2,ry,a,v,ex,g,q2⟩=>?_);subst ex;obtain rfl:u=PX.ref a:=rx;exact⟨yv I2 g,Cv hu I2 g ry fun w' s3 I3 rw'=>⟨v,H2,I3,rw',q2⟩⟩
theorem uU(hu:X.A.units+1<cLine)(hi:PE X i ty)(ho:PE X o td):PC X .NotIn i o (Hu ty td):=by
 intro pins s σ H Q I h;refine bf (hi pins s σ H _ I h) fun iv s1 ⟨y,H1,I1,ry,q1⟩=>bf (ho pins s1 σ H1 _ I1 q1) fun u s2 ⟨x,H2,I2,rx,a,ov,ex,g,q2⟩=>?_;subst ex;obtain rfl:u=PX.ref a:=rx;exact GP hu I2 g ry fun s3 I3=>⟨.bl (!ov.isSome),H2,I3,rfl,q2⟩
theorem mh(hu:X.A.units+1<cLine)(ho:PE X o td)(hi:PE X i ty)(hv:PE X value tv)(hs:swapsWith value (some (.Subscript o i pos')) pos.line X.env=pure false):
  PS X (.Assign [.Subscript o i pos'] value pos) (Mi td ty tv):=by
 intro pins s σ H D I h;refine wpAny_Assign_Subscript (bf (hv pins s σ H _ I h) fun r s1 ⟨v,H1,I1,rv,q1⟩=>bf (ho pins s1 σ H1 _ I1 q1) fun u s2 ⟨x,H2,I2,rx,q2⟩=>bf (hi pins s2 σ H2 _ I2 q2) fun iv s3 ⟨y,H3,I3,ry,a,H4,ex,g,q3⟩=>?_) hs;subst ex;obtain rfl:u=PX.ref a:=rx;exact CU hu I3 g ry rv fun s4 I4=>⟨σ,H4,I4,q3⟩
theorem Hx(ho:PE X o td)(hi:PE X i ty):PS X (.Delete [.Subscript o i tpos] pos) (MH td ty):=by
 intro pins s σ H D I h;refine wpAny_Delete (wpAny_deleteEach_cons (wpAny_delete_Subscript (bf (ho pins s σ H _ I h) fun u s1 ⟨x,H1,I1,rx,q1⟩=>bf (hi pins s1 σ H1 _ I1 q1) fun iv s2 ⟨y,H2,I2,ry,a,kvs,k,ex,e,ey,l,q2⟩=>?_)));subst ex ey;obtain rfl:u=PX.ref a:=rx;exact Cr I2 e ry l fun s3 I3=>wpAny_deleteEach_nil ⟨σ,_,I3,q2⟩
end
theorem ym{P:P0}{w:P4}{H:Hp}(h:Qd)(hb:sysModules<h.objs.size):bF P w H (h.push {cls:= .type "dict",data:= .dict #[]}) h.objs.size (.dK []):=
 ⟨PQ _,beq_eq_false_iff_ne.mpr (Ne.symm (PM hb)),[],.nil,Qd.DictOf.new h⟩
def K3:TE:=fun _ H Q=>∀p,H p=none->Q (.ref p) (upd H p (.dK []))
section
variable{X:Cx}{pos:Pos}
theorem xN:PE X (.Dict [] [] pos) K3:=fun pins s σ H Q I h=>
 wpAny_Dict_empty ⟨.ref s.heap.objs.size,_,I.laid (a:=s.heap.objs.size) (o:= .dK []) (t':=s.toks) (fun _ _ q=>Qd.get?_push_of_some _ q) (PK _) (ym s.heap I.big),rfl,h _ (I.aX.fresh (PK _))⟩
end
def AB:List (TE×TE)->St->Hp->(List (V×V)->Hp->Prop)->Prop
 |[],_,H,Q=>Q [] H
 |(tk,tv)::r,σ,H,Q=>tk σ H fun x H1=>tv σ H1 fun y H2=>AB r σ H2 fun ps H3=>Q ((x,y)::ps) H3
abbrev VV:List (V×V)->List (PX×PX)->Prop:=Paired fun p q=>RelV p.1 q.1/\RelV p.2 q.2
def Nv(X:Cx)(pos:Pos)(keys:List (Option Expr))(values:List Expr)(trs:List (TE×TE)):Prop:=
 ∀(pins:List (PY×Obj))(s:PZ)(σ:St)(H:Hp)(Q:List (V×V)->Hp->Prop),Inv X pins σ H s->AB trs σ H Q->
  Qf (model X.prog X.w) X.A (evalPairs (pairTrees keys values X.env pos)) (fun vs s'=>∃ps H',Inv X pins σ H' s'/\VV ps vs/\Q ps H') X.xe s
theorem Bv{X:Cx}{pos:Pos}:Nv X pos [] [] []:=fun pins s σ H Q I h=>pairTrees_nil_walk ⟨[],H,I,.nil,h⟩
theorem eU{X:Cx}{pos:Pos}{k v:Expr}{ks:List (Option Expr)}{vs:List Expr}{tk tv:TE}{trs:List (TE×TE)}(hk:PE X k tk)(hv:PE X v tv)(hr:Nv X pos ks vs trs):
  Nv X pos (some k::ks) (v::vs) ((tk,tv)::trs):=fun pins s σ H Q I h=>
 pairTrees_cons_walk (bf (hk pins s σ H _ I h) fun u s1 ⟨x,H1,I1,rx,q1⟩=>bf (hv pins s1 σ H1 _ I1 q1) fun w2 s2 ⟨y,H2,I2,ry,q2⟩=>
  bf (hr pins s2 σ H2 _ I2 q2) fun ws s3 ⟨ps,H3,I3,rel,q3⟩=>⟨(x,y)::ps,H3,I3,.cons ⟨rx,ry⟩ rel,q3⟩)
def mS(kvs more:List (Key×V)):List (Key×V):=more.foldl (fun acc kv=>putK acc kv.1 kv.2) kvs
theorem KV.merge:∀{more:List (Key×V)}{rs:List (Key×PX)}{kvs:List (Key×V)}{vs:List (Key×PX)},KV more rs->KV kvs vs->KV (mS kvs more) (merged vs rs):=by
 intro more rs kvs vs r;unfold KV at r
 induction r generalizing kvs vs with
 |nil=>intro q;exact q
 | @cons p q ps qs h t ih=>
  intro r0;have e:KV (putK kvs p.1 p.2) (stored vs q.1 q.2):=by
   have:=r0.put p.1 h.2;rw[←h.1];exact this
  exact ih e
theorem mI:∀(more kvs:List (Key×V)),(mS kvs more).length<=kvs.length+more.length
 |[],kvs=>by show kvs.length<=kvs.length+0;lia
 |p::r,kvs=>by
  have h1:=mI r (putK kvs p.1 p.2);have h2:=iJ kvs p.1 p.2;show(mS (putK kvs p.1 p.2) r).length<=_;rw[Pl];lia
theorem rW{P:P0}{w:P4}:∀{kvs:List (Key×V)}{ws:List (PX×PX)},VV (kvs.map fun kv=>(kV kv.1,kv.2)) ws->∃rs,Carries (bB P w) ws rs/\KV kvs rs
 |[],_,r=>by rw[List.map_nil]at r;cases r;exact⟨[],True.intro,.nil⟩
 |p::kvs,_,r=>by
  rw[Pm]at r
  cases r with
  | @cons a b as bs h t=>
   obtain⟨rs,c,q⟩:=rW (P:=P) (w:=w) t;obtain⟨b1,b2⟩:=b;exact⟨(p.1,b2)::rs,⟨mO h.1,rfl,c⟩,.cons ⟨rfl,h.2⟩ q⟩
def MK(trs:List (TE×TE)):TE:=fun σ H Q=>∀p,H p=none->AB trs σ (upd H p (.dK [])) fun ps H2=>H2 p=some (.dK [])/\∃kvs:List (Key×V),ps=kvs.map (fun kv=>(kV kv.1,kv.2))/\kvs.length<=15/\Q (.ref p) (upd H2 p (.dK (mS [] kvs)))
theorem Co{X:Cx}{pos:Pos}{keys:List (Option Expr)}{values:List Expr}{trs:List (TE×TE)}(h:Nv X pos keys values trs)(hall:keys.all (·.isSome)=true)(hl:keys.length=values.length)(h0:keys≠[])
  (h15:keys.length<=15):PE X (.Dict keys values pos) (MK trs):=by
 intro pins s σ H Q I q;have hn:=I.aX.fresh (PK s.heap.objs.size);have I1:=I.laid (a:=s.heap.objs.size) (o:= .dK []) (h':=s.heap.push {cls:= .type "dict",data:= .dict #[]}) (t':=s.toks) (fun _ _ q=>Qd.get?_push_of_some _ q) (PK _) (ym s.heap I.big);refine wpAny_Dict_walk (knd:=bB X.prog X.w) hall hl h0 h15 (bf (h pins _ σ _ _ I1 (q _ hn)) fun ws s2 ⟨ps,H2,I2,rel,e,kvs,ep,lk,q2⟩=>?_);subst ep;obtain⟨rs,c,rk⟩:=rW (P:=X.prog) (w:=X.w) rel;obtain⟨z,hd,vs0,r0,dd⟩:=yx I2.aX e;cases r0;refine⟨rs,c,dd,fun h' dd' hs=>⟨.ref s.heap.objs.size,_,?_,rfl,q2⟩⟩;have hz:(mS [] kvs).length<=P6:=by
  have h1:=mI kvs [];rw[List.length_nil]at h1;rw[sizeLine_eq];lia
 have he:∃q,h'.get? s.heap.objs.size=some q:=let⟨q,_,_,hq,_⟩:=dd';⟨q,hq⟩
 exact qY I2 (by rw[e];exact True.intro) hs he (Ab hz hd (rk.merge .nil) dd')
structure M2(X:Cx)(o:Expr)(m:Str)(apos:Pos)(e f:Expr)(cpos:Pos):Prop where
 base:attributeBase o m X.env (eval o X.env)=eval o X.env
 LJ:((Qe cpos (Qb [e,f] X.env)).all (fun x=> !x.1)&&(backToKw cpos (keywordEach [] X.env)).all (fun x=>x.1.isSome)
  &&decide (([e,f]:List Expr).length+([]:List Keyword).length+(if([]:List Keyword).isEmpty then 0 else 1)<30))=true
 line:(apos.endLine==cpos.line)=true
 trees:Qe cpos (Qb [e,f] X.env)=[(false,eval e X.env),(false,eval f X.env)]
end L2
namespace Att
open PySem PySem.W PySem.Calls PyProof.Rows
theorem qu{P:Params}{h:Qd}:∀(ns:List Int)(vs:List PX),WellAll P h vs (ns.map WData.int)->IntsAre vs ns:=by
 intro ns
 induction ns with
 |nil=>
  intro vs w;rw[List.map_nil]at w;cases w;exact .nil
 |cons n ns ih=>
  intro vs w;rw[Pm]at w
  cases w with
  |cons a b=>
   cases a;exact .cons _ _ (ih _ b)
theorem Cy{l:OpenLaw}{n:Nat}(hn:l.most=some n){P:Params}{h:Qd}{args:List WData}{vals:List PX}
  (hpre:l.row.toRowW.claim.pre args=true) (hwl:WellAll P h vals args):
  ∃a vs ns,vals=[PX.ref a]/\args=[WData.list (ns.map WData.int)]/\h.get? a=some {cls:= .type "list",data:= .seq vs.toArray}/\IntsAre vs ns/\ns.length<=n:=by
 have hsh:WShape.hasAll [] args [.list .int]=true:=(pre_splitW hpre).1;have hc:l.pre.holds [] {args:=args}=true:=(pre_splitW hpre).2;obtain⟨d,r,rfl,h1,h2⟩:=hasAllW_cons hsh;obtain rfl:=hasAllW_nil h2;obtain⟨xs,rfl,h3⟩:=hasW_list h1;obtain⟨ns,rfl⟩:=items_int h3;have hlen:ns.length<=n:=by
  unfold OpenLaw.pre at hc;have h4:(WTm.not (.lt (.lit (.int (n:Int))) (.len (.arg 0)))).holds [] {args:=[.list (ns.map .int)]}=true:=by
   have h4:=(holds_andW hc).1;rw[hn]at h4;exact h4
  have h5:=condW_of h4 (w_not (w_lt w_lit (w_len_list (w_arg rfl))));rw[Pe]at h5;refine Nat.le_of_not_lt fun q=>?_;have q':(n:Int)<((ns.length:Nat):Int):=by lia
  first
   |(rw[decide_eq_true q']at h5;exact absurd h5 (by decide))
   |(simp at h5;lia)
 cases hwl with
 |cons w1 w2=>
  cases w2
  cases w1 with
  |list ho hall=>exact⟨_,_,ns,rfl,rfl,ho,qu ns _ hall,hlen⟩
theorem Dl(l:OpenLaw)(args:List WData):l.row.toRowW.claim.post args (.bool true) args=true:=
 postW_of (r:=l.row.toRowW) (X:=(true==true))
  (show WShape.has [] (.bool true) .bool=true by first|rfl|decide|simp[WShape.has,WShape.arms,WShape.armsAll])
  (show(WTm.eq .res (.lit (.bool true))).value [] {args:=args,res:=some (.bool true),after:=args}=some (.bool (true==true))from w_eq_bool (w_res rfl) w_lit) rfl
theorem yz{l:OpenLaw}{n:Nat}{q:P0}{loose:List Str}{XP:(Str->Option PX)->Qd->Prop}{YP:P4->Qd->Prop}{d:DefRec}
  (hn:l.most=some n) (hdf:d.params.defaults=[])
  (call:∀(w:P4)(s₀ s₁:PZ)(mg mb:Str->Option PX)(fa:PY)(o:Obj)(pm cd doc:PX)(a:PY)(vs:List PX)(ns:List Int),
   Ground q loose [] XP w s₀ mg mb s₁.heap->YP w s₁.heap->
   s₁.heap.get? fa=some o->o.data= .func (docDef d.name d.params d.body d.scope pm cd doc)->s₁.heap.CodeRec cd d.name->mg d.name=some (.ref fa)->
   s₁.heap.get? a=some {cls:= .type "list",data:= .seq vs.toArray}->IntsAre vs ns->ns.length<=n->s₁.gens= #[]->
   codeAny (model l.prog w) callerA (.call (.ref fa) ⟨[.ref a],[]⟩) (fun r s'=>r= .ok (.ret (.bool true))/\OldK s₁.heap s'.heap/\s'.os=s₁.os/\AllBare s'.gens) s₁):
  WalkO q loose XP YP l.row.toRowW d [] (fun f vs=>PySem.call f vs):=by
 intro w s₀ s₁ mg mb G Y fa o pm cd doc dV kV ho hd hcd hD hmg hg args vals as hpre hlay hrd hwl hlo;obtain rfl:dV= .none:=Dflts.none hD hdf;obtain rfl:kV= .none:=Dflts.noKw hD;obtain⟨a,vs,ns,rfl,rfl,hobj,hints,hlen⟩:=Cy hn hpre hwl;refine enter_call (codeAny_mono (call w s₀ s₁ mg mb fa o pm cd doc a vs ns G Y ho (fd_plain hd) hcd hmg hobj hints hlen hg) fun r s' hq=>?_);obtain⟨rfl,h2,h3,h4⟩:=hq;exact⟨.inl ⟨.bool true,.bool true,[],rfl,fun _=>rfl,.bool true,Dl l _,fun _=>⟨List.Pairwise.nil,fun _ hm=>(nomatch hm)⟩⟩,h2,h3,h4⟩
end Att
namespace L2
open PySem PySem.Spec PyProof.Rows
theorem u4:∀{vs:List PX}{ns:List Int},IntsAre vs ns->Vals (ns.map V.int) vs
 |_,_,.nil=> .nil
 |_,_,.cons n t h=> .cons ⟨t,rfl⟩ (u4 h)
def K2(H:Hp):Prop:=∀b,H b=none\/∃o xs,H b=some (.mL o (.lst xs))
theorem Fi{P:P0}{w:P4}{K:W.Frag}{mg mb:Str->Option PX}{CX:uJ}{k:Nat}{fa a:PY}{fd:Qc}{x:Str}{sp:Sp}{s₁:PZ}{vs:List PX}{ns:List Int}
  (KX:K.In s₁.heap) (hns:s₁.heap.Ns P7 mg) (hb:s₁.heap.Ns builtinsNs mb) (hbb:∀x:Str,x≠"__name__"->mb x=bootBuiltins x) (hlim:s₁.heap.NoLimit) (hg:s₁.gens= #[])
  (ha:s₁.heap.get? a=some {cls:= .type "list",data:= .seq vs.toArray}) (hi:IntsAre vs ns) (hl:ns.length<=P6) (hr:cB k callerA)
  (F:∀base:Qd,K.In base->base.Ns P7 mg->aQ P w K mg base CX k fa fd [x] sp) (hbind:∀(s:PZ)(u:PX),BindsTo s fd ⟨[u],[]⟩ [(x,u)])
  (hsp:∀H:Hp,K2 H->aI K H a (ns.map V.int)->sp [.ref a] H (fun v _=>v= .bl true) fun _ _ _=>False)
  (hCX:∀H e s',CX [] H s₁ (fun _ _ _=>False) e s'->False):
  codeAny (model P w) callerA (.call (.ref fa) ⟨[.ref a],[]⟩) (fun r s'=>r= .ok (.ret (.bool true))/\OldK s₁.heap s'.heap/\s'.os=s₁.os/\AllBare s'.gens) s₁:=by
 have rv:=u4 hi;have lenV:=hi.length;have core:∀H:Hp,K2 H->aI K H a (ns.map V.int)->ma P w H s₁.heap->(∀b,H b≠none->b=a)->(H a≠none->K.lookup a=none)->
   codeAny (model P w) callerA (.call (.ref fa) ⟨[.ref a],[]⟩) (fun r s'=>r= .ok (.ret (.bool true))/\OldK s₁.heap s'.heap/\s'.os=s₁.os/\AllBare s'.gens) s₁:=by
  intro H hO hS aX hA hK;have base_of:∀{b:PY}{o:Obj},s₁.heap.get? b=some o->H b=none->(vQ s₁.heap H).get? b=some o:=fun e n=>Gk e n;have noA:∀{b:PY}{o:Obj}{es:Array DictEntry}{ep:Nat},s₁.heap.get? b=some o->o.data= .dict es ep->H b=none:=fun{b o es ep} e d=>by
   cases q:H b with
   |none=>rfl
   |some u=>
    have e':b=a:=hA b (by rw[q];simp);subst e';rw[ha]at e;cases e;have d':Data.seq vs.toArray _=Data.dict es ep:=d;cases d'
  have nsK:∀{b:PY}{m:Str->Option PX},s₁.heap.Ns b m->(vQ s₁.heap H).Ns b m:=fun{b m} ⟨o,es,ep,e,d,r⟩=>⟨o,es,ep,base_of e (noA e d),d,r⟩;have hKb:K.In (vQ s₁.heap H):=fun b o e=>base_of (KX b o e) (by
   cases q:H b with
   |none=>rfl
   |some u=>
    have e':b=a:=hA b (by rw[q];simp);subst e';rw[hK (by rw[q];simp)]at e;cases e)
  have hM:Mod K mg (vQ s₁.heap H):=⟨hKb,nsK hns,⟨mb,nsK hb,hbb⟩,let⟨mc,h1,h2⟩:=hlim;⟨mc,nsK h1,h2⟩⟩;have e0:y7 P w K mg (vQ s₁.heap H) callerA [] s₁ H:=⟨rfl,hM,fun b o e=>Ip e,Nat.le_of_eq (CW _ _),trivial,fun b hb=>absurd (show b∈([]:List PY)from hb) (by simp),aX,.of_eq hg⟩;refine codeAny_mono ((F _ hKb (nsK hns)).run callerA [] s₁ H ⟨[.ref a],[]⟩ [.ref a] [.ref a] _ _ hr e0 (hbind s₁ (.ref a)) (.cons rfl .nil) (hsp H hO hS)) fun r s' h=>?_
  cases r with
  |error e=>exact(hCX H e s' h).elim
  |ok fl=>
   cases fl with
   |next=>exact False.elim h
   |brk=>exact False.elim h
   |cont=>exact False.elim h
   |ret u=>
    obtain⟨v,H',os,bare,un,hok',r',q⟩:=h;have q':v= .bl true:=q;subst q';obtain rfl:u=PX.bool true:=r';refine⟨rfl,OldK.of_keep fun b o e=>?_,os,bare⟩
    cases q:H b with
    |none=>exact un.keep b o e q (by intro z;exact absurd (show b∈([]:List PY)from z) (by simp)) (by simp)
    |some u=>
     rcases hO b with z|⟨ob,xs,z⟩
     .rw[q]at z;cases z
     .have z2:=un.jk b ob _ z
      obtain⟨e1,_⟩:=aX b _ z;obtain⟨e2,_⟩:=hok' b _ z2;rw[e]at e1;cases e1;exact e2
 cases hk:K.lookup a with
 |some o=>
  have e:=KX a o hk;rw[ha]at e;cases e;refine core (fun _=>none) (fun _=> .inl rfl) (.inr ⟨_,vs.toArray,_,hk,rfl,rfl,rfl,by rw[Pz,lenV];exact hl,by simpa using rv⟩) (fun b u z=>by have z':(none:Option HO)=some u:=z;cases z') (fun b z=>absurd rfl z) fun z=>absurd rfl z
 |none=>
  refine core (fun b=>if b=a then some (.mL {cls:= .type "list",data:= .seq vs.toArray} (.lst (ns.map V.int)))else none) (fun b=>?_) (.inl (.inr ⟨{cls:= .type "list",data:= .seq vs.toArray},if_pos rfl⟩)) (fun b u z=>?_) (fun b z=>?_) fun _=>hk
  .by_cases hb:b=a
   .exact .inr ⟨_,_,if_pos hb⟩
   .exact .inl (if_neg hb)
  .by_cases hb:b=a
   .have z':=(if_pos hb).symm.trans z
    cases z';subst hb;exact⟨ha,by rw[Pe];exact hl,vs,_,rv,ha⟩
   .have z':=(if_neg hb).symm.trans z
    cases z'
  .by_cases hb:b=a
   .exact hb
   .exact absurd (if_neg hb) z
theorem Hr{l:W.OpenLaw}{n k:Nat}{q:P0}{loose:List Str}{XP:(Str->Option PX)->Qd->Prop}{YP:P4->Qd->Prop}{d:DefRec}{K:Params->W.Frag}{CX:P4->uJ}{sp:P4->Sp}{x:Str}
  (hn:l.most=some n) (hn2:n<=P6) (hdf:d.params.defaults=[]) (hr:cB k callerA)
  (hY:∀(w:P4)(h:Qd),YP w h->(K w.params).In h)
  (F:∀(w:P4)(mg:Str->Option PX)(fa:PY)(h:Qd),(K w.params).In h->h.Ns P7 mg->mg d.name=some (.ref fa)->
   ∃fd:Qc,(∀(s:PZ)(u:PX),BindsTo s fd ⟨[u],[]⟩ [(x,u)])/\
    ∀base:Qd,(K w.params).In base->base.Ns P7 mg->aQ l.prog w (K w.params) mg base (CX w) k fa fd [x] (sp w))
  (hsp:∀(w:P4)(H:Hp)(a:PY)(ns:List Int),ns.length<=n->K2 H->aI (K w.params) H a (ns.map V.int)->sp w [.ref a] H (fun v _=>v= .bl true) fun _ _ _=>False)
  (hCX:∀(w:P4)(H:Hp)(s:PZ)(e:PX)(s':PZ),CX w [] H s (fun _ _ _=>False) e s'->False):
  W.WalkO q loose XP YP l.row.toRowW d [] (fun f vs=>PySem.call f vs):=by
 refine Att.yz hn hdf fun w s₀ s₁ mg mb fa o pm cd doc a vs ns G Y ho hd hcd hmg hobj hints hlen hg=>?_;have KX:=hY w _ Y;obtain⟨fd,hb,hF⟩:=F w mg fa _ KX G.T.g hmg;exact Fi KX G.T.g G.T.b G.T.builtins G.T.nolimit hg hobj hints (PN hlen hn2) hr hF hb (fun H hO hS=>hsp w H a ns hlen hO hS) fun H e s'=>hCX w H s₁ e s'
def gW(s:Stmt):Arguments:=match s with
 | .FunctionDef _ a _ _ _ _ _ _ _ _=>a
 |_=>{posonlyargs:=[],args:=[],vararg:=none,kwonlyargs:=[],kw_defaults:=[],kwarg:=none,defaults:=[]}
def dE(s:Stmt):List Stmt:=match s with
 | .FunctionDef _ _ b _ _ _ _ _ _ _=>b
 |_=>[]
def av(s:Stmt):Scope:=match s with
 | .FunctionDef _ _ _ _ _ _ sc _ _ _=>sc
 |_=>{kind:= .function,names:=[],isGenerator:=false,isCoroutine:=false}
abbrev i4:uJ:=fun _ _ _ _ _ _=>False
abbrev E0:XK:=fun _ _ _=>False
theorem FV{X:Cx}:Passes i4 X E0:=fun _ _ _ _ _ _ _ h=>h.elim
structure dU(K:W.Frag)(x qual:Str)(st:Stmt)(f:PY)(fd:Qc):Prop where
 ex:∃(oc:PX)(od:Option PY)(kV doc pm:PX)(an:Option PY)(cdv ct:PX)(osl:Array (Option PX)),
  fd=W.fnOf x qual (gW st) (dE st) (av st) .none kV doc pm an cdv ct/\K.lookup f=some ⟨oc,od,.func fd,osl⟩/\W.codeIn K cdv qual=true
 kp:W.keepIn K (.ref f)=true
section
variable{P:P0}{w:P4}{K:W.Frag}{mg:Str->Option PX}{base:Qd}
theorem dU.ok {x qual:Str}{st:Stmt}{f:PY}{fd:Qc}{N ps:List Str}{k:Nat}{sp:Sp}(F:dU K x qual st f fd)(S:aE N ps (av st))(len:∀vs H Q E,sp vs H Q E->vs.length=ps.length)
  (hbody:∀(cdv:PX)(A:P5)(outer:List Env)(s:PZ)(H:Hp)(vs:List V)(Q:VK)(E:XK),cB k (A.deeper (envOfC qual (av st) s.heap.objs.size f cdv))->sp vs H Q E->
   ∃t,t5 (tX i4 P w K mg base N qual (av st) f cdv A outer s H E).Nr (dE st) t/\t {nx:=fun _ H'=>Q .cE H',rt:=Q} (start N vs) H):aQ P w K mg base i4 (k+1) f fd ps sp:=by
 obtain⟨oc,od,kV,doc,pm,an,cdv,ct,osl,rfl,lk,hcd⟩:=F.ex;refine Jp lk hcd S len fun A outer s H vs Q E hr hsp=>?_;obtain⟨t,h,q⟩:=hbody cdv A outer s H vs Q E hr hsp;exact⟨t,h.Nr,q⟩
theorem dU.binds {x qual:Str}{st:Stmt}{f:PY}{fd:Qc}{ps:List Str}(F:dU K x qual st f fd)
  (h:∀(kV doc pm:PX)(an:Option PY)(cdv ct:PX)(us:List PX),us.length=ps.length->bindArgs (W.fnOf x qual (gW st) (dE st) (av st) .none kV doc pm an cdv ct) ⟨us,[]⟩=pure (ps.zip us)):Binds K fd ps []:=by
 obtain⟨oc,od,kV,doc,pm,an,cdv,ct,osl,rfl,lk,hcd⟩:=F.ex;exact .all (h kV doc pm an cdv ct)
theorem vU{x qual:Str}{st:Stmt}{f:PY}{oc:PX}{od an:Option PY}{osl:Array (Option PX)}{kV doc pm cdv ct:PX}(l:K.lookup f=some ⟨oc,od,.func (W.fnOf x qual (gW st) (dE st) (av st) .none kV doc pm an cdv ct),osl⟩)
  (c:W.codeIn K cdv qual=true) (k:W.keepIn K (.ref f)=true):dU K x qual st f (W.fnOf x qual (gW st) (dE st) (av st) .none kV doc pm an cdv ct):=⟨⟨oc,od,kV,doc,pm,an,cdv,ct,osl,rfl,l,c⟩,k⟩
end
theorem pZ{A:P5}{k:Nat}(hr:cB k A):A.units+1<cLine:=Nat.lt_of_le_of_lt (Nat.add_le_add_left (by decide:1<=64) _) hr.units
section
variable{X:Cx}
theorem pv(i:Nat){x:Str}{pos:Pos}(hN:X.N[i]?=some x:=by rfl)(hv:Nx X.env.scope x:=by first|exact Or.inl rfl|exact Or.inr (Or.inl rfl)|exact Or.inr (Or.inr rfl))(hd:(x==("__debug__" :Str))=false:=by decide)
  (hcd:(x==("__classdict__" :Str))=false:=by decide):PE X (.Name x pos) (qw i):=F8 hN hv hd hcd
end
theorem Gy{A B:Prop}(h:B):if false=true then A else B:=by
 rw[if_neg PR];exact h
theorem zA{A B:Prop}(h:A):if true=true then A else B:=by
 rw[if_pos rfl];exact h
theorem cg{c A B:Prop}[Decidable c](h1:c->A)(h2:¬c->B):if c then A else B:=by
 by_cases h:c
 .rw[if_pos h]
  exact h1 h
 .rw[if_neg h]
  exact h2 h
def ai(H H':Hp):Prop:=∀b o,H b=some o->H' b=some o
theorem ai.refl (H:Hp):ai H H:=fun _ _ h=>h
theorem ai.trans {H H1 H2:Hp}(a:ai H H1)(b:ai H1 H2):ai H H2:=fun c o h=>b c o (a c o h)
theorem ai.free {H H':Hp}(e:ai H H'){l:PY}(h:H' l=Option.none):H l=Option.none:=by
 cases q:H l with
 |none=>rfl
 |some o=>
  rw[e l o q]at h;cases h
theorem ai.seq {K:W.Frag}{H H':Hp}{a:PY}{xs:List V}(e:ai H H')(h:aI K H a xs):aI K H' a xs:=by
 rcases h with(h|⟨o,h⟩)|h
 .exact .inl (.inl (e _ _ h))
 .exact .inl (.inr ⟨o,e _ _ h⟩)
 .exact .inr h
def eu(cells:List (Str×PY)):List (Str×Qh)->List (Str×PY)->List (Str×PY)
 |[],acc=>acc
 |(n,k)::r,acc=>if(k==Qh.free)=true then(match cells.lookup n with|some c=>eu cells r ((n,c)::acc)|none=>eu cells r acc)else eu cells r acc
theorem pf{env:Env}:∀(ns:List (Str×Qh))(acc:List (Str×PY)),(∀y∈ns,y.2= .free->∃c,env.cells.lookup y.1=some c)->
  (forIn ns acc (fun x cs=>(match x with|(name,kind)=>if(kind==Qh.free)=true then(do let c←cellOf env name;pure (ForInStep.yield ((name,c)::cs)))else pure (ForInStep.yield cs))):Sem (List (Str×PY)))=pure (eu env.cells ns acc)
 |[],acc,_=>rfl
 |(n,k)::r,acc,h=>by
  rw[List.forIn_cons];by_cases hk:(k==Qh.free)=true
  .obtain⟨c,hc⟩:=h (n,k) Pt (by simpa using hk)
   have hc:env.cells.lookup n=some c:=hc;have e:=pf (env:=env) r ((n,c)::acc) fun y hy=>h y (Pu _ hy);simp only[eu,hk,if_true,cellOf,hc,pure_bind];exact e
  .have e:=pf (env:=env) r acc fun y hy=>h y (Pu _ hy)
   have hk:(k==Qh.free)=false:=by simpa using hk
   simp only[eu,hk,Bool.false_eq_true,if_false,pure_bind];exact e
theorem fW{scope:Scope}{env:Env}(h:∀y∈scope.names,y.2= .free->∃c,env.cells.lookup y.1=some c):closureFor scope env=pure (eu env.cells scope.names []):=by
 have e:=pf (env:=env) scope.names [] h;unfold closureFor;simp only[bind_pure]
 first
  |exact e
  |(refine Eq.trans ?_ e;congr 1)
  |(simp only[bind_pure_comp]at e⊢;exact e)
theorem df{cells:List (Str×PY)}:∀{ns:List (Str×Qh)}{acc:List (Str×PY)}{x:Str}{c:PY},(eu cells ns acc).lookup x=some c->acc.lookup x=some c\/cells.lookup x=some c
 |[],acc,x,c,h=> .inl h
 |(n,k)::r,acc,x,c,h=>by
  unfold eu at h
  split at h
  .split at h
   .rename_i q hq
    rcases df h with z|z
    .rw[List.lookup_cons]at z
     cases hx:x==n with
     |true=>
      rw[hx]at z;cases z;have:x=n:=by simpa using hx
      subst this;exact .inr hq
     |false=>
      rw[hx]at z;exact .inl z
    .exact .inr z
   .exact df h
  .exact df h
theorem i5{cells:List (Str×PY)}:∀{ns:List (Str×Qh)}{acc:List (Str×PY)}{x:Str}{c:PY},cells.lookup x=some c->((x,Qh.free)∈ns\/acc.lookup x=some c)->(eu cells ns acc).lookup x=some c
 |[],acc,x,c,hc,h=>h.elim (fun z=>nomatch z) fun z=>z
 |(n,k)::r,acc,x,c,hc,h=>by
  unfold eu
  split
  .rename_i hk
   split
   .rename_i q hq
    refine i5 hc ?_;rcases h with h|h
    .rcases List.mem_cons.mp h with e|h
     .cases e
      rw[hc]at hq;cases hq;exact .inr (by simp)
     .exact .inl h
    .by_cases e:x=n
     .subst e
      rw[hc]at hq;cases hq;exact .inr (by simp)
     .exact .inr (by rw[List.lookup_cons,(by simpa using e:(x==n)=false)];exact h)
   .rename_i hq
    refine i5 hc ?_;rcases h with h|h
    .rcases List.mem_cons.mp h with e|h
     .cases e
      rw[hc]at hq;cases hq
     .exact .inl h
    .exact .inr h
  .rename_i hk
   refine i5 hc ?_;rcases h with h|h
   .rcases List.mem_cons.mp h with e|h
    .cases e
     exact absurd rfl hk
    .exact .inl h
   .exact .inr h
theorem gM{env:Env}:∀{names:List (Str×Qh)}{x:Str},names.lookup x=some .free->
  (names.map fun(n,k)=>if(k==Qh.free&&env.scope.kind== .function&&env.kindOf n==some .cell)then(n,Qh.cell)else(n,k)).lookup x=some .cell\/
  (names.map fun(n,k)=>if(k==Qh.free&&env.scope.kind== .function&&env.kindOf n==some .cell)then(n,Qh.cell)else(n,k)).lookup x=some .free
 |[],_,h=>by simp at h
 |(n,k)::r,x,h=>by
  have ih:= @gM env r x;show List.lookup x ((if(k==Qh.free&&env.scope.kind== .function&&env.kindOf n==some .cell)=true then(n,Qh.cell)else(n,k))::_)=_\/List.lookup x ((if(k==Qh.free&&env.scope.kind== .function&&env.kindOf n==some .cell)=true then(n,Qh.cell)else(n,k))::_)=_
  cases hx:x==n with
  |true=>
   simp only[List.lookup_cons,hx]at h;cases h;by_cases hc:(Qh.free==Qh.free&&env.scope.kind== .function&&env.kindOf n==some .cell)=true
   .rw[if_pos hc];simp[List.lookup_cons,hx]
   .rw[if_neg hc];simp[List.lookup_cons,hx]
  |false=>
   simp only[List.lookup_cons,hx]at h;by_cases hc:(k==Qh.free&&env.scope.kind== .function&&env.kindOf n==some .cell)=true
   .rw[if_pos hc];simp only[List.lookup_cons,hx];exact ih h
   .rw[if_neg hc];simp only[List.lookup_cons,hx];exact ih h
theorem mZ{env:Env}:∀{names:List (Str×Qh)}{x:Str}{q:Qh},(names.map fun(n,k)=>if(k==Qh.free&&env.scope.kind== .function&&env.kindOf n==some .cell)then(n,Qh.cell)else(n,k)).lookup x=some q->
  (∀y∈names,y.2≠.cell)->q= .cell\/q= .free->(x,Qh.free)∈names
 |[],_,_,h,_,_=>by simp at h
 |(n,k)::r,x,q,h,hn,hq=>by
  have ih:= @mZ env r x q;have h:List.lookup x ((if(k==Qh.free&&env.scope.kind== .function&&env.kindOf n==some .cell)=true then(n,Qh.cell)else(n,k))::r.map fun(n,k)=>if(k==Qh.free&&env.scope.kind== .function&&env.kindOf n==some .cell)then(n,Qh.cell)else(n,k))=some q:=h;have nk:k≠.cell:=hn (n,k) Pt;have hn':∀y∈r,y.2≠.cell:=fun y hy=>hn y (Pu _ hy)
  cases hx:x==n with
  |true=>
   have e:x=n:=by simpa using hx
   subst e;by_cases hc:(k==Qh.free&&env.scope.kind== .function&&env.kindOf x==some .cell)=true
   .have:k= .free:=by
     simp only[Bool.and_eq_true]at hc;simpa using hc.1.1
    subst this;exact Pt
   .rw[if_neg hc]at h
    simp only[List.lookup_cons,hx]at h;cases h;rcases hq with z|z
    .exact absurd z nk
    .rw[z];exact Pt
  |false=>
   by_cases hc:(k==Qh.free&&env.scope.kind== .function&&env.kindOf n==some .cell)=true
   .rw[if_pos hc]at h;simp only[List.lookup_cons,hx]at h;exact Pu _ (ih h hn' hq)
   .rw[if_neg hc]at h;simp only[List.lookup_cons,hx]at h;exact Pu _ (ih h hn' hq)
def eN(ix:List (Option Nat))(σ:St):St:=ix.map fun o=>o.bind fun i=>(σ[i]?).join
def qV(X:Cx)(N:List Str)(scope:Scope)(C:PY)(fp:List PY)(s:PZ)(H:Hp):Cx:=
 {X with N:=N,s₀:=s,H₀:=H,env:=compEnvC scope (eu X.env.cells scope.names []) C X.env,outer:=X.stack,stack:=X.stack,ex:=fp,fn:=fun _=>false,xe:=fun _ _=>False}
structure fw(X:Cx)(scope:Scope)(N:List Str)(ix:List (Option Nat)):Prop where
 kind:scope.kind= .function
 w4:∀y∈scope.names,y.2≠.cell
 len:ix.length=N.length
 names:∀y∈scope.names,y.2= .local->scope.names.lookup y.1=some .local
 fr:∀y∈scope.names,y.2= .free->X.env.kindOf y.1=some .cell\/X.env.kindOf y.1=some .free
 OV:∀(j i:Nat),ix[j]?=some (some i)->∃x:Str,N[j]?=some x/\X.N[i]?=some x/\scope.names.lookup x=some .free/\(x,Qh.free)∈scope.names
theorem mem_of_lookup{names:List (Str×Qh)}{x:Str}{k:Qh}(h:names.lookup x=some k):(x,k)∈names:=by
 induction names with
 |nil=>simp at h
 |cons p r ih=>
  obtain⟨n,q⟩:=p;rw[List.lookup_cons]at h
  cases hx:x==n with
  |true=>
   rw[hx]at h;cases h;have:x=n:=by simpa using hx
   subst this;exact Pt
  |false=>rw[hx]at h;exact Pu _ (ih h)
section
variable{X:Cx}{pins:List (PY×Obj)}{σ:St}{H:Hp}{s:PZ}{scope:Scope}{N:List Str}{ix:List (Option Nat)}{fp:List PY}
theorem fw.ok (c:fw X scope N ix)(I:Inv X pins σ H s)(hf:∀b∈fp,kj X pins H b)(hlt:∀b∈fp,b<s.heap.objs.size){C:Nat}(hC:s.heap.objs.size<=C):(qV X N scope C fp s H).Ok where
 mod:=I.ok.mod
 kind:=c.kind
 glob:=I.ok.glob
 blt:=I.ok.blt
 above:=hC
 inj:=fun x y d h1 h2=>by
  have h1:(eu X.env.cells scope.names []).lookup x=some d:=h1;have h2:(eu X.env.cells scope.names []).lookup y=some d:=h2;rcases df h1 with z|z
  .simp at z
  .rcases df h2 with z'|z'
   .simp at z'
   .exact I.ok.inj x y d z z'
 has:=fun x h=>by
  have hm:(x,Qh.free)∈scope.names:=by
   rcases h with h|h
   .exact mZ h c.w4 (.inl rfl)
   .exact mZ h c.w4 (.inr rfl)
  obtain⟨d,hd⟩:=I.ok.has x (c.fr _ hm rfl);exact⟨d,i5 hd (.inl hm)⟩
 DZ:=fun x d h=>by cases h
 hd:=I.ok.hd
 frames:=I.ok.frames
 Dm:= .inl rfl
 HZ:=fun b hb=>by
  refine⟨fun z=>?_,fun x d e z=>?_⟩
  .have z:b=C:=z
   have:=hlt b hb;rw[z]at this;exact absurd (PL this hC) (Nat.lt_irrefl _)
  .rcases df e with q|q
   .simp at q
   .exact(hf b hb).2.2.2.2.1 x d q z
 bs:=fun b o e=>I.bs b o e
 z8:=PN I.ok.z8 I.sz
 qx:=fun b o e hb=>by
  rcases(hf b hb).2.2.2.1 with z|z
  .exact I.ok.qx b o e z
  .exact absurd (PL (Qd.lt_size (I.ok.bs b o e).1) z) (Nat.lt_irrefl _)
 rN:=fun b hb z=>by
  rcases List.mem_cons.mp (I.kC b z)with e|e
  .exact(hf b hb).2.1 e
  .exact(hf b hb).2.2.1 e
 jc:=I.stack
 p7:=I.lT
theorem fw.enter (c:fw X scope N ix)(I:Inv X pins σ H s)(hf:∀b∈fp,kj X pins H b)(ho:∀b∈fp,∃o,s.heap.get? b=some o/\∀v,o.data≠.cell v){C D:Nat}{h':Qd}{t':Nat}{m:Str->Option PX}{oD:Obj}(hC:C=s.heap.objs.size+1)(hD:D=s.heap.objs.size)
  (k:∀b o,s.heap.get? b=some o->h'.get? b=some o) (hn:h'.Ns C m) (hoD:h'.get? D=some oD) (hdD:∀v,oD.data≠.cell v):
  Inv (qV X N scope C fp s H) (pins++[(D,oD)]) (eN ix σ) H {s with heap:=h',toks:=t'}:=by
 have hlt:∀b∈fp,b<s.heap.objs.size:=fun b hb=>let⟨o,e,_⟩:=ho b hb;Qd.lt_size e
 have sub:∀x d,(eu X.env.cells scope.names []).lookup x=some d->X.env.cells.lookup x=some d:=fun x d e=>by
  rcases df e with z|z
  .simp at z
  .exact z
 refine⟨c.ok I hf hlt (by lia),rfl,I.bare,Un.kept k,⟨m,hn,fun j x v e1 e2 e3=>?_⟩,fun x d e=>?_,I.aX.fresh (by show s.heap.objs.size<=C;lia),fun x d e=>I.dZ x d (sub x d e),fun p hp=>?_,I.aX.kept k,?_⟩
 .have e2:(ix.map fun o=>o.bind fun i=>(σ[i]?).join)[j]?=some (some v):=e2
  rw[Pf]at e2
  cases hj:ix[j]? with
  |none=>rw[hj]at e2;cases e2
  |some o=>
   rw[hj]at e2
   cases o with
   |none=>cases e2
   |some i=>
    have e2:some ((σ[i]?).join)=some (some v):=e2;obtain⟨x',a1,a2,a3,a4⟩:=c.OV j i hj;have e1:N[j]?=some x:=e1;rw[e1]at a1;cases a1;have hs:σ[i]?=some (some v):=by
     have z:=PU e2
     cases q:σ[i]? with
     |none=>rw[q]at z;cases z
     |some w=>rw[q]at z;have z:w=some v:=z;rw[z]
    have kx:=c.fr _ a4 rfl;obtain⟨m0,hn0,hl0⟩:=I.loc;obtain⟨u,r,l⟩:=hl0 i x v a2 hs (kx.elim (fun z=> .inr (.inl z)) fun z=> .inr (.inr z));refine⟨u,r,.inr ⟨?_,?_⟩⟩
    .exact gM (env:=X.env) a3
    .rcases l with⟨z,_⟩|⟨_,d,hd,hcell⟩
     .rcases kx with q|q<;>rw[q]at z<;>cases z
     .refine⟨d,i5 hd (.inl a4),?_⟩
      obtain⟨o,ho,hdt⟩:=hcell;exact⟨o,k d o ho,hdt⟩
 .obtain⟨v,o,ho,hdt⟩:=I.cell x d (sub x d e)
  exact⟨v,o,k d o ho,hdt⟩
 .have nstk:∀b,b≠X.env.locals->b∉X.fs->b∉fo X.stack:=fun b h1 h2 z=>by
   rcases List.mem_cons.mp (I.kC b z)with e|e
   .exact h1 e
   .exact h2 e
  have old:∀p∈X.pn++pins,h'.get? p.1=some p.2/\H p.1=none/\p.1≠C/\p.1∉fo X.stack/\∀v,p.2.data≠.cell v:=fun p hp=>by
   obtain⟨a1,a2,a3,a4,a5⟩:=I.pin p hp;have: @LT.lt Nat _ p.1 s.heap.objs.size:=Qd.lt_size a1;exact⟨k _ _ a1,a2,PM (by rw[hC];exact Nat.lt_succ_of_lt this),nstk _ a3 a4,a5⟩
  have hp:p∈X.pn++(pins++[(D,oD)]):=hp;rcases List.mem_append.mp hp with z|z
  .exact old p (Py _ z)
  .rcases List.mem_append.mp z with z|z
   .exact old p (Px _ z)
   .have e:p=(D,oD):=by simpa using z
    subst e;have lt: @LT.lt Nat _ X.env.locals s.heap.objs.size:=I.lt;refine⟨hoD,I.aX.fresh (by show s.heap.objs.size<=D;lia),(by show(D:Nat)≠C;lia),nstk D (Nat.ne_of_gt (by rw[hD];exact lt)) (I.LQ (by lia)),hdD⟩
 .show(ix.map _).length=N.length
  rw[Pe,c.len]
theorem fw.leave (c:fw X scope N ix)(I:Inv X pins σ H s)(hf:∀b∈fp,kj X pins H b){C D:Nat}{σ':St}{H':Hp}{s':PZ}{ys:List V}{its:List PX}{n:Nat}{pl:List (PY×Obj)}(hC:C=s.heap.objs.size+1)(hD:D=s.heap.objs.size)
  (I':Inv (qV X N scope C fp s H) (pl++[(D,{cls:= .type "list",data:= .seq its.toArray n})]) σ' H' s') (rv:Vals ys its) (hz:ys.length<=P6):
  Inv X pins σ (upd H' D (.lst ys)) s':=by
 have pD:=I'.pin (D,_) (Px _ (Px _ Pt));have hDn:H' D=none:=pD.2.1;have u:Un (fo X.stack) fp H H' s.heap s'.heap:=I'.base;have hlt:∀b o,s.heap.get? b=some o->b≠D:=fun b o e=>PM (by have: @LT.lt Nat _ b s.heap.objs.size:=Qd.lt_size e;rw[hD];exact this);refine I.EW (ch:=fp) I'.os ?_ ?_ I'.bare fun b hb=>?_
 .refine⟨u.keep,u.slot,fun b o e n hx=>by rw[ao (hlt b o e)];exact u.free b o e n hx,u.there,fun b xs e=>?_,fun b o w e=>?_,fun b ps e=>?_⟩
  .have e':=u.fD b xs e
   rw[ao (au e' hDn)];exact e'
  .have e':=u.jk b o w e
   rw[ao (au e' hDn)];exact e'
  .obtain⟨more,e'⟩:=u.jI b ps e
   exact⟨more,by rw[ao (au e' hDn)];exact e'⟩
 .intro b o e
  by_cases hb:b=D
  .subst hb
   rw[af]at e;cases e;exact⟨hz,its,n,rv,pD.1⟩
  .rw[ao hb]at e
   refine(I'.aX b o e).kg (fun _ _ _ q=>q) (fun a q=>?_) fun a xs q=>?_
   .rw[ao (au q hDn)];exact q
   .rw[ao (au q hDn)];exact q
 .obtain⟨f0,f1,f2,f3,f4,f5⟩:=hf b hb
  exact⟨f3,f1,f4,f5⟩
end
section
variable{prog:P0}{w:P4}{A:P5}{R:Result->PZ->Prop}{s:PZ}
theorem xc{elt target iter:Expr}{ifs:List Expr}{scope:Scope}{pos:Pos}{it acc:PX}{env:Env}(I:Nat->PZ->Prop)
  (turn:∀n s,I n s->Qf (model prog w) A (pyNext it) (fun r s₁=>match r with
   |none=>R (.ok .next) s₁
   |some v=>Qf (model prog w) A (letOwnedTupleGo target it v) (fun _ s₁=>Qf (model prog w) A (assign target env v) (fun _ s₂=>
     Qf (model prog w) A (forIn ifs true fun c r=>if r=true then do let ok←isTrue c env (eval c env);pure (ForInStep.yield ok)else pure (ForInStep.yield r)) (fun ok s₃=>
      if ok=true then Qf (model prog w) A (eval elt env) (fun x s₄=>
       Qf (model prog w) A (call (.builtin "list.append") [acc,x]) (fun _ s₅=>∃m,m<n/\I m s₅) (fun _ _=>False) s₄) (fun _ _=>False) s₃
      else∃m,m<n/\I m s₃) (fun _ _=>False) s₂) (fun _ _=>False) s₁) (fun _ _=>False) s₁) (fun _ _=>False) s)
  (n:Nat) (h:I n s):
  codeAny (model prog w) A (.compLoop (.ListComp elt [⟨target,iter,ifs,0⟩] scope pos) 0 it acc env) R s:=by
 refine codeAny_loop rfl I (fun n s hI=>?_) n h;show Qf _ A ((compTurn (.ListComp elt [⟨target,iter,ifs,0⟩] scope pos) 0 it acc env).onRaise (fun x=>do noteFrame x env;theTreesLotGoes x)) _ _ s;refine wpAny_noted ?_;rw[compTurn_list];refine P8 (wpAny_standAt (P8 (Qa (turn n s hI) (fun r s₁ h₁=>?_) fun _ _ h'=>h'.elim)))
 cases r with
 |none=>exact P9 h₁
 |some v=>
  refine P8 (Qa h₁ (fun _ s₁ h₁=>?_) fun _ _ h'=>h'.elim);refine P8 (Qa h₁ (fun _ s₂ h₂=>P8 (Qa h₂ (fun ok s₃ h₃=>?_) fun _ _ h'=>h'.elim)) fun _ _ h'=>h'.elim)
  cases ok with
  |false=>exact P9 ⟨rfl,h₃⟩
  |true=>
   refine P8 (P8 (Qa h₃ (fun x s₄ h₄=>P8 (Qa h₄ (fun _ s₅ h₅=>?_) fun _ _ h'=>h'.elim)) fun _ _ h'=>h'.elim));exact P9 (P9 ⟨rfl,h₅⟩)
end
def IU(X:Cx)(cs:List Expr)(t:TT):Prop:=
 ∀(pins:List (PY×Obj))(s:PZ)(σ:St)(H:Hp)(Q:Bool->Hp->Prop),Inv X pins σ H s->t σ H Q->
  Qf (model X.prog X.w) X.A (forIn cs true fun c r=>if r=true then do let ok←isTrue c X.env (eval c X.env);pure (ForInStep.yield ok)else pure (ForInStep.yield r)) (TP X pins σ Q) X.xe s
def i7:TT:=fun _ H Q=>Q true H
theorem bq{X:Cx}:IU X [] i7:=fun _ _ _ H _ I h=>wpAny_tests_nil ⟨H,I,h⟩
theorem qL{X:Cx}{c:Expr}{t:TT}(h:PT X c t):IU X [c] t:=fun pins s σ H Q I q=>wpAny_tests_one (h pins s σ H Q I q)
abbrev WC:=Nat->Nat->List V->St->Hp->Prop
def jg(ix:List (Option Nat))(g:TG)(tc:TT)(te:TE)(σ:St)(Q:VK)(J:It)(H1:Hp):Prop:=
 ∃W:WC,(∃m,W 0 m [] (eN ix σ) H1)/\∀i m ys σ' H',W i m ys σ' H'->
  (J.stop i H'/\ys.length<=P6/\∀p,H' p=none->Q (.ref p) (upd H' p (.lst ys)))\/
  (J.go i H'/\ys.length<P6/\∀x H2,J.Hs i H' x H2->g x σ' H2 fun σ2 H3=>tc σ2 H3 fun b H4=>
   if b=true then te σ2 H4 fun v H5=>∃m',m'<m/\W (i+1) m' (ys++[v]) σ2 H5 else∃m',m'<m/\W (i+1) m' ys σ2 H4)
def yB(ix:List (Option Nat))(wi:TI)(g:TG)(tc:TT)(te:TE):TE:=fun σ H Q=>wi σ H (jg ix g tc te σ Q)
section
variable{X:Cx}{scope:Scope}{N:List Str}{ix:List (Option Nat)}{elt tg iter:Expr}{ifs:List Expr}{g:TG}{tc:TT}{te:TE}{pos:Pos}
theorem rY{pins:List (PY×Obj)}{σ:St}{s2:PZ}{Q:VK}{itv:PX}{RR:PX->PY->Result->PZ->Prop}{E:PX->PZ->Prop}(c:fw X scope N ix)(hc:X.calm=true)
  (hg:∀C fp s H,PG (qV X N scope C fp s H) tg g) (ht:∀C fp s H,IU (qV X N scope C fp s H) ifs tc) (he:∀C fp s H,PE (qV X N scope C fp s H) elt te)
  (h2:Nl X pins σ tg (jg ix g tc te σ Q) itv s2)
  (hR:∀(D C:PY)(s':PZ)(H':Hp)(m:Str->Option PX),Inv X pins σ H' s'->s'.heap.Ns C m->H' C=none->X.s₀.heap.objs.size<=C->(∀p∈X.pn++pins,p.1≠C)->C≠X.env.locals->(∀x c,X.env.cells.lookup x=some c->c≠C)->Q (.ref D) H'->RR (.ref D) C (.ok .next) s'):
  Qf (model X.prog X.w) X.A (newList []) (fun acc s₃=>Qf (model X.prog X.w) X.A (newFunctionEnv scope X.env.globals (eu X.env.cells scope.names []) [] X.env.qual none .none (some X.env)) (fun cenv s₄=>
   codeAny (model X.prog X.w) X.A (.compStart (.ListComp elt [⟨tg,iter,ifs,0⟩] scope pos) 0 itv acc {cenv with scope:=relabel scope X.env}) (RR acc cenv.locals) s₄) E s₃) E s2:=by
 obtain⟨it,fp,tn,J,H2,rfl,I2,T,st2,f2,W,⟨m0,w0⟩,turn⟩:=h2;refine wpAny_newObj_type (wpAny_newFunctionEnv c.w4 (by intro y hy;simp at hy) (fun h₁ hns₁ hsb₁=>?_) c.kind);dsimp only at hns₁ hsb₁⊢;generalize hH2:s2.heap.push {cls:= .type "list",dict:=none,data:= .seq ([]:List PX).toArray}=G2 at hns₁ hsb₁⊢;have hCs:G2.objs.size=s2.heap.objs.size+1:=by rw[←hH2,Qd.size_push]
 generalize hCe:G2.objs.size=C at hns₁ hsb₁ hCs⊢;generalize hDe:s2.heap.objs.size=D at hCs⊢;have ltC:∀b,@LT.lt Nat _ b D->b≠C:=fun b hb=>PM (by rw[hCs];exact Nat.lt_succ_of_lt hb);have ltS:∀b o,s2.heap.get? b=some o->@LT.lt Nat _ b D:=fun b o e=>by rw[←hDe];exact Qd.lt_size e
 have hDC:D≠C:=PM (by rw[hCs];exact Nat.lt_succ_self _);have old:∀b o,s2.heap.get? b=some o->h₁.get? b=some o:=fun b o e=>hsb₁.extBut b o (ltC b (ltS b o e)) (Qd.get?_push_of_some _ (hH2▸Qd.get?_push_of_some _ e));have hoD:h₁.get? D=some {cls:= .type "list",dict:=none,data:= .seq ([]:List PX).toArray}:=by
  refine hsb₁.extBut _ _ hDC (Qd.get?_push_of_some _ ?_);rw[←hH2,←hDe];exact Qd.get?_push_size _ rfl
 have I4:Inv (qV X N scope C fp s2 H2) (pins++[(D,{cls:= .type "list",data:= .seq ([]:List PX).toArray})]) (eN ix σ) H2 {s2 with heap:=h₁,toks:=s2.toks+([]:List (Str×PX)).length}:=
  c.enter I2 f2 (T.obj _ _ st2) (by rw[hCs,hDe]) hDe.symm old hns₁ hoD fun v z=>by cases z
 have st4:tn 0 h₁:=T.keep _ _ _ st2 fun b _ o e=>old b o e;have pinD:∀p∈X.pn++pins,p.1≠D:=fun p hp=>PM (ltS _ _ (I2.pin p hp).1);have pinC:∀p∈X.pn++pins,p.1≠C:=fun p hp=>ltC _ (ltS _ _ (I2.pin p hp).1);have celD:∀x d,X.env.cells.lookup x=some d->@LT.lt Nat _ d D:=fun x d e=>by
  obtain⟨v,o,ho,_⟩:=I2.cell x d e;exact ltS d o ho
 have fpD:∀b∈fp,@LT.lt Nat _ b D:=fun b hb=>by
  obtain⟨o,e,_⟩:=T.obj _ _ st2 b hb;exact ltS b o e
 have sub:∀x d,(eu X.env.cells scope.names []).lookup x=some d->X.env.cells.lookup x=some d:=fun x d e=>by
  rcases df e with z|z
  .simp at z
  .exact z
 have stat:∀{H':Hp}{oD:Obj},(∀b∈fp,H' b=none)->∀b∈fp,kj (qV X N scope C fp s2 H2) (pins++[(D,oD)]) H' b:=fun{H' oD} hn b hb=>by
  obtain⟨f0,f1,f2,f3,f4,f5⟩:=f2 b hb;refine⟨hn b hb,ltC b (fpD b hb),fun z=>?_,.inl hb,fun x d e=>f4 x d (sub x d e),fun p hp=>?_⟩
  .rcases List.mem_cons.mp (I2.kC b z)with e|e
   .exact f1 e
   .exact f2 e
  .have hp:p∈X.pn++(pins++[(D,oD)]):=hp
   rw[←PF]at hp;rcases List.mem_append.mp hp with z|z
   .exact f5 p z
   .have e:p=(D,oD):=by simpa using z
    subst e;exact Nat.ne_of_gt (fpD b hb)
 have loop:∀s3:PZ,s3={s2 with heap:=h₁,toks:=s2.toks+([]:List (Str×PX)).length}->
   codeAny (model X.prog X.w) X.A (.compLoop (.ListComp elt [⟨tg,iter,ifs,0⟩] scope pos) 0 (.ref it) (.ref D) (qV X N scope C fp s2 H2).env) (RR (.ref D) C) s3:=by
  rintro s3 rfl;refine xc (fun n s'=>∃i σ' H' ys its k,Inv (qV X N scope C fp s2 H2) (pins++[(D,{cls:= .type "list",data:= .seq (List.toArray its) k})]) σ' H' s'/\tn i s'.heap/\(∀b∈fp,H' b=none)/\Vals ys its/\W i n ys σ' H') ?_ m0
   ⟨0,_,H2,[],[],_,I4,st4,fun b hb=>(f2 b hb).1,.nil,w0⟩
  rintro n s3 ⟨i,σ3,H3,ys,its,k,I3,st3,fr3,rv,w3⟩;rcases turn i n ys σ3 H3 w3 with⟨stop,hz,qn⟩|⟨go,hz,step⟩
  .refine bf (T.done (qV X N scope C fp s2 H2) rfl rfl rfl hc i _ s3 σ3 H3 _ I3 (stat fr3) st3 stop) fun r s4 ⟨hr,I4⟩=>?_
   subst hr;have hDn:H3 D=none:=(I3.pin (D,_) (Px _ (Px _ Pt))).2.1;obtain⟨m4,hn4,_⟩:=id I4.loc;refine hR D C s4 _ m4 (c.leave I2 f2 (by rw[hCs,hDe]) hDe.symm I4 rv hz) hn4 ?_ ?_ pinC ?_ (fun x d e=>ltC d (celD x d e)) (qn D hDn)
   .rw[ao hDC.symm];exact I4.free
   .refine PN I2.sz ?_
    rw[hDe,hCs];exact Nat.le_succ _
   .refine Nat.ne_of_gt (PL I2.lt ?_)
    rw[hDe,hCs];exact Nat.le_succ _
  .refine bf (T.item (qV X N scope C fp s2 H2) rfl rfl rfl hc i _ s3 σ3 H3 _ I3 (stat fr3) st3 go) fun r s4 ⟨u,hr,h4⟩=>?_
   subst hr;refine bf h4 fun _ s5 ⟨x,H5,I5,r5,y5,st5,fr5⟩=>?_;have I5':=I5.pinned (stat fr5) (T.obj _ _ st5);refine bf (hg C fp s2 H2 _ s5 σ3 H5 x u _ I5' r5 (step x H5 y5)) fun _ s6 ⟨σ6,H6,I6,q6⟩=>?_;refine bf (ht C fp s2 H2 _ s6 σ6 H6 _ I6 q6) fun ok s7 ⟨H7,I7,q7⟩=>?_;have keep:∀{s':PZ}{σ':St}{H':Hp},Inv (qV X N scope C fp s2 H2) ((pins++[(D,{cls:= .type "list",data:= .seq its.toArray k})])++o8 fp s5.heap) σ' H' s'->tn (i+1) s'.heap/\∀b∈fp,H' b=none:=fun{s' σ' H'} I'=>by
    refine⟨T.keep _ _ _ st5 fun b hb o e=>(I'.pin (b,o) (Px _ (Px _ (fC hb e)))).1,fun b hb=>?_⟩;obtain⟨o,e,d⟩:=T.obj _ _ st5 b hb;exact(I'.pin (b,o) (Px _ (Px _ (fC hb e)))).2.1
   cases ok with
   |false=>
    rw[if_neg PR];rw[if_neg PR]at q7;obtain⟨m',hm,w7⟩:=q7;obtain⟨k1,k2⟩:=keep I7;exact⟨m',hm,i+1,σ6,H7,ys,its,k,I7.eB,k1,k2,rv,w7⟩
   |true=>
    rw[if_pos rfl];rw[if_pos rfl]at q7;refine bf (he C fp s2 H2 _ s7 σ6 H7 _ I7 q7) fun y s8 ⟨v,H8,I8,r8,m',hm,w8⟩=>?_;obtain⟨k1,k2⟩:=keep I8;have pD:=I8.pin (D,_) (Px _ (Py _ (Px _ Pt)));have I8u:=I8.eB;have I8v:Inv (qV X N scope C fp s2 H2) pins σ6 H8 s8:=I8u.eB;have len:=rv.length;refine wpAny_list_append_plain (items:=its.toArray) (hsz:=by simp;lia) ⟨k,pD.1⟩ fun h9 hl9 hs9=>?_;obtain⟨k9,e9⟩:=hl9;have I9:Inv (qV X N scope C fp s2 H2) pins σ6 H8 {s8 with heap:=h9}:=by
     refine I8v.turned (t':=s8.toks) (it:=D) (fun b o hb e=>hs9.extBut b o hb e) pD.2.1 hDC (.inr ?_) (fun x d e=>PM (celD x d (sub x d e))) fun p hp=>?_
     .show s2.heap.objs.size<=D
      rw[hDe];exact PK _
     .exact pinD p hp
    have e9':h9.get? D=some {cls:= .type "list",data:= .seq (its++[y]).toArray k9}:=by
     rw[e9];simp
    refine⟨m',hm,i+1,σ6,H8,ys++[v],its++[y],k9,I9.qT fun p hp=>?_,T.keep _ _ _ k1 fun b hb o e=>hs9.extBut b o (PM (fpD b hb)) e,k2,rv.append (.cons r8 .nil),w8⟩;rcases List.mem_append.mp hp with z|z
    .exact I9.pin p (Px _ z)
    .have e:p=(D,{cls:= .type "list",data:= .seq (its++[y]).toArray k9}):=by simpa using z
     subst e;exact⟨e9',pD.2.1,pD.2.2.1,pD.2.2.2.1,fun v z=>by cases z⟩
 exact codeAny_compStart_list (loop _ rfl) (T.self _ 0 _ _ _ st4 (loop _ rfl))
variable{wi:TI}
theorem bU(c:fw X scope N ix)(hc:X.calm=true)(hi:PI X tg iter wi)(hg:∀C fp s H,PG (qV X N scope C fp s H) tg g)(ht:∀C fp s H,IU (qV X N scope C fp s H) ifs tc)(he:∀C fp s H,PE (qV X N scope C fp s H) elt te)
  (hs:∀x,foldedSetIterable iter X.env x=pure x:=by intro _;rfl):PE X (.ListComp elt [⟨tg,iter,ifs,0⟩] scope pos) (yB ix wi g tc te):=by
 intro pins s σ H Q I h;rw[eval_ListComp];have hcl:∀y∈scope.names,y.2=Qh.free->∃d,X.env.cells.lookup y.1=some d:=fun y hy e=>I.ok.has _ (c.fr y hy e);refine wpAny_comprehension_free (use:=none) rfl hs (fW hcl) c.kind c.names (bf (hi pins s σ H _ I h) fun v s1 h1=>bf h1 fun itv s2 h2=>?_);refine rY (RR:=fun acc C=>compPost (model X.prog X.w) X.A X.xe none (EP X pins σ Q) acc C) c hc hg ht he h2 ?_;intro D C s' H' m I' hn hC hz hp hL hcells q;exact⟨m,hn,fun h' hs'=>⟨.ref D,H',I'.turned (t':=s'.toks) (fun b o hb e=>hs'.extBut b o hb e) hC hL (.inr hz) hcells hp,rfl,q⟩⟩
theorem lZ{i:Nat}{x:Str}{px spos:Pos}(hN:X.N.Nodup)(hx0:X.N[i]?=some x)(hx:X.env.scope.names.lookup x=some .local)(c:fw X scope N ix)(hc:X.calm=true)(hi:PI X tg iter wi)(hg:∀C fp s H,PG (qV X N scope C fp s H) tg g)(ht:∀C fp s H,IU (qV X N scope C fp s H) ifs tc)(he:∀C fp s H,PE (qV X N scope C fp s H) elt te)
  (hsw:swapsWith (.ListComp elt [⟨tg,iter,ifs,0⟩] scope pos) (some (.Name x px)) spos.line X.env=pure true:=by rfl)
  (hs:∀x,foldedSetIterable iter X.env x=pure x:=by intro _;rfl):PS X (.Assign [.Name x px] (.ListComp elt [⟨tg,iter,ifs,0⟩] scope pos) spos) (Ae (yB ix wi g tc te) (cT i)):=by
 intro pins s σ H D0 I h;rw[exec_Assign_Name_used _ _ _ _ hsw];refine P8 (wpAny_standAt (P8 ?_));show Qf _ _ (do let _←comprehension (.ListComp elt [⟨tg,iter,ifs,0⟩] scope pos) scope X.env _ (newList []) false (eval iter X.env) (some (assign (.Name x px) X.env))) _ _ s;have hcl:∀y∈scope.names,y.2=Qh.free->∃d,X.env.cells.lookup y.1=some d:=fun y hy e=>I.ok.has _ (c.fr y hy e);refine P8 (Qa (wpAny_comprehension_free (use:=some (assign (.Name x px) X.env)) (Q:=fun _ s'=>SP X pins D0 .next s') rfl hs (fW hcl) c.kind c.names
  (bf (hi pins s σ H _ I h) fun v s1 h1=>bf h1 fun itv s2 h2=>?_)) (fun _ s' hq=>P9 (P9 hq)) fun _ _ e=>e)
 refine rY (RR:=fun acc C=>compPost (model X.prog X.w) X.A X.xe (some (assign (.Name x px) X.env)) (fun _ s'=>SP X pins D0 .next s') acc C) c hc hg ht he h2 ?_;intro D C s' H' m I' hn hC hz hp hL hcells q;show Qf _ _ (assign (.Name x px) X.env (.ref D)) _ _ _;refine wpAny_assign_Name (oO (v:= .ref D) I' hN hx0 (.inl hx) rfl (fun s'' I'' hsb=>?_) (.inr hx));obtain⟨a,sb,ha⟩:=hsb;have haC:a≠C:=by
  rcases ha with e|e
  .rw[e];exact hL.symm
  .exact hcells x a e
 refine⟨m,hn.sameBut sb haC.symm,fun h' hs'=>⟨_,H',I''.turned (t':=s''.toks) (fun b o hb e=>hs'.extBut b o hb e) hC hL (.inr hz) hcells hp,q⟩⟩
end
mutual
inductive Dat(K:W.Frag)(H:Hp)(P:PY->Prop):V->PyData->Prop
 |cE:Dat K H P .cE .none
 |bl (b:Bool):Dat K H P (.bl b) (.bool b)
 |int (i:Int):Dat K H P (.int i) (.int i)
 |str (x:Str):Dat K H P (.str x) (.str x)
 |lst {a:PY} {vs:List V} {ds:List PyData}:aI K H a vs->P a->DatAll K H P vs ds->Dat K H P (.ref a) (.list ds)
 |tup {a:PY} {vs:List V} {ds:List PyData}:gL K H a vs->P a->DatAll K H P vs ds->Dat K H P (.ref a) (.tuple ds)
inductive DatAll(K:W.Frag)(H:Hp)(P:PY->Prop):List V->List PyData->Prop
 |nil:DatAll K H P [] []
 |cons {v:V} {d:PyData} {vs:List V} {ds:List PyData}:Dat K H P v d->DatAll K H P vs ds->DatAll K H P (v::vs) (d::ds)
end
def C5(P:PY->Prop)(H H':Hp):Prop:=∀b o,P b->H b=some o->H' b=some o
theorem C5.Pb {P:PY->Prop}{H H':Hp}{K:W.Frag}{a:PY}{xs:List V}(k:C5 P H H')(p:P a)(h:aI K H a xs):aI K H' a xs:=by
 rcases h with(h|⟨o,h⟩)|h
 .exact .inl (.inl (k _ _ p h))
 .exact .inl (.inr ⟨o,k _ _ p h⟩)
 .exact .inr h
theorem C5.Pc {P:PY->Prop}{H H':Hp}{K:W.Frag}{a:PY}{xs:List V}(k:C5 P H H')(p:P a)(h:gL K H a xs):gL K H' a xs:=by
 rcases h with(h|⟨o,h⟩)|h
 .exact .inl (.inl (k _ _ p h))
 .exact .inl (.inr ⟨o,k _ _ p h⟩)
 .exact .inr h
section
variable{X:Cx}{pins:List (PY×Obj)}{σ:St}{H:Hp}{s:PZ}
mutual
theorem Inv.reads {P:PY->Prop}(I:Inv X pins σ H s):∀{v:V}{d:PyData}{u:PX},Dat X.K H P v d->RelV v u->∃as,Reads s.heap u d as
 |_,_,u,.cE,r=>by cases(show u=PX.none from r);exact⟨_,.none⟩
 |_,_,u,.bl b,r=>by cases(show u=PX.bool b from r);exact⟨_,.bool b⟩
 |_,_,u,.int i,r=>by obtain⟨t,rfl⟩:=(show∃t,u=PX.int i t from r);exact⟨_,.int i t⟩
 |_,_,u,.str x,r=>by obtain⟨t,rfl⟩:=(show∃t,u=PX.str x t from r);exact⟨_,.str x t⟩
 | .ref a,_,u,.lst h p rs,r=>by
  cases(show u=PX.ref a from r);obtain⟨its,rv,⟨o,n,e,c,_,d⟩,_⟩:=I.list h;obtain⟨as,q⟩:=Inv.readsAll I rs rv;exact⟨_,.list e c d (by simpa using q)⟩
 | .ref a,_,u,.tup h p rs,r=>by
  cases(show u=PX.ref a from r);obtain⟨its,rv,⟨o,e,c,n,d⟩,_⟩:=I.tuple h;obtain⟨as,q⟩:=Inv.readsAll I rs rv;exact⟨_,.tuple e c d (by simpa using q)⟩
theorem Inv.readsAll {P:PY->Prop}(I:Inv X pins σ H s):∀{vs:List V}{ds:List PyData}{us:List PX},DatAll X.K H P vs ds->Vals vs us->∃as,ReadsAll s.heap us ds as
 |_,_,_,.nil,r=>by cases r;exact⟨_,.nil⟩
 |_,_,_,.cons h rs,r=>by
  cases r with
  |cons r1 r2=>
   obtain⟨as,q⟩:=Inv.reads I h r1;obtain⟨bs,q'⟩:=Inv.readsAll I rs r2;exact⟨_,.cons q q'⟩
end
def Gw(K:W.Frag):R2:=fun x y H Q=>∃P dx dy,Dat K H P x dx/\Dat K H P y dy/\dx.canLay0=true/\dy.canLay0=true/\dx.depth<=60/\Q (.bl (PyData.eqv dx dy)) H
def J6(K:W.Frag):R2:=fun x y H Q=>∃P dx dy,Dat K H P x dx/\Dat K H P y dy/\dx.canLay0=true/\dy.canLay0=true/\dx.depth<=60/\Q (.bl (!PyData.eqv dx dy)) H
theorem wV(hu:X.A.units+64<cLine):kK X (compareOp .Eq) (Gw X.K):=by
 intro pins s σ H x y v u Q I rx ry h;obtain⟨P,dx,dy,hx,hy,lx,ly,dd,q⟩:=h;obtain⟨as,qa⟩:=I.reads hx rx;obtain⟨bs,qb⟩:=I.reads hy ry;exact SeqAt.compareEq_reads qa qb lx ly (by lia) ⟨.bl _,H,I,rfl,q⟩
theorem KG(hu:X.A.units+64<cLine):kK X (compareOp .NotEq) (J6 X.K):=by
 intro pins s σ H x y v u Q I rx ry h;obtain⟨P,dx,dy,hx,hy,lx,ly,dd,q⟩:=h;obtain⟨as,qa⟩:=I.reads hx rx;obtain⟨bs,qb⟩:=I.reads hy ry;exact SeqAt.compareNe_reads qa qb lx ly (by lia) ⟨.bl _,H,I,rfl,q⟩
def JT:List V->Hp->VK->Prop:=fun xs H Q=>(∃j,xs=[.int j]/\∀p,H p=none->Q (.ref p) (upd H p (.w9 0 j)))\/∃i j,xs=[.int i,.int j]/\∀p,H p=none->Q (.ref p) (upd H p (.w9 i j))
theorem sY:bZ X (.type "range") JT:=by
 intro pins s σ H xs us Q I r h;rcases h with⟨j,rfl,q⟩|⟨i,j,rfl,q⟩
 .obtain⟨u,rfl,t,rfl⟩:=vals1 r
  refine call_range_1 ⟨.ref s.heap.objs.size,_,I.laid (o:= .w9 0 j) (fun b o e=>Qd.get?_push_of_some _ e) (PK _) ⟨_,_,_,Qd.get?_push_size _ rfl⟩,rfl,q _ (I.aX.fresh (PK _))⟩
 .obtain⟨u,u',rfl,⟨t,rfl⟩,⟨t',rfl⟩⟩:=vals2 r
  refine call_range_2 ⟨.ref s.heap.objs.size,_,I.laid (o:= .w9 i j) (fun b o e=>Qd.get?_push_of_some _ e) (PK _) ⟨_,_,_,Qd.get?_push_size _ rfl⟩,rfl,q _ (I.aX.fresh (PK _))⟩
def cZ(lo hi:Int):List Int:=(List.range (hi-lo).toNat).map fun(i:Nat)=>lo+(i:Int)
theorem aO(lo hi:Int):(cZ lo hi).length=(hi-lo).toNat:=by simp[cZ]
theorem sJ{lo:Int}{n:Nat}{acc:Array PX}(h:ItemsOf (fun i v=>∃t,v= .int (lo+i*1) t) acc n):Vals (((List.range n).map fun(i:Nat)=>lo+(i:Int)).map V.int) acc.toList:=by
 obtain⟨h1,h2⟩:=h;have key:∀(l:List PX)(k:Nat),(∀(j:Nat)(v:PX),l[j]?=some v->∃t,v=PX.int (lo+((k+j:Nat):Int)*1) t)->Vals ((List.range' k l.length).map fun(i:Nat)=>V.int (lo+(i:Int))) l:=by
  intro l
  induction l with
  |nil=>intro k _;exact .nil
  |cons v r ih=>
   intro k hk;rw[Pl,List.range'_succ,Pm];refine .cons ?_ (ih (k+1) fun j v hj=>?_)
   .obtain⟨t,e⟩:=hk 0 v rfl
    refine⟨t,?_⟩;rw[e];simp
   .obtain⟨t,e⟩:=hk (j+1) v (by simpa using hj)
    refine⟨t,?_⟩;rw[e];congr 2;simp;lia
 have:=key acc.toList 0 fun j v hj=>by
  have:=h2 j v (by simpa using hj);simpa using this
 rw[Pp];rw[List.range_eq_range'];have e:acc.toList.length=n:=by simpa using h1
 rw[e]at this;exact this
theorem yo{i j:Int}:Qi.Range.rangeSize i j 1=(((j-i).toNat:Nat):Int):=by
 rw[rangeSize_one];split<;>lia
def Gu:List V->Hp->VK->Prop:=fun xs H Q=>∃p i j,xs=[.ref p]/\H p=some (.w9 i j)/\-1000000<=i/\i<=1000000/\-1000000<=j/\j<=1000000/\∀l,H l=none->Q (.ref l) (upd H l (.lst ((cZ i j).map V.int)))
theorem size_le{i j:Int}(h1: -1000000<=i)(h2:i<=1000000)(h3: -1000000<=j)(h4:j<=1000000):(j-i).toNat<=2^24:=by
 have:(j-i).toNat<=2000000:=by lia
 exact PN this (by decide)
theorem t7(hc:X.calm=true):bZ X (.type "list") Gu:=by
 intro pins s σ H xs us Q I r h;obtain⟨p,i,j,rfl,hp,h1,h2,h3,h4,q⟩:=h;obtain⟨u,rfl,rx⟩:=vals1 r;cases rx;obtain⟨t,t',t'',e⟩:=(show bF X.prog X.w H s.heap p (.w9 i j)from I.aX p _ hp);refine call_list_range (I.ok.hd hc) e (small_one (by lia) (by lia) (by lia) (by lia)) yo (size_le h1 h2 h3 h4) fun h' tk acc' c' k e' it=>?_;have v:=sJ it;refine⟨.ref s.heap.objs.size,_,I.laid (o:= .lst ((cZ i j).map V.int)) k (PK _) ⟨?_,acc'.toList,c',v,by simpa using e'⟩,rfl,q _ (I.aX.fresh (PK _))⟩;rw[Pe,aO];exact PN (size_le h1 h2 h3 h4) (by decide)
end
section
variable{prog:P0}{w:P4}{A:P5}{E:PX->PZ->Prop}{s:PZ}
theorem t6{Q:List PX->PZ->Prop}{r:PY}{a b c:Int}{t u v:Tok}{n:Nat}(hh:A.handled=none)(hr:IsRange s.heap r a b c t u v)(hsmall:Qi.Range.small a b c=true)
  (hn:Qi.Range.rangeSize a b c=n) (hlen:n<=2^24)
  (hQ:∀h' tk acc,(∀b o,s.heap.get? b=some o->h'.get? b=some o)->ItemsOf (fun i v=>∃t,v= .int (a+i*c) t) acc n->Q acc.toList {s with heap:=h',toks:=tk}):
  Qf (model prog w) A (collect (.ref r)) Q E s:=by
 unfold collect;refine P8 (wpAny_runValue (codeAny_builtin F.entry_proto_collect ?_));rw[P5.under_plainId F.plain_proto_collect _];show Qf _ A.in1 (newList []>>=fun l=>again (.builtin "list.__iadd__" ⟨[l,.ref r],[]⟩)) _ _ s;refine P8 (wpAny_newObj_type ?_);refine P9 ⟨plainId_quiet F.plain_list_iadd _,codeAny_builtin F.entry_list_iadd ?_⟩;rw[P5.under_plainId F.plain_list_iadd _];show Qf _ A.in1 (Qi.List.listExtendWith (.ref s.heap.objs.size) (.ref r) (.ref s.heap.objs.size)) _ _ _;have hS:(s.heap.push {cls:= .type "list",data:= .seq ([]:List PX).toArray}).get? s.heap.objs.size=some {cls:= .type "list",data:= .seq #[] 0}:=Qd.get?_push_size _ rfl;have fin':∀(h':Qd)(tk:Nat)(acc':Array PX)(c':Nat),(∀b o,b≠s.heap.objs.size->(s.heap.push {cls:= .type "list",data:= .seq ([]:List PX).toArray}).get? b=some o->h'.get? b=some o)->
   h'.get? s.heap.objs.size=some {cls:= .type "list",dict:=none,data:= .seq acc' c',slots:= #[]}->ItemsOf (fun i v=>∃t,v= .int (a+i*c) t) acc' n->Qf (model prog w) A (match PX.ref s.heap.objs.size with
   |PX.ref a=>do
    match(←load a).data with
     |Data.seq xs _=>pure xs.toList
     |_=>unsupported "internal:collect"
   |_=>unsupported "internal:collect") Q E {s with heap:=h',toks:=tk}:=fun h' tk acc' c' hk hS' hacc=>by
  show Qf _ A (load s.heap.objs.size>>=_) _ _ _;refine P8 (wpAny_load hS' ?_);exact P9 (hQ h' tk acc' (fun b o e=>hk b o (PM (Qd.lt_size e)) (Qd.get?_push_of_some _ e)) hacc)
 refine Qa (wpAny_extend_range (A:=A) (R:=fun r s'=>r= .ok (.ret (.ref s.heap.objs.size))/\Qf (model prog w) A (match PX.ref s.heap.objs.size with
   |PX.ref a=>do
    match(←load a).data with
     |Data.seq xs _=>pure xs.toList
     |_=>unsupported "internal:collect"
   |_=>unsupported "internal:collect") Q E s') (s:={s with heap:=s.heap.push {cls:= .type "list",data:= .seq ([]:List PX).toArray}}) hh (Qd.get?_push_of_some _ hr) hsmall hn hlen _ (.ref s.heap.objs.size) 0 hS fun h' tk acc' c' hk hS' hacc=>⟨rfl,fin' h' tk acc' c' hk hS' hacc⟩) (fun fin s' h=>?_) (fun e s' h=>?_)
 .cases fin with
  |done f=>
   obtain⟨e,q⟩:=h;cases e;exact q
  |again c'=>exact⟨h.1,codeAny_mono h.2 fun r s'' hr=>by obtain⟨rfl,q⟩:=hr;exact q⟩
 .exact absurd h.1 (by simp)
theorem ki{r:PY}{a b c:Int}{t u v:Tok}{n:Nat}(hsmall:Qi.Range.small a b c=true)(hn:Qi.Range.rangeSize a b c=n)(hlen:n<=2^24):
  Meets (Qi.«tuple.__new__» ⟨[.type "tuple",.ref r],[]⟩)
   (fun A R s=>A.handled=none/\IsRange s.heap r a b c t u v/\∀(h':Qd)(tk:Nat)(acc:Array PX),(∀b o,s.heap.get? b=some o->h'.get? b=some o)->ItemsOf (fun i v=>∃t,v= .int (a+i*c) t) acc n->
    R (.ok (.ret (.ref h'.objs.size))) {s with heap:=h'.push {cls:= .type "tuple",data:= .seq acc},toks:=tk}):=
 .of_wp fun prog w A R s h=>by
  obtain⟨hp,g,d,tk,os⟩:=s;obtain⟨hh,hr,h⟩:=h;have hsub:=sub_tuple_self;have hinit:=init_tuple_lookup;have hmh:=madeHere_tuple;have hT:PZ.TypeIs ⟨hp,g,d,tk,os⟩ (.ref r) "range" :=⟨_,hr,rfl⟩;have hh1:A.in1.handled=none:=hh
  wp_walk using wpAny_typeOf hT,t6 hh1 hr hsmall hn hlen
  intro h' tk acc hk hacc;have hsz:acc.size<=P6:=by rw[hacc.1];exact PN hlen (by decide)
  show Qf _ _ (Qi.Tuple.tupleExact acc.toList.toArray>>=fun v=>ret v) _ _ _;unfold Qi.Tuple.tupleExact;refine P8 (wpAny_newObj_type ?_ (show acc.toList.toArray.size<=P6 by simpa using hsz));refine P9 ⟨_,rfl,?_⟩;have e:acc.toList.toArray=acc:=by simp
  rw[e];exact h h' tk acc hk hacc
theorem o6{Q:PX->PZ->Prop}{r:PY}{a b c:Int}{t u v:Tok}{n:Nat}(hh:A.handled=none)(hr:IsRange s.heap r a b c t u v)(hsmall:Qi.Range.small a b c=true)
  (hn:Qi.Range.rangeSize a b c=n) (hlen:n<=2^24)
  (h:∀(h':Qd)(tk:Nat)(acc:Array PX),(∀b o,s.heap.get? b=some o->h'.get? b=some o)->ItemsOf (fun i v=>∃t,v= .int (a+i*c) t) acc n->Q (.ref h'.objs.size) {s with heap:=h'.push {cls:= .type "tuple",data:= .seq acc},toks:=tk}):
  Qf (model prog w) A (call (.type "tuple") [.ref r]) Q E s:=by
 refine callType_new F.called_tuple (by decide) (F.typeCall_tuple_1 _) (F.newCall_tuple_1 _) (fun obj=>F.args_object_init_2 obj _) F.entry_tuple_new
  (ki hsmall hn hlen) ⟨hh,hr,fun h' tk acc hk hacc=>⟨⟨_,Qd.get?_push_size _ rfl,rfl⟩,?_⟩⟩
 exact h h' tk acc hk hacc
end
section
variable{X:Cx}
def Hj:List V->Hp->VK->Prop:=fun xs H Q=>∃p i j,xs=[.ref p]/\H p=some (.w9 i j)/\-1000000<=i/\i<=1000000/\-1000000<=j/\j<=1000000/\∀l,H l=none->Q (.ref l) (upd H l (.tup ((cZ i j).map V.int)))
theorem sE(hc:X.calm=true):bZ X (.type "tuple") Hj:=by
 intro pins s σ H xs us Q I r h;obtain⟨p,i,j,rfl,hp,h1,h2,h3,h4,q⟩:=h;obtain⟨u,rfl,rx⟩:=vals1 r;cases rx;obtain⟨t,t',t'',e⟩:=(show bF X.prog X.w H s.heap p (.w9 i j)from I.aX p _ hp);refine o6 (I.ok.hd hc) e (small_one (by lia) (by lia) (by lia) (by lia)) yo (size_le h1 h2 h3 h4) fun h' tk acc k it=>?_;have v:=sJ it;have I1:Inv X pins σ H {s with heap:=h',toks:=tk}:=I.kept k;refine⟨.ref h'.objs.size,_,I1.laid (t':=tk) (o:= .tup ((cZ i j).map V.int)) (fun b o e=>Qd.get?_push_of_some _ e) (PK _) ⟨?_,acc.toList,v,by simpa using IsTup.new h' acc⟩,rfl,q _ (I1.aX.fresh (PK _))⟩;rw[Pe,aO];exact PN (size_le h1 h2 h3 h4) (by decide)
def MJ(K:W.Frag)(x:V)(H:Hp)(T:String):Prop:=mQ K H x (.type T)
def M6(K:W.Frag):List V->Hp->VK->Prop:=fun xs H Q=>∃x T C b,xs=[x,.ty C]/\MJ K x H T/\W.kitOne K (.type T) (.type C)=some b/\Q (.bl b) H
theorem Fp:bZ X (.builtin "isinstance") (M6 X.K):=by
 intro pins s σ H xs us Q I r h;obtain⟨x,T,C,b,rfl,ty,e,q⟩:=h;obtain⟨u,w',rfl,rx,ry⟩:=vals2 r;cases(show w'=PX.type C from ry);exact C9 I rx ty e fun tk=>⟨.bl b,H,I.tok _,rfl,q⟩
theorem EG(K:W.Frag)(T:String):W.kitOne K (.type T) (.type T)=some true:=by
 unfold W.kitOne;rw[if_pos (beq_self_eq_true _)]
def MX(K:W.Frag):List V->Hp->VK->Prop:=fun xs H Q=>∃(p:PY)(bs:List Bool),xs=[.ref p]/\aI K H p (bs.map V.bl)/\Q (.bl (bs.all id)) H
theorem jE:∀{bs:List Bool}{us:List PX},Vals (bs.map V.bl) us->us=bs.map PX.bool
 |[],us,r=>by cases r;rfl
 |b::r,us,h=>by
  cases h with
  |cons h1 h2=>
   rw[Pm,←jE h2];rw[show _=PX.bool b from h1]
theorem Ff(hc:X.calm=true):bZ X (.builtin "all") (MX X.K):=by
 intro pins s σ H xs us Q I r h;obtain⟨p,bs,rfl,hl,q⟩:=h;obtain⟨u,rfl,rx⟩:=vals1 r;cases rx;obtain⟨its,rv,pl,hz⟩:=I.list hl;have e:=jE rv;subst e;refine call_all_walk (wpAny_pyIter_list pl.isList ?_);have lt:p<s.heap.objs.size:=by obtain⟨o,n,e,_⟩:=pl;exact Qd.lt_size e
 refine⟨s.heap.objs.size,_,_,_,_,_,fun i=>bs.getD i true,rfl,Walks.list (A:=X.A.in1) (show X.A.in1.handled=none from I.ok.hd hc) s.heap.objs.size p (PM lt) (bs.map PX.bool).toArray,?_,?_,?_⟩
 .refine⟨⟨_,Qd.get?_push_size _ rfl,rfl,rfl⟩,pl.isList.at fun o e=>Qd.get?_push_of_some _ e⟩
 .intro i v s' Q' E' hP hQ'
  have hP:(bs.map PX.bool).toArray[i]?=some v:=hP;have:(bs.map PX.bool)[i]?=some v:=by simpa using hP
  rw[Pf]at this
  cases hb:bs[i]? with
  |none=>rw[hb]at this;cases this
  |some b=>
   rw[hb]at this;cases this;have hg:bs.getD i true=b:=by rw[Pq,hb];rfl
   have hQ':Q' (bs.getD i true) s':=hQ';rw[hg]at hQ';exact wpAny_truthy_bool hQ'
 .intro h' tk hk
  have e:(List.range (bs.map PX.bool).toArray.size).all (fun i=>bs.getD i true)=bs.all id:=by
   have:∀(l:List Bool),(List.range l.length).all (fun i=>l.getD i true)=l.all id:=by
    intro l
    induction l with
    |nil=>rfl
    |cons b r ih=>
     rw[Pl,List.range_succ_eq_map,List.all_cons,List.all_cons,List.all_map];rw[←ih];rfl
   simpa using this bs
  rw[e];refine⟨.bl (bs.all id),H,?_,rfl,q⟩;refine(I.kept (t':=s.toks) (h':=h') fun b o e=>hk b o ?_ (Qd.get?_push_of_some _ e)).tok tk;intro z;have z:b=s.heap.objs.size:=by simpa using z
  exact absurd (Qd.lt_size e) (by rw[z];exact Nat.lt_irrefl _)
end
structure FnAt(P:P0)(w:P4)(K:W.Frag)(mg:Str->Option PX)(base:Qd)(x:Str)(k:Nat)(ps:List Str)(sp:Sp):Prop where
 ex:∃(f:PY)(fd:Qc),aQ P w K mg base i4 k f fd ps sp/\mg x=some (.ref f)/\W.keepIn K (.ref f)=true/\Binds K fd ps []
section
variable{X:Cx}{x:Str}{k:Nat}{ps:List Str}{sp:Sp}{e:Expr}{es:List Expr}{t:TA}{p pos:Pos}
theorem aq(F:FnAt X.prog X.w X.K X.mg X.base x k ps sp)(hr:cB k X.A)(hg:Gl X x)(ha:PA X (e::es) t)(hdb:(x==("__debug__" :Str))=false:=by decide+kernel)(he:Qb (e::es) X.env=(false,eval e X.env)::Qb es X.env:=by rfl)(hpl:(Qe pos (Qb es X.env)).any (·.1)=false:=by rfl):
  PE X (.Call (.Name x p) (e::es) [] pos) (rf sp [] E0 t):=by
 obtain⟨f,fd,F,hm,hk,hb⟩:=F.ex;exact BJ F hr hg hm hk hb .nil FV ha hdb he hpl
def M9(i j:Int):Prop:=0<j/\j<2^200
theorem log2_lt{j:Int}(h:0<j)(h2:j<2^200):j.natAbs.log2<9000:=by
 have h3:j.natAbs<2^200:=by
  have e:((j.natAbs:Nat):Int)=j:=Int.natAbs_of_nonneg (Int.le_of_lt h);have:((j.natAbs:Nat):Int)<((2^200:Nat):Int):=by rw[e];simpa using h2
  exact Int.ofNat_lt.mp this
 have h0:j.natAbs≠0:=by lia
 have:=(Nat.log2_lt h0).mpr h3;lia
theorem zp:kK X (binaryOp .FloorDiv) (rI M9 fun i j=> .int (i/j)):=Np fun i j _ _ _ _ _ hc q=>by
 refine floordiv_int (by have:=hc.1;lia) ?_ (.inl (PyProof.noPylong_of_log2 (log2_lt hc.1 hc.2)));rw[Int.fdiv_eq_ediv_of_nonneg _ (Int.le_of_lt hc.1)];exact q
end
def LM(XN N:List Str)(ix:List (Option Nat))(names:List (Str×Qh)):Bool:=
 (List.range ix.length).all fun j=>match ix[j]? with
  |some (some i)=>match N[j]? with
   |some x=>XN[i]?==some x&&names.lookup x==some .free
   |none=>false
  |_=>true
theorem Kh{XN N:List Str}{ix:List (Option Nat)}{names:List (Str×Qh)}(h:LM XN N ix names=true):
  ∀(j i:Nat),ix[j]?=some (some i)->∃x:Str,N[j]?=some x/\XN[i]?=some x/\names.lookup x=some .free/\(x,Qh.free)∈names:=by
 intro j i e;have hj:j<ix.length:=(List.getElem?_eq_some_iff.mp e).1;have q:=List.all_eq_true.mp h j (List.mem_range.mpr hj);rw[e]at q;dsimp only at q
 cases hn:N[j]? with
 |none=>rw[hn]at q;cases q
 |some x=>
  rw[hn]at q;dsimp only at q;obtain⟨q1,q2⟩:=Bool.and_eq_true_iff.mp q;have q1:XN[i]?=some x:=by simpa using q1
  have q2:names.lookup x=some Qh.free:=by
   cases hl:names.lookup x with
   |none=>rw[hl]at q2;cases q2
   |some k=>rw[hl]at q2;cases k<;>first|rfl|cases q2
  exact⟨x,rfl,q1,q2,mem_of_lookup q2⟩
def aL(p:PY)(H H':Hp):Prop:=∀b o,b≠p->H b=some o->H' b=some o
theorem aL.trans {p:PY}{H H1 H2:Hp}(a:aL p H H1)(b:aL p H1 H2):aL p H H2:=fun c o n h=>b c o n (a c o n h)
theorem ai.x {p:PY}{H H':Hp}(a:ai H H'):aL p H H':=fun c o _ h=>a c o h
theorem aL.upd {p:PY}{H:Hp}{o:HO}:aL p H (upd H p o):=fun c o n h=>by rw[ao n];exact h
theorem ai.new {p:PY}{H:Hp}{o:HO}(h:H p=none):ai H (upd H p o):=fun c o e=>by rw[ao (au e h)];exact e
theorem aL.new {p q:PY}{H:Hp}{o:HO}(h:H q=none):aL p H (L2.upd H q o):=(ai.new h).x
def IM(XS:List (Str×Qh))(XN:List Str)(names:List (Str×Qh))(N:List Str)(ix:List (Option Nat)):Bool:=
 names.all (fun y=>match y.2 with
  | .cell=>false
  | .local=>(match names.lookup y.1 with|some .local=>true|_=>false)
  | .free=>(match XS.lookup y.1 with|some .cell=>true|some .free=>true|_=>false)
  |_=>true)&&decide (ix.length=N.length)&&LM XN N ix names
theorem aW{X:Cx}{scope:Scope}{N:List Str}{ix:List (Option Nat)}(hk:scope.kind= .function)(h:IM X.env.scope.names X.N scope.names N ix=true):fw X scope N ix:=by
 unfold IM at h;obtain⟨h,h3⟩:=Bool.and_eq_true_iff.mp h;obtain⟨h1,h2⟩:=Bool.and_eq_true_iff.mp h;have all:∀y∈scope.names,_:=fun y hy=>List.all_eq_true.mp h1 y hy;refine⟨hk,fun y hy e=>?_,of_decide_eq_true h2,fun y hy e=>?_,fun y hy e=>?_,Kh h3⟩
 .have q:=all y hy
  rw[e]at q;cases q
 .have q:=all y hy
  rw[e]at q;dsimp only at q
  cases hl:scope.names.lookup y.1 with
  |none=>rw[hl]at q;cases q
  |some k=>rw[hl]at q;cases k<;>first|rfl|cases q
 .have q:=all y hy
  rw[e]at q;dsimp only at q;show X.env.scope.names.lookup y.1=_\/X.env.scope.names.lookup y.1=_
  cases hl:X.env.scope.names.lookup y.1 with
  |none=>rw[hl]at q;cases q
  |some k=>rw[hl]at q;cases k<;>first|exact .inl rfl|exact .inr rfl|cases q
section
variable{X:Cx}{K:W.Frag}
theorem hV(h:X.K=K):bZ X (.builtin "isinstance") (M6 K):=by subst h;exact Fp
theorem aJ(h:X.K=K):Li X (Ir K):=by subst h;exact Im
theorem mf(h:X.K=K):Li X (MV K):=by subst h;exact JR
theorem aZ(h:X.K=K):bZ X (.builtin "len") (fun xs H Q=>∃p ys,xs=[.ref p]/\(aI K H p ys\/gL K H p ys)/\Q (.int ys.length) H):=by subst h;exact vT
theorem ph(h:X.K=K)(hc:X.calm=true):bZ X (.builtin "all") (MX K):=by subst h;exact Ff hc
theorem Ap(h:X.K=K):kK X (compareOp .In) (Nq K false):=by subst h;exact Dw
theorem lV(h:X.K=K):kK X (compareOp .NotIn) (Nq K true):=by subst h;exact we
theorem aV{tg l:Expr}{tl:TE}(h:X.K=K)(hl:PE X l tl):PI X tg l (IV K tl):=by subst h;exact Hi hl
theorem HF{tg l:Expr}{tl:TE}(h:X.K=K)(hl:PE X l tl):PI X tg l (M5 K tl):=by subst h;exact J7 hl
theorem gV{es:List Expr}{k:Nat}{t:Jt}{n:Nat}{pos:Pos}(hk:X.K=K)(hc:X.calm=true)(h:MG X es t)
  (hn:(assignEach es X.env).length=n:=by rfl) (hst:(assignEach es X.env).findIdx? (·.1)=none:=by rfl):PG X (.Tuple es k pos) (Ia K n t):=by subst hk;exact KS hc h hn hst
end
end L2
namespace Sw
open PySem L2
inductive jm(H:Hp):List V->List (Int×Int)->Prop
 |nil:jm H [] []
 |cons {t:PY} {a b:Int} {vs:List V} {r:List (Int×Int)}:H t=some (.tup [.int a,.int b])->jm H vs r->jm H (.ref t::vs) ((a,b)::r)
theorem jm.length {H:Hp}:∀{vs:List V}{r:List (Int×Int)},jm H vs r->vs.length=r.length
 |_,_,.nil=>rfl
 |_,_,.cons _ x=>by rw[Pl,Pl,x.length]
theorem jm.keep {H H':Hp}(k:∀b xs,H b=some (.tup xs)->H' b=some (.tup xs)):∀{vs:List V}{r:List (Int×Int)},jm H vs r->jm H' vs r
 |_,_,.nil=> .nil
 |_,_,.cons h x=> .cons (k _ _ h) (x.keep k)
theorem jm.append {H:Hp}:∀{vs ws:List V}{r q:List (Int×Int)},jm H vs r->jm H ws q->jm H (vs++ws) (r++q)
 |_,_,_,_,.nil,y=>y
 |_,_,_,_,.cons h x,y=> .cons h (x.append y)
theorem jm.snoc {H:Hp}{vs:List V}{r:List (Int×Int)}{t:PY}{a b:Int}(x:jm H vs r)(h:H t=some (.tup [.int a,.int b])):jm H (vs++[.ref t]) (r++[(a,b)]):=x.append (.cons h .nil)
theorem jm.get {H:Hp}:∀{vs:List V}{r:List (Int×Int)}{i:Nat}{x:V},jm H vs r->vs[i]?=some x->∃t a b,x= .ref t/\H t=some (.tup [.int a,.int b])/\r[i]?=some (a,b)
 |_,_,_,_,.nil,e=>by simp at e
 |_,_,0,_,.cons h x,e=>by simp at e;subst e;exact⟨_,_,_,rfl,h,rfl⟩
 |_,_,i+1,_,.cons h x,e=>by
  obtain⟨t,a,b,e1,e2,e3⟩:=x.get (i:=i) (by simpa using e);exact⟨t,a,b,e1,e2,by simpa using e3⟩
theorem jm.dat {K:W.Frag}{H:Hp}:∀{vs:List V}{r:List (Int×Int)},jm H vs r->DatAll K H (fun _=>True) vs (r.map fun p=> .tuple [.int p.1,.int p.2])
 |_,_,.nil=> .nil
 |_,_,.cons h x=> .cons (.tup (gL.of h) True.intro (.cons (.int _) (.cons (.int _) .nil))) x.dat
theorem ai.fD {H H':Hp}(s:ai H H'):∀b xs,H b=some (.tup xs)->H' b=some (.tup xs):=fun b xs e=>s b _ e
theorem aL.fD {p:PY}{H H':Hp}{ys:List V}(s:aL p H H')(hp:H p=some (.lst ys)):∀b xs,H b=some (.tup xs)->H' b=some (.tup xs):=fun b xs e=>s b _ (Ga e hp (by intro z;cases z)) e
theorem sj{K:W.Frag}{H:Hp}{P:PY->Prop}:∀(ns:List Int),DatAll K H P (ns.map V.int) (ns.map PyData.int)
 |[]=> .nil
 |n::r=> .cons (.int n) (sj r)
theorem lay_ints:∀(ns:List Int),PyData.canLayAll0 (ns.map PyData.int)=true
 |[]=>rfl
 |n::r=>by rw[Pm];unfold PyData.canLayAll0;rw[lay_ints r];rfl
theorem sT:∀(ns:List Int),PyData.depthAll (ns.map PyData.int)=0
 |[]=>by simp[PyData.depthAll]
 |n::r=>by rw[Pm];unfold PyData.depthAll;rw[sT r];simp[PyData.depth]
theorem xT:∀(ns ms:List Int),PyData.eqvAll (ns.map PyData.int) (ms.map PyData.int)=decide (ns=ms)
 |[],[]=>by simp[PyData.eqvAll]
 |[],m::r=>by simp[PyData.eqvAll]
 |n::r,[]=>by simp[PyData.eqvAll]
 |n::r,m::q=>by
  rw[Pm,Pm];unfold PyData.eqvAll;rw[xT r q];simp[PyData.eqv];by_cases h1:n=m<;>by_cases h2:r=q<;>simp[h1,h2]
theorem vD:∀(r:List (Int×Int)),PyData.canLayAll0 (r.map fun p=>PyData.tuple [.int p.1,.int p.2])=true
 |[]=>rfl
 |p::r=>by rw[Pm];unfold PyData.canLayAll0;rw[vD r];rfl
theorem uP:∀(r:List (Int×Int)),PyData.depthAll (r.map fun p=>PyData.tuple [.int p.1,.int p.2])<=1
 |[]=>by simp[PyData.depthAll]
 |p::r=>by
  rw[Pm];unfold PyData.depthAll;have:=uP r;simp[PyData.depth,PyData.depthAll];lia
theorem Ck:∀(r q:List (Int×Int)),PyData.eqvAll (r.map fun p=>PyData.tuple [.int p.1,.int p.2]) (q.map fun p=>PyData.tuple [.int p.1,.int p.2])=decide (r=q)
 |[],[]=>by simp[PyData.eqvAll]
 |[],m::r=>by simp[PyData.eqvAll]
 |n::r,[]=>by simp[PyData.eqvAll]
 |(a,b)::r,(c,d)::q=>by
  rw[Pm,Pm];unfold PyData.eqvAll;rw[Ck r q];simp[PyData.eqv,PyData.eqvAll];by_cases h1:a=c<;>by_cases h2:b=d<;>by_cases h3:r=q<;>simp[h1,h2,h3]
theorem O5{K:W.Frag}{H:Hp}{l m:PY}{vs ws:List V}{r q:List (Int×Int)}{Q:VK}(h1:H l=some (.lst vs))(x1:jm H vs r)(h2:H m=some (.lst ws))(x2:jm H ws q)(hq:Q (.bl (!decide (r=q))) H):J6 K (.ref l) (.ref m) H Q:=by
 refine⟨fun _=>True,.list (r.map fun p=>PyData.tuple [.int p.1,.int p.2]),.list (q.map fun p=>PyData.tuple [.int p.1,.int p.2]),.lst (aI.of h1) True.intro x1.dat,.lst (aI.of h2) True.intro x2.dat,?_,?_,?_,?_⟩
 .unfold PyData.canLay0;exact vD r
 .unfold PyData.canLay0;exact vD q
 .unfold PyData.depth;have:=uP r;lia
 .have e:PyData.eqv (.list (r.map fun p=>PyData.tuple [.int p.1,.int p.2])) (.list (q.map fun p=>PyData.tuple [.int p.1,.int p.2]))=decide (r=q):=by unfold PyData.eqv;exact Ck r q
  rw[e];exact hq
def MC(x:Int)(e:Int×Int):Int:=if x=e.1 then e.2 else if x=e.2 then e.1 else x
def Good(n:Int)(row:List (Int×Int)):Prop:=∀e∈row,1<=e.1/\e.1<e.2/\e.2<=n
theorem Good.append {n:Int}{r q:List (Int×Int)}(a:Good n r)(b:Good n q):Good n (r++q):=fun e h=>(List.mem_append.mp h).elim (a e) (b e)
theorem c6{lo hi x:Int}:x∈cZ lo hi↔lo<=x/\x<hi:=by
 unfold cZ;rw[List.mem_map];constructor
 .rintro⟨i,h,rfl⟩
  have:=List.mem_range.mp h;lia
 .intro h
  exact⟨(x-lo).toNat,List.mem_range.mpr (by lia),by lia⟩
theorem eD{lo hi:Int}{i:Nat}(h:i<(hi-lo).toNat):(cZ lo hi)[i]?=some (lo+i):=by
 unfold cZ;rw[Pf,List.getElem?_range h];rfl
end Sw
namespace L2
open PySem PySem.Spec PyProof.Rows
section
variable{X:Cx}{pins:List (PY×Obj)}{σ:St}{H:Hp}{s:PZ}{h':Qd}
theorem Inv.qQ {t':Nat}{fp:List PY}(I:Inv X pins σ H s)(k:∀b o,b∉fp->s.heap.get? b=some o->h'.get? b=some o)(hf:∀b∈fp,kj X pins H b):Inv X pins σ H {s with heap:=h',toks:=t'}:=by
 have nit:∀b u,H b=some u->b∉fp:=fun b u e z=>by rw[(hf b z).1]at e;cases e
 refine I.step (g':=s.gens) (d':=s.drawn) (ch:=fp) (fun b hb=>?_) (fun b o _ _ hc e _=>k b o hc e) (fun b o _ _ hc e _=>⟨o.slots,k b o hc e⟩) (fun _ _ _ _ n=>n)
  (fun b o hc e=>⟨o,k b o hc e⟩) (fun _ _ e=>e) (fun _ _ _ e=>e) (fun b ps e=>⟨#[],by rw[e];simp⟩) (fun m hm=>?_) (fun b u e=>?_) I.bare
 .obtain⟨f0,f1,f2,f3,f4,f5⟩:=hf b hb
  exact⟨f3,f1,f4,f5⟩
 .obtain⟨o,es,ep,ho,r⟩:=hm
  exact⟨o,es,ep,k _ o (fun z=>(hf _ z).2.1 rfl) ho,r⟩
 .refine(I.aX b u e).kg (fun c v hc q=>k c v ?_ q) (fun _ q=>q) fun _ _ q=>q
  rcases hc with z|z
  .rw[z];exact nit b u e
  .exact nit c _ z
theorem Inv.xS {T:PY}{o:HO}(I:Inv X pins σ H s)(hf:kj X pins H T)(new:bF X.prog X.w (upd H T o) s.heap T o):Inv X pins σ (upd H T o) s:=by
 obtain⟨f0,f1,f2,f3,f4,f5⟩:=hf;have:=I.step (h':=s.heap) (H':=upd H T o) (g':=s.gens) (d':=s.drawn) (t':=s.toks) (ch:=[T]) (fun b hb=>by
  have e:b=T:=by simpa using hb
  subst e;exact⟨f3,f1,f4,f5⟩) (fun b o _ _ _ e _=>e) (fun b o _ _ _ e _=>⟨o.slots,e⟩) (fun b o hc _ n=>by rw[ao (fun z=>hc (by simp[z]))];exact n)
  (fun b o _ e=>⟨o,e⟩) (fun b xs e=>by rw[ao (au e f0)];exact e) (fun b o u e=>by rw[ao (au e f0)];exact e) (fun b ps e=>⟨#[],by rw[ao (au e f0),e];simp⟩) (fun m hm=>hm) (fun b u e=>?_) I.bare
 .exact this
 .by_cases hb:b=T
  .subst hb
   rw[af]at e;cases e;exact new
  .rw[ao hb]at e
   refine(I.aX b u e).kg (fun _ _ _ q=>q) (fun c q=>?_) fun c xs q=>?_
   .rw[ao (au q f0)];exact q
   .rw[ao (au q f0)];exact q
end
theorem iF{ix:List (Option Nat)}{g:TG}{tc:TT}{te:TE}{σ:St}{Q:VK}{J:It}{H:Hp}{n:Nat}(Pv:Nat->List V->St->Hp->Prop)(hn:n<=1000000)(h0:Pv 0 [] (eN ix σ) H)
  (hgo:∀i ys σ H,i<n->Pv i ys σ H->J.go i H) (hst:∀ys σ H,Pv n ys σ H->J.stop n H) (hlen:∀i ys σ H,Pv i ys σ H->ys.length<=i)
  (hs:∀i ys σ H x H2(R:St->List V->Hp->Prop),i<n->Pv i ys σ H->J.Hs i H x H2->(∀σ2 ys2 H5,Pv (i+1) ys2 σ2 H5->R σ2 ys2 H5)->
   g x σ H2 fun σ2 H3=>tc σ2 H3 fun b H4=>if b=true then te σ2 H4 fun v H5=>R σ2 (ys++[v]) H5 else R σ2 ys H4)
  (hd:∀ys σ' H' p,Pv n ys σ' H'->H' p=none->Q (.ref p) (upd H' p (.lst ys))):jg ix g tc te σ Q J H:=by
 have big:(1000000:Nat)<P6:=by decide
 refine⟨fun i m ys σ' H'=>m=n-i/\i<=n/\Pv i ys σ' H',⟨n,by simp,PQ _,h0⟩,?_⟩;rintro i m ys σ' H' ⟨rfl,hi,p⟩;have hl:=hlen i ys σ' H' p;by_cases hlt:i<n
 .refine .inr ⟨hgo i ys σ' H' hlt p,by lia,fun x H2 y=>?_⟩
  exact hs i ys σ' H' x H2 (fun σ2 ys2 H5=>∃m',m'<n-i/\(m'=n-(i+1)/\i+1<=n/\Pv (i+1) ys2 σ2 H5)) hlt p y fun σ2 ys2 H5 q=>⟨n-(i+1),by lia,rfl,hlt,q⟩
 .have e:i=n:=by lia
  subst e;exact .inl ⟨hst ys σ' H' p,by lia,fun q hq=>hd ys σ' H' q p hq⟩
theorem iC{K:W.Frag}{ix:List (Option Nat)}{te:TE}{σ:St}{Q:VK}{H:Hp}{a:PY}{xs:List V}{k:Nat}(Pv:Nat->List V->St->Hp->Prop)(hn:xs.length<=1000000)(h0:Pv 0 [] (eN ix σ) H)
  (hl:∀i ys σ H,i<=xs.length->Pv i ys σ H->aI K H a xs) (hlen:∀i ys σ H,Pv i ys σ H->ys.length<=i)
  (hs:∀i ys σ H x(R:St->List V->Hp->Prop),xs[i]?=some x->Pv i ys σ H->(∀σ2 ys2 H5,Pv (i+1) ys2 σ2 H5->R σ2 ys2 H5)->te (σ.set k (some x)) H fun v H5=>R (σ.set k (some x)) (ys++[v]) H5)
  (hd:∀ys σ' H' p,Pv xs.length ys σ' H'->H' p=none->Q (.ref p) (upd H' p (.lst ys))):jg ix (cT k) i7 te σ Q (Jc K a) H:=by
 refine iF Pv hn h0 (fun i ys σ H hi p=>⟨xs,xs[i],hl i ys σ H (Nat.le_of_lt hi) p,by simp[hi]⟩) (fun ys σ H p=>⟨xs,hl _ ys σ H (PK _) p,PK _⟩) hlen (fun i ys σ H x H2 R hi p y r=>?_) hd;obtain⟨rfl,y⟩:=y;unfold cT i7;simp only[if_true];exact hs i ys σ _ x R (y xs (hl i ys σ _ (Nat.le_of_lt hi) p)) p r
theorem LG{K:W.Frag}{ix:List (Option Nat)}{te:TE}{σ:St}{Q:VK}{H:Hp}{a:PY}{xs:List V}{k:Nat}(Pv:Nat->List V->St->Hp->Prop)(hn:xs.length<=1000000)(h0:Pv 0 [] (eN ix σ) H)
  (hl:∀i ys σ H,i<=xs.length->Pv i ys σ H->gL K H a xs) (hlen:∀i ys σ H,Pv i ys σ H->ys.length<=i)
  (hs:∀i ys σ H x(R:St->List V->Hp->Prop),xs[i]?=some x->Pv i ys σ H->(∀σ2 ys2 H5,Pv (i+1) ys2 σ2 H5->R σ2 ys2 H5)->te (σ.set k (some x)) H fun v H5=>R (σ.set k (some x)) (ys++[v]) H5)
  (hd:∀ys σ' H' p,Pv xs.length ys σ' H'->H' p=none->Q (.ref p) (upd H' p (.lst ys))):jg ix (cT k) i7 te σ Q (Oc K a) H:=by
 refine iF Pv hn h0 (fun i ys σ H hi p=>⟨xs,xs[i],hl i ys σ H (Nat.le_of_lt hi) p,by simp[hi]⟩) (fun ys σ H p=>⟨xs,hl _ ys σ H (PK _) p,PK _⟩) hlen (fun i ys σ H x H2 R hi p y r=>?_) hd;obtain⟨rfl,y⟩:=y;unfold cT i7;simp only[if_true];exact hs i ys σ _ x R (y xs (hl i ys σ _ (Nat.le_of_lt hi) p)) p r
theorem ye{ix:List (Option Nat)}{te:TE}{σ:St}{Q:VK}{H:Hp}{lo:Int}{n:Nat}{k:Nat}(Pv:Nat->List V->St->Hp->Prop)(hn:n<=1000000)(h0:Pv 0 [] (eN ix σ) H)(hlen:∀i ys σ H,Pv i ys σ H->ys.length<=i)
  (hs:∀i ys σ H(R:St->List V->Hp->Prop),i<n->Pv i ys σ H->(∀σ2 ys2 H5,Pv (i+1) ys2 σ2 H5->R σ2 ys2 H5)->te (σ.set k (some (.int (lo+i)))) H fun v H5=>R (σ.set k (some (.int (lo+i)))) (ys++[v]) H5)
  (hd:∀ys σ' H' p,Pv n ys σ' H'->H' p=none->Q (.ref p) (upd H' p (.lst ys))):jg ix (cT k) i7 te σ Q (IT lo n) H:=by
 refine iF Pv hn h0 (fun i ys σ H hi p=>hi) (fun ys σ H p=>PK _) hlen (fun i ys σ H x H2 R hi p y r=>?_) hd;obtain⟨rfl,rfl⟩:=y;unfold cT i7;simp only[if_true];exact hs i ys σ _ R hi p r
theorem Ii{K:W.Frag}{ix:List (Option Nat)}{tc:TT}{te:TE}{σ:St}{Q:VK}{H:Hp}{a:PY}{xs:List V}{k:Nat}(Pv:Nat->List V->St->Hp->Prop)(hn:xs.length<=1000000)(h0:Pv 0 [] (eN ix σ) H)
  (hl:∀i ys σ H,i<=xs.length->Pv i ys σ H->aI K H a xs) (hlen:∀i ys σ H,Pv i ys σ H->ys.length<=i)
  (hs:∀i ys σ H x(R:St->List V->Hp->Prop),xs[i]?=some x->Pv i ys σ H->(∀σ2 ys2 H5,Pv (i+1) ys2 σ2 H5->R σ2 ys2 H5)->
   tc (σ.set k (some x)) H fun b H4=>if b=true then te (σ.set k (some x)) H4 fun v H5=>R (σ.set k (some x)) (ys++[v]) H5 else R (σ.set k (some x)) ys H4)
  (hd:∀ys σ' H' p,Pv xs.length ys σ' H'->H' p=none->Q (.ref p) (upd H' p (.lst ys))):jg ix (cT k) tc te σ Q (Jc K a) H:=by
 refine iF Pv hn h0 (fun i ys σ H hi p=>⟨xs,xs[i],hl i ys σ H (Nat.le_of_lt hi) p,by simp[hi]⟩) (fun ys σ H p=>⟨xs,hl _ ys σ H (PK _) p,PK _⟩) hlen (fun i ys σ H x H2 R hi p y r=>?_) hd;obtain⟨rfl,y⟩:=y;unfold cT;exact hs i ys σ _ x R (y xs (hl i ys σ _ (Nat.le_of_lt hi) p)) p r
section
variable{X:Cx}{K:W.Frag}{o e:Expr}{es:List Expr}{to:TE}{t:TA}{name:Str}{apos cpos:Pos}{T id:String}{r:V->List V->Hp->VK->Prop}
theorem om(h:X.K=K)(pa:PlainAttrs T)(slot:Slot T name id)(hty:typeOf (.builtin id)=pure (.type "method_descriptor"))(hm:As X id r)(ho:PE X o to)
  (hbase:attributeBase o name X.env (eval o X.env)=eval o X.env:=by rfl) (hline:(apos.endLine==cpos.line)=true:=by rfl):PE X (.Call (.Attribute o name apos) [] [] cpos) (Ml K T r to):=by
 subst h;exact Le pa slot hty hm ho hbase hline
theorem aP(h:X.K=K)(pa:PlainAttrs T)(slot:Slot T name id)(hty:typeOf (.builtin id)=pure (.type "method_descriptor"))(hm:As X id r)(ho:PE X o to)(ha:PA X (e::es) t)
  (hbase:attributeBase o name X.env (eval o X.env)=eval o X.env:=by rfl)
  (hfew:((Qe cpos (Qb (e::es) X.env)).all (fun x=> !x.1)&&(backToKw cpos (keywordEach [] X.env)).all (fun x=>x.1.isSome)
   &&decide ((e::es).length+([]:List Keyword).length+(if([]:List Keyword).isEmpty then 0 else 1)<30))=true:=by rfl)
  (hline:(apos.endLine==cpos.line)=true:=by rfl) (hs:Qb (e::es) X.env=(false,eval e X.env)::Qb es X.env:=by rfl) (hplain:(Qe cpos (Qb es X.env)).any (·.1)=false:=by rfl):
  PE X (.Call (.Attribute o name apos) (e::es) [] cpos) (Nu K T r to t):=by
 subst h;exact LO pa slot hty hm ho ha hbase hfew hline hs hplain
theorem r6(h:X.K=K):Ny X (Ms K):=by subst h;exact Hw
end
end L2
namespace Sw
open PySem L2
theorem lO(a b:Int):(cZ a b).Nodup:=by
 unfold cZ;refine List.Pairwise.map _ ?_ (List.nodup_range (n:=(b-a).toNat));intro x y h z;apply h;lia
def Ord(n:Int)(xs:List Int):Prop:=xs.Perm (cZ 1 (n+1))
theorem Ord.length {n:Int}{xs:List Int}(o:Ord n xs):xs.length=n.toNat:=by
 rw[List.Perm.length_eq o,aO];congr 1;lia
theorem Ord.mem {n:Int}{xs:List Int}(o:Ord n xs){x:Int}:x∈xs↔1<=x/\x<=n:=by
 rw[List.Perm.mem_iff o,c6];lia
theorem Ord.nodup {n:Int}{xs:List Int}(o:Ord n xs):xs.Nodup:=(List.Perm.nodup_iff o).mpr (lO _ _)
theorem rb{α:Type}:∀{l:List α}{k:Nat}{y:α},l[k]?=some y->(y::l.eraseIdx k).Perm l
 |[],_,_,h=>by simp at h
 |a::l,0,y,h=>by simp at h;subst h;exact List.Perm.refl _
 |a::l,k+1,y,h=>by
  have q:=rb (l:=l) (k:=k) (y:=y) (by simpa using h);rw[List.eraseIdx_cons_succ];exact(List.Perm.swap a y _).trans (q.cons a)
theorem zi{n:Int}{fs ls:List Int}{k:Nat}{y:Int}(o:Ord n (fs++ls))(h:ls[k]?=some y):Ord n ((fs++[y])++ls.eraseIdx k):=by
 unfold Ord at*;rw[PF,List.singleton_append];exact((rb h).append_left fs).trans o
theorem swap_perm{n:Int}{ls:List Int}{i j:Nat}{x y:Int}(o:Ord n ls)(hi:ls[i]?=some x)(hj:ls[j]?=some y):Ord n ((ls.set i y).set j x):=by
 obtain⟨h1,rfl⟩:=List.getElem?_eq_some_iff.mp hi;obtain⟨h2,rfl⟩:=List.getElem?_eq_some_iff.mp hj;exact(List.set_set_perm h1 h2).trans o
def xK(xs:List Int)(x:Int):Int:=xs.getD ((xs.idxOf x+1)%xs.length) 0
theorem A6{xs:List Int}(nd:xs.Nodup){j:Nat}{x:Int}(h:xs[j]?=some x):xK xs x=xs.getD ((j+1)%xs.length) 0:=by
 obtain⟨h1,rfl⟩:=List.getElem?_eq_some_iff.mp h;unfold xK;rw[List.Nodup.idxOf_getElem nd]
theorem Iw{xs:List Int}(nd:xs.Nodup):(xs.map (xK xs)).Perm xs:=by
 match xs,nd with
 |[],_=>exact List.Perm.refl _
 |y::t,nd=>
  have e:(y::t).map (xK (y::t))=t++[y]:=by
   apply List.ext_getElem?;intro j;rw[Pf];by_cases hj:j<(y::t).length
   .have h:(y::t)[j]?=some (y::t)[j]:=Ph hj
    rw[h,Option.map_some,A6 nd h];by_cases h2:j+1<(y::t).length
    .rw[Nat.mod_eq_of_lt h2]
     have:j<t.length:=by simpa using h2
     rw[List.getElem?_append_left this];simp[Pq,this]
    .have e2:j+1=(y::t).length:=by lia
     rw[e2,Nat.mod_self];have:j=t.length:=by simpa using e2
     subst this;simp
   .rw[List.getElem?_eq_none (by lia),List.getElem?_eq_none (by simp;simp at hj;lia)]
    rfl
  rw[e];exact List.perm_append_comm (l₁:=t) (l₂:=[y])
theorem IB{n:Int}{xs:List Int}(o:Ord n xs):Ord n ((cZ 1 (n+1)).map (xK xs)):=
 ((List.Perm.map (xK xs) (List.Perm.symm o)).trans (Iw o.nodup)).trans o
theorem jn(n:Int):Ord n (cZ 1 (n+1)):=List.Perm.refl _
theorem Ks{xs:List Int}{x:Int}(h:x∈xs):∃j,xs[j]?=some x/\j<xs.length:=by
 obtain⟨j,hj,e⟩:=List.mem_iff_getElem.mp h;exact⟨j,by rw[Ph hj,e],hj⟩
end Sw
namespace L2
open PySem PySem.Spec PyProof.Rows
section
variable{X:Cx}{K:W.Frag}
theorem uV:∀{ns:List Int}{us:List PX},Vals (ns.map V.int) us->∃xs:List (Int×Tok),us=xs.map (fun p=>PX.int p.1 p.2)/\xs.map (·.1)=ns
 |[],us,r=>by cases r;exact⟨[],rfl,rfl⟩
 |n::ns,us,r=>by
  cases r with
  |cons r1 r2=>
   obtain⟨t,rfl⟩:=r1;obtain⟨xs,rfl,e⟩:=uV r2;exact⟨(n,t)::xs,rfl,by rw[Pm,e]⟩
def LL(K:W.Frag):List V->Hp->VK->Prop:=fun xs H Q=>∃(p:PY)(ns:List Int)(M:Int),xs=[.ref p]/\aI K H p (ns.map V.int)/\M∈ns/\(∀a∈ns,M<=a)/\Q (.int M) H
theorem vb(hc:X.calm=true)(hK:X.K=K):bZ X (.builtin "min") (LL K):=by
 subst hK;intro pins s σ H xs us Q I r h;obtain⟨p,ns,M,rfl,hl,hM,hm,q⟩:=h;obtain⟨u,rfl,rx⟩:=vals1 r;cases rx;obtain⟨its,rv,pl,hz⟩:=I.list hl;obtain⟨xs,rfl,e⟩:=uV rv;have hpos:0<xs.length:=by
  rw[←Pe (f:=(·.1)),e];exact List.length_pos_of_mem hM
 refine min_intList (l:=p) (xs:=xs.toArray) (I.ok.hd hc) ?_ (by simpa using hpos) fun v h' tk hv hk=>?_
 .have:=pl.isList
  unfold intItems;simpa using this
 .have num:∀i,numAt xs.toArray i=ns.getD i 0:=by
   intro i;unfold numAt;rw[List.getElem?_toArray,←e,Pq,Pf]
  obtain⟨b1,b2⟩:=argBest_lt (numAt xs.toArray) (xs.toArray.size-1);generalize argBest (fun i j=>decide (numAt xs.toArray i<numAt xs.toArray j)) (xs.toArray.size-1)=k at b1 b2 hv;have lk:k<xs.length:=by simp at b1;lia
  have hv':v=PX.int xs[k].1 xs[k].2:=by
   unfold intItems at hv;simp at hv;rw[Ph lk]at hv;obtain⟨a,b,h1,h2⟩:=hv;have h1:=PU h1;rw[h1];exact h2.symm
  subst hv';have lx:xs.length=ns.length:=by rw[←e,Pe]
  have ek:xs[k].1=ns[k]:=by
   have:(xs.map (·.1))[k]'(by rw[Pe];exact lk)=ns[k]:=by simp only[e]
   simpa using this
  have eM:xs[k].1=M:=by
   rw[ek];refine Int.le_antisymm ?_ (hm _ (List.getElem_mem _));obtain⟨j,hj,ej⟩:=List.mem_iff_getElem.mp hM;have:=b2 j (by simp;lia);rw[num,num]at this;rw[←ej];rw[Pq,Ph (by lia),Pq,Ph hj]at this;exact this
  rw[eM];refine⟨.int M,H,?_,⟨_,rfl⟩,q⟩;exact(I.kept (t':=s.toks) (h':=h') fun b o e=>hk b o e).tok tk
end
section
variable{X:Cx}{K:W.Frag}
theorem rq:∀{ns:List Int}{us:List PX},Vals (ns.map V.int) us->IntsAre us ns
 |[],us,r=>by cases r;exact .nil
 |n::ns,us,r=>by
  cases r with
  |cons r1 r2=>
   obtain⟨t,rfl⟩:=r1;exact .cons n t (rq r2)
theorem yN:∀{us:List PX}{ns:List Int},IntsAre us ns->Vals (ns.map V.int) us
 |_,_,.nil=> .nil
 |_,_,.cons n t r=> .cons ⟨t,rfl⟩ (yN r)
def Mr(K:W.Frag):List V->Hp->VK->Prop:=fun xs H Q=>∃(p:PY)(ns:List Int),xs=[.ref p]/\aI K H p (ns.map V.int)/\ns.length<64/\∀(l:PY)(ns':List Int),H l=none->ns'.Perm ns->ns'.Pairwise (·<=·)->Q (.ref l) (upd H l (.lst (ns'.map V.int)))
theorem y3(hK:X.K=K):bZ X (.builtin "sorted") (Mr K):=by
 subst hK;intro pins s σ H xs us Q I r h;obtain⟨p,ns,rfl,hl,hz,q⟩:=h;obtain⟨u,rfl,rx⟩:=vals1 r;cases rx;obtain⟨its,rv,pl,_⟩:=I.list hl;have len:=rv.length;rw[Pe]at len;refine sorted_ints pl.isList (rq rv) (by lia) fun out ns' ia pm pw=>?_;obtain⟨e,he⟩:=sortedAll_at s.heap its out;have lp:=pm.length_eq;have big:(64:Nat)<=P6:=by decide
 refine⟨.ref (s.heap.objs.size+1),_,I.laid (o:= .lst (ns'.map V.int)) (fun b u e=>sortedAll_old e) (Nat.le_succ _) ⟨by rw[Pe];lia,out.toList,e,yN ia,by simpa using he⟩,rfl,q _ ns' (I.aX.fresh (Nat.le_succ _)) pm pw⟩
end
def FD(K:W.Frag)(a:PY)(xs:List V):It:=
 ⟨fun i H=>i<xs.length/\aI K H a xs,fun i H x H'=>∃t v,H t=none/\x= .ref t/\xs[i]?=some v/\H'=upd H t (.tup [.int (i:Int),v]),fun i H=>i=xs.length/\aI K H a xs⟩
theorem Ah{P:P0}{w:P4}{K:W.Frag}{elts:List Expr}{k:Nat}{pos:Pos}(a e it:PY)(xs:List V)(hei:e≠it)(hae:a≠e)(hai:a≠it):
  Turn P w K (.Tuple elts k pos) (FD K a xs) [e,it] e (fun i h=>(∃old,IsEnum h e it (i:Int) old)/\h.IsListIter it a i)where
 mem:=by simp
 obj:=fun i h st b hb=>by
  obtain⟨⟨old,he⟩,⟨o,e2,c,d⟩⟩:=st;rcases List.mem_cons.mp hb with z|z
  .subst z
   exact⟨_,he,fun v z=>by cases z⟩
  .have z:b=it:=by simpa using z
   subst z;exact⟨o,e2,fun v z=>by rw[d]at z;cases z⟩
 keep:=fun i h h' st kk=>⟨by obtain⟨⟨old,he⟩,_⟩:=st;exact⟨old,kk e (by simp) _ he⟩,st.2.at fun o q=>kk it (by simp) o q⟩
 item:=by
  intro X hP hw hK hc i pins s σ H E I hf st hg;subst hP hw hK;obtain⟨hi,hq⟩:=hg;obtain⟨its,rv,ht,hz⟩:=I.list hq;have hl:=rv.length;obtain⟨⟨old,he⟩,hit⟩:=st;have W:=WalksT.enumerate (prog:=X.prog) (w:=X.w) (A:=X.A) (I.ok.hd hc) e it a hei hae hai its.toArray;refine W.item i s _ _ (by simp;lia) ⟨⟨old,he⟩,hit,ht.isList⟩ fun T vals h' tk hPt hsz hT hMid hk=>?_;obtain⟨t,x,hx,rfl⟩:=hPt;obtain⟨v,hv,rvx⟩:∃v,xs[i]?=some v/\RelV v x:=by
   rw[Ph hi];obtain⟨u,hu,ru⟩:=rv.get (Ph hi);have:its[i]?=some x:=by simpa using hx
   rw[this]at hu;cases hu;exact⟨_,rfl,ru⟩
  refine⟨.ref T,rfl,W.go elts k pos i T _ _ _ hMid fun h'' hSt hk''=>?_⟩;have hTe:=hMid.2.2.2.1;have hTi:=hMid.2.2.2.2;have I1:Inv X pins σ H {s with heap:=h'',toks:=tk}:=I.qQ (fp:=[e,it]) (fun b o hb q=>hk'' b o hb (hk b o hb q)) hf;have fT:kj X pins H T:=I.qy hsz (I.aX.fresh hsz);have hT':IsTup h'' T #[.int (i:Int) t,x]:=by
   obtain⟨o,e1,e2,e3⟩:=hT;exact⟨o,hk'' T o (by simp;exact⟨hTe,hTi⟩) e1,e2,e3⟩
  obtain⟨⟨old',he'⟩,hit2,_⟩:=hSt;refine⟨.ref T,upd H T (.tup [.int (i:Int),v]),I1.xS fT ⟨(by show 2<=P6;decide),[.int (i:Int) t,x],.cons ⟨t,rfl⟩ (.cons rvx .nil),hT'⟩,rfl,⟨T,v,fT.1,rfl,hv,rfl⟩,⟨⟨old',he'⟩,hit2⟩,fun b hb=>?_⟩;have hbT:b≠T:=by
   rcases List.mem_cons.mp hb with z|z
   .rw[z];exact hTe.symm
   .have z:b=it:=by simpa using z
    rw[z];exact hTi.symm
  rw[ao hbT];exact(hf b hb).1
 done:=by
  intro X hP hw hK hc i pins s σ H E I hf st hg;subst hP hw hK;obtain⟨hi,hq⟩:=hg;obtain⟨its,rv,ht,hz⟩:=I.list hq;have hl:=rv.length;obtain⟨⟨old,he⟩,hit⟩:=st;have W:=WalksT.enumerate (prog:=X.prog) (w:=X.w) (A:=X.A) (I.ok.hd hc) e it a hei hae hai its.toArray;have en:i=its.toArray.size:=by simp;lia
  refine W.done s _ _ (by rw[←en];exact⟨⟨old,he⟩,hit,ht.isList⟩) fun h' tk hk=>⟨rfl,I.qQ (fp:=[e,it]) (fun b o hb q=>hk b o hb q) hf⟩
 self:=fun A i s Q E st hQ=>by
  obtain⟨⟨old,he⟩,_⟩:=st;exact wpAny_pyIter_enum he hQ
def KQ(K:W.Frag)(ta:TA):TI:=fun σ H R=>ta σ H fun vs H1=>∃(a:PY)(xs:List V),vs=[.ref a]/\aI K H1 a xs/\R (FD K a xs) H1
theorem D8{X:Cx}{K:W.Frag}{e:Expr}{ta:TA}{p pos:Pos}{kk:Nat}{elts:List Expr}{tp:Pos}(hK:X.K=K)(hg:Gl X "enumerate")(hm:X.mg "enumerate" =none)(ha:PA X [e] ta)
  (hs:Qb [e] X.env=[(false,eval e X.env)]:=by rfl):
  PI X (.Tuple elts kk tp) (.Call (.Name "enumerate" p) [e] [] pos) (KQ K ta):=by
 subst hK;intro pins s σ H R I h;refine Call_ (kL I hg hm (by decide+kernel:bootBuiltins "enumerate" =some (.type "enumerate")) (PyProof.Rows.callWith_type1 (bf (ha pos pins s σ H _ I h) fun us s2 ⟨vs,H2,I2,r1,a,xs,e1,hq,hR⟩=>?_) hs rfl) (by decide+kernel) (by decide+kernel));subst e1;obtain⟨u,rfl,ru⟩:=vals1 r1;cases ru;obtain⟨its,rv,pl,hz⟩:=I2.list hq;refine call_enumerate_list pl.isList fun h' e0 it0 sz k0=>?_;have lta: @LT.lt Nat _ a s2.heap.objs.size:=by obtain⟨o,n,e,_⟩:=pl;exact Qd.lt_size e
 refine wpAny_pyIter_enum e0 ?_;refine⟨s2.heap.objs.size+1,[s2.heap.objs.size+1,s2.heap.objs.size],_,_,H2,rfl,I2.kept (t':=s2.toks) k0,Ah a (s2.heap.objs.size+1) s2.heap.objs.size xs (Nat.succ_ne_self _) (PM (Nat.lt_succ_of_lt lta)) (PM lta),⟨⟨.none,e0⟩,it0⟩,fun b hb=>?_,hR⟩;rcases List.mem_cons.mp hb with z|z
 .rw[z];exact I2.qy (Nat.le_succ _) (I2.aX.fresh (Nat.le_succ _))
 .have z:b=s2.heap.objs.size:=by simpa using z
  rw[z];exact I2.qy (PK _) (I2.aX.fresh (PK _))
def dF(T C:String):Option Bool:=if(PX.type T==PX.type C)=true then some true else if W.kitMeta C=true then(fastBuiltinMro T).map (·.contains (PX.type C))else none
theorem aM(K:W.Frag){T C:String}{b:Bool}(h:dF T C=some b):W.kitOne K (.type T) (.type C)=some b:=h
theorem vE(K:W.Frag):W.kitOne K (.type "int") (.type "bool")=some false:=aM K (by decide+kernel)
end L2
namespace Sw
open PySem L2
def ld(xs:List Int)(x:Int):Int:=xs.getD (x-1).toNat 0
def dY(f:Int->Int):Nat->Int->Int
 |0,x=>x
 |k+1,x=>f (dY f k x)
theorem nK(f:Int->Int)(j:Nat)(x:Int):∀k,dY f (k+j) x=dY f k (dY f j x)
 |0=>by rw[Nat.zero_add];rfl
 |k+1=>by rw[Nat.succ_add];show f _=f _;rw[nK f j x k]
theorem o9{n:Int}{xs:List Int}(o:Ord n xs){x:Int}(h1:1<=x)(h2:x<=n):xs[(x-1).toNat]?=some (ld xs x):=by
 have:=o.length;unfold ld;rw[Pq,Ph (by lia)];rfl
theorem My{n:Int}{xs:List Int}(o:Ord n xs){x:Int}(h1:1<=x)(h2:x<=n):1<=ld xs x/\ld xs x<=n:=o.mem.mp (Pr (o9 o h1 h2))
theorem Kj{n:Int}{xs:List Int}(o:Ord n xs){x y:Int}(h1:1<=x)(h2:x<=n)(h3:1<=y)(h4:y<=n)(e:ld xs x=ld xs y):x=y:=by
 have a:=o9 o h1 h2;have b:=o9 o h3 h4;rw[e]at a;obtain⟨p,pa⟩:=List.getElem?_eq_some_iff.mp a;obtain⟨q,qa⟩:=List.getElem?_eq_some_iff.mp b;have:=(List.getElem_inj (i:=(x-1).toNat) (j:=(y-1).toNat) (h₀:=p) (h₁:=q) o.nodup).mp (pa.trans qa.symm);lia
theorem dH{n:Int}{xs:List Int}(o:Ord n xs){x:Int}(h1:1<=x)(h2:x<=n):∀k,1<=dY (ld xs) k x/\dY (ld xs) k x<=n
 |0=>⟨h1,h2⟩
 |k+1=>My o (dH o h1 h2 k).1 (dH o h1 h2 k).2
theorem wy{n:Int}{xs:List Int}(o:Ord n xs){x y:Int}(h1:1<=x)(h2:x<=n)(h3:1<=y)(h4:y<=n):∀k,dY (ld xs) k x=dY (ld xs) k y->x=y
 |0,e=>e
 |k+1,e=>wy o h1 h2 h3 h4 k (Kj o (dH o h1 h2 k).1 (dH o h1 h2 k).2 (dH o h3 h4 k).1 (dH o h3 h4 k).2 e)
theorem Eu{n:Int}{xs:List Int}(o:Ord n xs){x:Int}(h1:1<=x)(h2:x<=n):∃k,k<n.toNat/\dY (ld xs) (k+1) x=x:=by
 apply PV;intro no;have hne:∀i j,i<j->j<=n.toNat->dY (ld xs) i x≠dY (ld xs) j x:=by
  intro i j hij hj e;apply no;refine⟨j-i-1,by lia,?_⟩;have e2:dY (ld xs) (i+(j-i)) x=dY (ld xs) i (dY (ld xs) (j-i) x):=nK _ _ _ _;rw[show i+(j-i)=j by lia,←e]at e2;have q:=dH o h1 h2 (j-i);have:=wy o h1 h2 q.1 q.2 i e2;rw[show j-i-1+1=j-i by lia];exact this.symm
 have nd:((List.range (n.toNat+1)).map (fun k=>dY (ld xs) k x)).Nodup:=by
  rw[List.Nodup,List.pairwise_iff_getElem];intro i j hi hj hij;simp only[List.getElem_map,List.getElem_range];simp at hj;exact hne i j hij (by lia)
 have le:=List.Nodup.length_le_of_subset nd (l₂:=cZ 1 (n+1)) (by
  intro y hy;obtain⟨k,_,rfl⟩:=List.mem_map.mp hy;have:=dH o h1 h2 k;exact c6.mpr (by lia))
 rw[Pe,List.length_range,aO]at le;lia
def gj(xs:List Int)(x:Int):Nat:=(List.range xs.length).findIdx (fun k=>dY (ld xs) (k+1) x==x)+1
def iQ(xs:List Int)(x:Int):List Int:=(List.range (gj xs x)).map fun k=>dY (ld xs) k x
theorem Ea{n:Int}{xs:List Int}(o:Ord n xs){x:Int}(h1:1<=x)(h2:x<=n):gj xs x<=n.toNat:=by
 obtain⟨k,hk,e⟩:=Eu o h1 h2;have:=List.findIdx_lt_length_of_exists (xs:=List.range xs.length) (p:=fun k=>dY (ld xs) (k+1) x==x) ⟨k,List.mem_range.mpr (by rw[o.length];exact hk),by simpa using e⟩;rw[List.length_range,o.length]at this;unfold gj;rw[o.length];lia
theorem oN{n:Int}{xs:List Int}(o:Ord n xs){x:Int}(h1:1<=x)(h2:x<=n):dY (ld xs) (gj xs x) x=x:=by
 obtain⟨k,hk,e⟩:=Eu o h1 h2;have lt:=List.findIdx_lt_length_of_exists (xs:=List.range xs.length) (p:=fun k=>dY (ld xs) (k+1) x==x) ⟨k,List.mem_range.mpr (by rw[o.length];exact hk),by simpa using e⟩;have:=List.findIdx_getElem (xs:=List.range xs.length) (p:=fun k=>dY (ld xs) (k+1) x==x) (w:=lt);rw[List.getElem_range]at this;unfold gj;simpa using this
theorem vS{xs:List Int}{x:Int}{j:Nat}(h0:0<j)(h:j<gj xs x):dY (ld xs) j x≠x:=by
 unfold gj at h;have lt:j-1<(List.range xs.length).findIdx (fun k=>dY (ld xs) (k+1) x==x):=by lia
 have:=List.not_of_lt_findIdx lt;rw[List.getElem_range]at this;rw[show j-1+1=j by lia]at this;simpa using this
theorem BM{n:Int}{xs:List Int}(o:Ord n xs){x:Int}(h1:1<=x)(h2:x<=n)(k:Nat):∃j,j<gj xs x/\dY (ld xs) k x=dY (ld xs) j x:=by
 induction k with
 |zero=>exact⟨0,by unfold gj;lia,rfl⟩
 |succ k ih=>
  obtain⟨j,hj,e⟩:=ih;by_cases h:j+1<gj xs x
  .exact⟨j+1,h,by show ld xs _=ld xs _;rw[e]⟩
  .refine⟨0,by unfold gj;lia,?_⟩
   show ld xs _=x;rw[e];have:j+1=gj xs x:=by lia
   have q:=oN o h1 h2;rw[←this]at q;exact q
theorem iK{n:Int}{xs:List Int}(o:Ord n xs){x:Int}(h1:1<=x)(h2:x<=n){y:Int}:y∈iQ xs x↔∃k,dY (ld xs) k x=y:=by
 unfold iQ;rw[List.mem_map];constructor
 .rintro⟨k,_,e⟩
  exact⟨k,e⟩
 .rintro⟨k,e⟩
  obtain⟨j,hj,e2⟩:=BM o h1 h2 k;exact⟨j,List.mem_range.mpr hj,e2.symm.trans e⟩
def least(xs:List Int)(x:Int):Bool:=(iQ xs x).all fun y=>decide (x<=y)
theorem uW{n:Int}{xs:List Int}(o:Ord n xs){x:Int}(h1:1<=x)(h2:x<=n):least xs x=true↔∀k,x<=dY (ld xs) k x:=by
 unfold least;rw[List.all_eq_true];constructor
 .intro h k
  exact of_decide_eq_true (h _ ((iK o h1 h2).mpr ⟨k,rfl⟩))
 .intro h y hy
  obtain⟨k,rfl⟩:=(iK o h1 h2).mp hy;exact decide_eq_true (h k)
def bj(n:Int)(xs:List Int):List (List Int):=((cZ 1 (n+1)).filter (least xs)).map (iQ xs)
theorem Cj{n:Int}{xs ys:List Int}(a:xs.length=n.toNat)(b:ys.length=n.toNat)(h:∀x,1<=x->x<=n->ld xs x=ld ys x):xs=ys:=by
 apply List.ext_getElem
 .rw[a,b]
 intro i h1 h2;have:=h (1+i) (by lia) (by lia);unfold ld at this;rw[show(1+(i:Int)-1).toNat=i by lia,Pq,Pq,Ph h1,Ph h2]at this;exact this
def EH:Nat->List Int->List (Int×Int)
 |0,_=>[]
 |m+1,xs=>if ld xs ((m:Int)+1)=(m:Int)+1 then EH m xs else EH m (xs.map (MC · (ld xs ((m:Int)+1),(m:Int)+1)))++[(ld xs ((m:Int)+1),(m:Int)+1)]
def FL(xs:List Int):List (Int×Int):=EH xs.length xs
theorem sZ:∀{l:List Int},l≠[]->∃M,M∈l/\∀b∈l,M<=b
 |[],h=>absurd rfl h
 |[a],_=>⟨a,List.mem_singleton.mpr rfl,fun b hb=>by rw[List.mem_singleton.mp hb];exact Int.le_refl _⟩
 |a::b::r,_=>by
  obtain⟨M,h1,h2⟩:=sZ (l:=b::r) (by simp);by_cases h:a<=M
  .refine⟨a,Pt,fun c hc=>?_⟩
   rcases List.mem_cons.mp hc with rfl|hc
   .exact Int.le_refl _
   .exact Int.le_trans h (h2 c hc)
  .refine⟨M,Pu _ h1,fun c hc=>?_⟩
   rcases List.mem_cons.mp hc with rfl|hc
   .lia
   .exact h2 c hc
end Sw
namespace L2
open PySem
theorem Du{K:W.Frag}{a:PY}{xs:List V}{g:TG}{tb:TS}{D:Ends}{σ:St}{H:Hp}(Pv:Nat->St->Hp->Prop)(h0:Pv 0 σ H)(hl:∀i σ H,i<=xs.length->Pv i σ H->aI K H a xs)
  (hs:∀i σ H t v,xs[i]?=some v->Pv i σ H->H t=none->g (.ref t) σ (upd H t (.tup [.int (i:Int),v])) fun σ2 H2=>tb {D with nx:=Pv (i+1),ct:=Pv (i+1),bk:=D.nx} σ2 H2) (hd:∀σ H,Pv xs.length σ H->D.nx σ H):
  ∃W:Nat->Nat->St->Hp->Prop,(∃m,W 0 m σ H)/\∀i m σ H,W i m σ H->
   ((FD K a xs).stop i H/\D.nx σ H)\/((FD K a xs).go i H/\∃N:St->Hp->Prop,(∀σ' H',N σ' H'->∃m',m'<m/\W (i+1) m' σ' H')/\∀x H',(FD K a xs).Hs i H x H'->g x σ H' fun σ2 H2=>tb {D with nx:=N,ct:=N,bk:=D.nx} σ2 H2):=by
 refine⟨fun i m σ H=>m=xs.length-i/\i<=xs.length/\Pv i σ H,⟨xs.length,by simp,PQ _,h0⟩,?_⟩;rintro i m σ H ⟨rfl,hi,p⟩;by_cases hlt:i<xs.length
 .refine .inr ⟨⟨hlt,hl i σ H hi p⟩,Pv (i+1),fun σ' H' p'=>⟨xs.length-(i+1),by lia,rfl,hlt,p'⟩,fun x H' y=>?_⟩
  obtain⟨t,v,ht,rfl,hv,rfl⟩:=y;exact hs i σ H t v hv p ht
 .have e:i=xs.length:=by lia
  subst e;exact .inl ⟨⟨rfl,hl _ σ H (PK _) p⟩,hd σ H p⟩
end L2
namespace Sw
open PySem L2
theorem n8{n:Int}{xs:List Int}(o:Ord n xs){x y:Int}(h1:1<=x)(h2:x<=n)(h:y∈iQ xs x):x∈iQ xs y:=by
 obtain⟨k,rfl⟩:=(iK o h1 h2).mp h;obtain⟨j,hj,e⟩:=BM o h1 h2 k;have r:=dH o h1 h2 k;refine(iK o r.1 r.2).mpr ⟨gj xs x-j,?_⟩;rw[e,←nK,show gj xs x-j+j=gj xs x by lia];exact oN o h1 h2
theorem uS{n:Int}{xs:List Int}(o:Ord n xs){x y z:Int}(h1:1<=x)(h2:x<=n)(h:y∈iQ xs x)(h':z∈iQ xs y):z∈iQ xs x:=by
 obtain⟨k,rfl⟩:=(iK o h1 h2).mp h;have r:=dH o h1 h2 k;obtain⟨j,rfl⟩:=(iK o r.1 r.2).mp h';exact(iK o h1 h2).mpr ⟨j+k,nK _ _ _ _⟩
theorem FX{n:Int}{xs:List Int}(o:Ord n xs){x y:Int}(h1:1<=x)(h2:x<=n)(h:y∈iQ xs x):1<=y/\y<=n:=by
 obtain⟨k,rfl⟩:=(iK o h1 h2).mp h;exact dH o h1 h2 k
theorem rH{xs:List Int}(x:Int):x∈iQ xs x:=by
 unfold iQ;exact List.mem_map.mpr ⟨0,List.mem_range.mpr (by unfold gj;lia),rfl⟩
theorem mU(xs:List Int)(x:Int):(iQ xs x).length=gj xs x:=by unfold iQ;rw[Pe,List.length_range]
theorem Fm{n:Int}{xs:List Int}(o:Ord n xs){x:Int}(h1:1<=x)(h2:x<=n):∃m,m∈iQ xs x/\least xs m=true/\m<=x:=by
 obtain⟨M,m1,m2⟩:=sZ (l:=iQ xs x) (List.ne_nil_of_mem (rH x));refine⟨M,m1,?_,m2 x (rH x)⟩;unfold least;rw[List.all_eq_true];intro y hy;exact decide_eq_true (m2 y (uS o h1 h2 m1 hy))
theorem Dd{n:Int}{xs:List Int}(o:Ord n xs){i:Nat}(hi:(i:Int)<n):least xs (1+i)=true↔¬∃m∈((cZ 1 (n+1)).take i).filter (least xs),(1+(i:Int))∈iQ xs m:=by
 have b1:(1:Int)<=1+i:=by lia
 have b2:(1:Int)+i<=n:=by lia
 have tk:∀m,m∈(cZ 1 (n+1)).take i↔1<=m/\m<=i:=by
  intro m;constructor
  .intro h
   obtain⟨j,hj,e⟩:=List.mem_iff_getElem.mp h;rw[Pn]at hj;rw[List.getElem_take]at e;have g:=eD (lo:=1) (hi:=n+1) (i:=j) (by rw[aO]at hj;lia);rw[Ph (by lia)]at g;have g:=PU g;rw[e]at g;lia
  .rintro⟨h3,h4⟩
   refine List.mem_iff_getElem.mpr ⟨(m-1).toNat,by rw[Pn,aO];lia,?_⟩;rw[List.getElem_take];have g:=eD (lo:=1) (hi:=n+1) (i:=(m-1).toNat) (by lia);rw[Ph (by rw[aO];lia)]at g;have g:=PU g;rw[g];lia
 constructor
 .rintro h ⟨m,hm,hmo⟩
  rw[List.mem_filter,tk]at hm;have s:=n8 o hm.1.1 (by lia) hmo;unfold least at h;have:=of_decide_eq_true (List.all_eq_true.mp h m s);lia
 .intro h
  obtain⟨m,m1,m2,m3⟩:=Fm o b1 b2;by_cases e:m=1+(i:Int)
  .rw[←e];exact m2
  .exfalso
   apply h;have mi:=FX o b1 b2 m1;exact⟨m,List.mem_filter.mpr ⟨(tk m).mpr (by lia),m2⟩,n8 o b1 b2 m1⟩
theorem Hc{ns:List Int}{k:Nat}{z:Int}(h:ns.length=k+1)(e:ns[k]?=some z):wm (ns.map V.int) (-1)=some (V.int z):=by
 unfold wm Gr;rw[if_neg (by decide),if_pos (by rw[Pe];lia)];show(ns.map V.int)[(-1+((ns.map V.int).length:Int)).toNat]?=_;rw[Pe,show(-1+(ns.length:Int)).toNat=k by lia,Pf,e];rfl
theorem wG(x:Int)(ms:List Int):CO (.int x) (ms.map V.int)=decide (x∈ms):=by
 unfold CO;rw[List.any_map,Bool.eq_iff_iff,List.any_eq_true];simp only[decide_eq_true_eq];constructor
 .rintro⟨y,hy,e⟩
  have e:zY (.int y) (.int x)=true:=e;unfold zY at e;have:y=x:=by simpa using e
  rw[←this];exact hy
 .intro h
  refine⟨x,h,?_⟩;show zY (.int x) (.int x)=true;unfold zY;simp
theorem u9(ms:List Int):(ms.map V.int).all lh=true:=by
 rw[List.all_map,List.all_eq_true];intro x _;rfl
theorem ED(ms:List Bool):(ms.map V.bl).all lh=true:=by
 rw[List.all_map,List.all_eq_true];intro x _;rfl
def Mw(n:Int)(xs r:List Int):Prop:=r≠[]/\∀(i:Nat)(x:Int),r[i]?=some x->1<=x/\x<=n/\r[(i+1)%r.length]?=some (ld xs x)
structure KU(n:Int)(xs:List Int)(rs:List (List Int)):Prop where
 Jz:∀r∈rs,Mw n xs r
 nd:rs.flatten.Nodup
 rest:∀x,1<=x->x<=n->x∉rs.flatten->ld xs x=x
theorem HN{n:Int}{xs:List Int}(o:Ord n xs){x:Int}(h1:1<=x)(h2:x<=n){k:Nat}(h:k<gj xs x):dY (ld xs) ((k+1)%gj xs x) x=ld xs (dY (ld xs) k x):=by
 by_cases e:k+1<gj xs x
 .rw[Nat.mod_eq_of_lt e];rfl
 .have e:k+1=gj xs x:=by lia
  rw[e,Nat.mod_self];have:=oN o h1 h2;rw[←e]at this;exact this.symm
theorem Il{n:Int}{xs:List Int}(o:Ord n xs){x:Int}(h1:1<=x)(h2:x<=n):Mw n xs (iQ xs x):=by
 refine⟨List.ne_nil_of_mem (rH x),fun i y hy=>?_⟩;have hi:i<gj xs x:=by rw[←mU xs x];exact(List.getElem?_eq_some_iff.mp hy).1
 rw[mU];unfold iQ at hy⊢;rw[Pf,List.getElem?_range hi]at hy;have hy:dY (ld xs) i x=y:=by simpa using hy
 have r:=dH o h1 h2 i;rw[Pf,List.getElem?_range (Nat.mod_lt _ (by lia))];refine⟨by lia,by lia,?_⟩;show some (dY (ld xs) ((i+1)%gj xs x) x)=_;rw[HN o h1 h2 hi,hy]
theorem Di{n:Int}{xs:List Int}(o:Ord n xs){x:Int}(h1:1<=x)(h2:x<=n):(iQ xs x).Nodup:=by
 unfold iQ;rw[List.Nodup,List.pairwise_map];refine(List.Pairwise.and_mem.mp (List.pairwise_lt_range (n:=gj xs x))).imp ?_;rintro i j ⟨hi,hj,hij⟩ e;have hi:=List.mem_range.mp hi;have hj:=List.mem_range.mp hj;have e2:dY (ld xs) (i+(j-i)) x=dY (ld xs) i (dY (ld xs) (j-i) x):=nK _ _ _ _;rw[show i+(j-i)=j by lia,←e]at e2;have q:=dH o h1 h2 (j-i);have:=wy o h1 h2 q.1 q.2 i e2;exact vS (by lia) (by lia) this.symm
theorem lQ{n:Int}{xs:List Int}(o:Ord n xs):(bj n xs).flatten.Nodup:=by
 unfold bj;rw[List.Nodup,List.pairwise_flatten];constructor
 .intro r hr
  obtain⟨x,hx,rfl⟩:=List.mem_map.mp hr;have hx:=c6.mp (List.mem_filter.mp hx).1;exact Di o hx.1 (by lia)
 .rw[List.pairwise_map]
  have nd:((cZ 1 (n+1)).filter (least xs)).Nodup:=(lO 1 (n+1)).filter _;refine(List.Pairwise.and_mem.mp nd).imp ?_;rintro a b ⟨ha,hb,ne⟩ y hya z hzb e;subst e;have ha':=List.mem_filter.mp ha;have hb':=List.mem_filter.mp hb;have ia:=c6.mp ha'.1;have ib:=c6.mp hb'.1;have yb:=n8 o ib.1 (by lia) hzb;have ab:b∈iQ xs a:=uS o ia.1 (by lia) hya yb;have ba:a∈iQ xs b:=n8 o ia.1 (by lia) ab;have l1:=ha'.2;have l2:=hb'.2;unfold least at l1 l2;have e1:=of_decide_eq_true (List.all_eq_true.mp l1 b ab);have e2:=of_decide_eq_true (List.all_eq_true.mp l2 a ba);exact ne (by lia)
theorem vZ{n:Int}{xs:List Int}(o:Ord n xs){x:Int}(h1:1<=x)(h2:x<=n):x∈(bj n xs).flatten:=by
 obtain⟨m,m1,m2,m3⟩:=Fm o h1 h2;have mi:=FX o h1 h2 m1;refine List.mem_flatten.mpr ⟨iQ xs m,?_,n8 o h1 h2 m1⟩;unfold bj;exact List.mem_map.mpr ⟨m,List.mem_filter.mpr ⟨c6.mpr (by lia),m2⟩,rfl⟩
theorem BH{n:Int}{xs:List Int}(o:Ord n xs){r:List Int}(h:r∈bj n xs):Mw n xs r:=by
 unfold bj at h;obtain⟨x,hx,rfl⟩:=List.mem_map.mp h;have hx:=c6.mp (List.mem_filter.mp hx).1;exact Il o hx.1 (by lia)
theorem FF{n:Int}{xs:List Int}(o:Ord n xs):KU n xs (bj n xs):=⟨fun r h=>BH o h,lQ o,fun x h1 h2 h=>absurd (vZ o h1 h2) h⟩
theorem Gz(n:Int):KU n (cZ 1 (n+1)) []:=by
 refine⟨fun r h=>(by cases h),by simp,fun x h1 h2 _=>?_⟩;unfold ld;rw[Pq,eD (by lia)];show 1+(((x-1).toNat:Nat):Int)=x;lia
end Sw
namespace L2
open PySem PySem.Spec PyProof.Rows
mutual
inductive DT(H:Hp)(P:PY->Prop):V->PyData->Prop
 |cE:DT H P .cE .none
 |bl (b:Bool):DT H P (.bl b) (.bool b)
 |int (i:Int):DT H P (.int i) (.int i)
 |str (x:Str):DT H P (.str x) (.str x)
 |lst {a:PY} {vs:List V} {ds:List PyData}:H a=some (.lst vs)->P a->oK H P vs ds->DT H P (.ref a) (.list ds)
 |tup {a:PY} {vs:List V} {ds:List PyData}:H a=some (.tup vs)->P a->oK H P vs ds->DT H P (.ref a) (.tuple ds)
inductive oK(H:Hp)(P:PY->Prop):List V->List PyData->Prop
 |nil:oK H P [] []
 |cons {v:V} {d:PyData} {vs:List V} {ds:List PyData}:DT H P v d->oK H P vs ds->oK H P (v::vs) (d::ds)
end
mutual
theorem DT.keep {H H':Hp}{P:PY->Prop}(k:C5 P H H'):∀{v:V}{d:PyData},DT H P v d->DT H' P v d
 |_,_,.cE=> .cE
 |_,_,.bl b=> .bl b
 |_,_,.int i=> .int i
 |_,_,.str x=> .str x
 |_,_,.lst h p r=> .lst (k _ _ p h) p (r.keep k)
 |_,_,.tup h p r=> .tup (k _ _ p h) p (r.keep k)
theorem oK.keep {H H':Hp}{P:PY->Prop}(k:C5 P H H'):∀{vs:List V}{ds:List PyData},oK H P vs ds->oK H' P vs ds
 |_,_,.nil=> .nil
 |_,_,.cons h r=> .cons (h.keep k) (r.keep k)
end
theorem oK.length {H:Hp}{P:PY->Prop}:∀{vs:List V}{ds:List PyData},oK H P vs ds->vs.length=ds.length
 |_,_,.nil=>rfl
 |_,_,.cons h r=>by rw[Pl,Pl,r.length]
theorem oK.append {H:Hp}{P:PY->Prop}:∀{vs ws:List V}{ds es:List PyData},oK H P vs ds->oK H P ws es->oK H P (vs++ws) (ds++es)
 |_,_,_,_,.nil,y=>y
 |_,_,_,_,.cons h x,y=> .cons h (x.append y)
theorem oK.snoc {H:Hp}{P:PY->Prop}{vs:List V}{ds:List PyData}{v:V}{d:PyData}(x:oK H P vs ds)(h:DT H P v d):oK H P (vs++[v]) (ds++[d]):=x.append (.cons h .nil)
theorem oK.get {H:Hp}{P:PY->Prop}:∀{vs:List V}{ds:List PyData}{i:Nat}{x:V},oK H P vs ds->vs[i]?=some x->∃d,ds[i]?=some d/\DT H P x d
 |_,_,_,_,.nil,e=>by simp at e
 |_,_,0,_,.cons h x,e=>by simp at e;subst e;exact⟨_,rfl,h⟩
 |_,_,i+1,_,.cons h x,e=>by
  obtain⟨d,e1,e2⟩:=x.get (i:=i) (by simpa using e);exact⟨d,by simpa using e1,e2⟩
theorem oK.ints {H:Hp}{P:PY->Prop}:∀(ns:List Int),oK H P (ns.map V.int) (ns.map PyData.int)
 |[]=> .nil
 |n::r=> .cons (.int n) (oK.ints r)
def Lz:PyData->String
 | .none=> "NoneType"
 | .bool _=> "bool"
 | .int _=> "int"
 | .str _=> "str"
 | .list _=> "list"
 | .tuple _=> "tuple"
 | .dict _=> "dict"
theorem DT.ty {K:W.Frag}{H:Hp}{P:PY->Prop}{v:V}{d:PyData}(h:DT H P v d):mQ K H v (.type (Lz d)):=by
 cases h with
 |cE=>exact .cE
 |bl b=>exact .bl b
 |int i=>exact .int i
 |str x=>exact .str x
 |lst h p r=>exact .lst h
 |tup h p r=>exact .tup h
def OP:PyData->Bool
 | .list _=>true
 |_=>false
theorem Ee(K:W.Frag){H:Hp}{P:PY->Prop}{v:V}{d:PyData}(h:DT H P v d):W.kitOne K (.type (Lz d)) (.type "list")=some (OP d):=by
 cases h with
 |cE=>exact aM K (show dF "NoneType" "list" =some false by decide+kernel)
 |bl b=>exact aM K (show dF "bool" "list" =some false by decide+kernel)
 |int i=>exact aM K (show dF "int" "list" =some false by decide+kernel)
 |str x=>exact aM K (show dF "str" "list" =some false by decide+kernel)
 |lst h p r=>exact aM K (show dF "list" "list" =some true by decide+kernel)
 |tup h p r=>exact aM K (show dF "tuple" "list" =some false by decide+kernel)
def OU:PyData->Bool
 | .tuple _=>true
 |_=>false
theorem kit_tuple(K:W.Frag){H:Hp}{P:PY->Prop}{v:V}{d:PyData}(h:DT H P v d):W.kitOne K (.type (Lz d)) (.type "tuple")=some (OU d):=by
 cases h with
 |cE=>exact aM K (show dF "NoneType" "tuple" =some false by decide+kernel)
 |bl b=>exact aM K (show dF "bool" "tuple" =some false by decide+kernel)
 |int i=>exact aM K (show dF "int" "tuple" =some false by decide+kernel)
 |str x=>exact aM K (show dF "str" "tuple" =some false by decide+kernel)
 |lst h p r=>exact aM K (show dF "list" "tuple" =some false by decide+kernel)
 |tup h p r=>exact aM K (show dF "tuple" "tuple" =some true by decide+kernel)
def OO:PyData->Bool
 | .int _=>true
 | .bool _=>true
 |_=>false
theorem Iu(K:W.Frag){H:Hp}{P:PY->Prop}{v:V}{d:PyData}(h:DT H P v d):W.kitOne K (.type (Lz d)) (.type "int")=some (OO d):=by
 cases h with
 |cE=>exact aM K (show dF "NoneType" "int" =some false by decide+kernel)
 |bl b=>exact aM K (show dF "bool" "int" =some true by decide+kernel)
 |int i=>exact aM K (show dF "int" "int" =some true by decide+kernel)
 |str x=>exact aM K (show dF "str" "int" =some false by decide+kernel)
 |lst h p r=>exact aM K (show dF "list" "int" =some false by decide+kernel)
 |tup h p r=>exact aM K (show dF "tuple" "int" =some false by decide+kernel)
def OT:PyData->Bool
 | .bool _=>true
 |_=>false
theorem Fj(K:W.Frag){H:Hp}{P:PY->Prop}{v:V}{d:PyData}(h:DT H P v d):W.kitOne K (.type (Lz d)) (.type "bool")=some (OT d):=by
 cases h with
 |cE=>exact aM K (show dF "NoneType" "bool" =some false by decide+kernel)
 |bl b=>exact aM K (show dF "bool" "bool" =some true by decide+kernel)
 |int i=>exact aM K (show dF "int" "bool" =some false by decide+kernel)
 |str x=>exact aM K (show dF "str" "bool" =some false by decide+kernel)
 |lst h p r=>exact aM K (show dF "list" "bool" =some false by decide+kernel)
 |tup h p r=>exact aM K (show dF "tuple" "bool" =some false by decide+kernel)
def iz(h:Qd)(e:PY)(b:Option PY:=none):Prop:=∃o vs c,h.get? e=some o/\o.data= .fields vs/\vs[2]?=some c/\(b=none->c=PX.none)
section
variable{M:Model}{A:P5}{E:PX->PZ->Prop}{s:PZ}{B:Qd}{env:Env}{outer:List Env}{L e:PY}{cls a0 c:PX}{b:Option PY}
abbrev Ft(head:PX)(L:PY)(pl:List PX):Obj:={cls:= .type "traceback",dict:=none,data:= .fields ([head,.ref L,.none,rawInt L,.none]++(if pl.isEmpty then List.replicate 6 PX.none else pl)).toArray}
theorem jy{o:Obj}{vs:Array PX}{head:PX}{hadNext:Bool}{Q:Unit->PZ->Prop}
  (fr:A.frames=some (env::outer)) (ff:s.heap.FunFrames B (env::outer)) (ef:env.frame=some L) (eo:s.heap.get? e=some o) (kb:B.StaysIn s.heap) (en:B.get? e=none) (ed:o.data= .fields vs) (z0:vs[0]?=some a0) (z2:vs[2]?=some c) (zb:b=none->c=PX.none)
  (k:∀h',Qd.NotedW B (env::outer) e o.cls a0 (rawInt L) s.heap h'->iz h' e b->Q () {s with heap:=h'}):
  Qf M A (do let a←frameOf env;let pl←entryPlaceOf L hadNext;let b←EntryCells.newEntry head a .none (rawInt L) .none pl;setField (.ref e) 1 b) Q E s:=by
 have n2:2<vs.size:=(Array.getElem?_eq_some_iff.mp z2).1;have n1:1<vs.size:=by lia
 have eno:e∉(env::outer).filterMap (·.frame):=fun hm=>by
  obtain⟨_,o',ho,hnf⟩:=ff.mem hm;rw[eo]at ho;cases ho;exact hnf vs ed
 refine P8 (wpAny_frameOf_fun fr ff ef fun g hs=>P8 (wpAny_entryPlaceOf fun pl hpl=>?_));unfold EntryCells.newEntry newFields;refine P8 (wpAny_newObj_type ?_ (hpl.sizeOk5 _ _ _ _ _));have eo1:g.get? e=some o:=(hs.2.1 e eno).trans eo;have kb1:B.StaysIn g:=fun b u hb=>(hs.2.1 b fun hm=>by rw[(ff.mem hm).1]at hb;cases hb).trans (kb b u hb);have eo2:=Qd.get?_push_of_some (h:=g) (Ft head L pl) eo1;have nT:g.objs.size≠e:=Nat.ne_of_gt (Qd.lt_size eo1);have d3:=Obj.data_mapFields ed (·.setIfInBounds 1 (PX.ref g.objs.size));have eo3:=Qd.get?_update_self (Obj.mapFields (·.setIfInBounds 1 (PX.ref g.objs.size))) eo2 (Obj.isFreed_of_fields d3);have tb3:=(Qd.get?_update_other (g.push (Ft head L pl)) (Obj.mapFields (·.setIfInBounds 1 (PX.ref g.objs.size))) (Ne.symm nT)).trans (Qd.get?_push_size g rfl);have kg:∀b u,b≠e->g.get? b=some u->((g.push (Ft head L pl)).update e (Obj.mapFields (·.setIfInBounds 1 (PX.ref g.objs.size)))).get? b=some u:=fun b u hbe hb=>
  (Qd.get?_update_other _ _ (Ne.symm hbe)).trans (Qd.get?_push_of_some _ hb)
 have noE:∀b u,s.heap.get? b=some u->(∀ws,u.data≠.fields ws)->b≠e:=fun b u hb hnf q=>by
  rw[q,eo]at hb;cases hb;exact hnf vs ed
 refine wpAny_setField eo2 ed n1 (k _ ⟨fun b u hb=>kg b u (fun q=>by rw[q,en]at hb;cases hb) (kb1 b u hb),ff.of_keeps fun b u hb hnf=>?_,?_,fun b u hb hnf=>?_⟩ ⟨_,_,c,eo3,d3,?_,zb⟩)
 .obtain⟨sl,hq⟩:=hs.2.2 b u hb
  exact⟨_,kg b _ (noE b u hb hnf) hq,rfl⟩
 .refine⟨_,_,g.objs.size,_,_,eo3,⟨Obj.cls_mapFields _ _,?_⟩,d3,by simp[n1],kb1.fresh,nT,tb3,rfl,?_⟩
  .rw[Array.getElem?_setIfInBounds_ne (by decide)];exact z0
  .rcases hpl with rfl|⟨_,_,_,_,_,_,_,rfl⟩<;>simp
 .obtain⟨sl,hq⟩:=hs.2.2 b u hb
  exact⟨sl,kg b _ (noE b u hb hnf) hq⟩
 .rw[Array.getElem?_setIfInBounds_ne (by decide)];exact z2
theorem iz.sees {h:Qd}(l:iz h e b)(t:h.TracedW B e cls a0):∃oe vs T oT ts c,(b=none->c=PX.none)/\h.get? e=some oe/\oe.cls=cls/\vs[0]?=some a0/\vs[2]?=some c/\oe.data= .fields vs/\vs[1]?=some (.ref T)/\B.get? T=none/\T≠e/\h.get? T=some oT/\oT.data= .fields ts/\ts[3]?=some .none:=by
 obtain⟨o,vs,c,h1,h2,h3,hb⟩:=l;obtain⟨oe,ws,T,oT,ts,g1,⟨g2,g3⟩,g4,g5,g6,g7,g8,g9,g10⟩:=t;rw[h1]at g1;cases g1;rw[h2]at g4;cases g4;exact⟨o,vs,T,oT,ts,c,hb,h1,g2,g3,h3,h2,g5,g6,g7,g8,g9,g10⟩
theorem pF{Q:Unit->PZ->Prop}(fr:A.frames=some (env::outer))(ef:env.frame=some L)(fl:Qd.FlyingW B (env::outer) e cls a0 s.heap)(l:iz s.heap e b)
  (k:∀h',Qd.HeldW B (env::outer) e cls a0 L h'->s.heap.UpToSlots h'->iz h' e b->Q () {s with heap:=h'}):Qf M A (noteFrame (.ref e) env) Q E s:=by
 obtain⟨kb,en,ff,t⟩:=fl;obtain⟨oe,vs,T,oT,ts,c,hb,eo,rfl,z0,z2,ed,z1,tn,nT,et,dT,z3⟩:=l.sees t;unfold noteFrame;simp only[ef];refine P8 (wpAny_field eo ed z1 ?_);rw[if_pos (by simp)];refine P8 (wpAny_field et dT z3 ?_);rw[if_neg (by simp[rawInt])];refine P8 (wpAny_setField et dT (Array.getElem?_eq_some_iff.mp z3).1 ?_);have oth:∀b,b≠T->(s.heap.update T (Obj.mapFields (·.setIfInBounds 3 PX.none))).get? b=s.heap.get? b:=fun b hb=>Qd.get?_update_other _ _ (Ne.symm hb);have noT:∀b u,s.heap.get? b=some u->(∀ws,u.data≠.fields ws)->b≠T:=fun b u hb hnf q=>by
  rw[q,et]at hb;cases hb;exact hnf ts dT
 refine jy fr (ff.of_keeps fun b u hb hnf=>⟨u,(oth b (noT b u hb hnf)).trans hb,rfl⟩) ef ((oth e (Ne.symm nT)).trans eo) (fun b u hb=>(oth b fun q=>by rw[q,tn]at hb;cases hb).trans (kb b u hb)) en ed z0 z2 hb fun h' ⟨x1,x2,x3,x4⟩ l'=>?_;exact k h' ⟨x1,en,x2,x3⟩ (fun b u hb hnf=>x4 b u ((oth b (noT b u hb hnf)).trans hb) hnf) l'
theorem jt{fl:PX}{l:List Env}{Q:Unit->PZ->Prop}(kb:B.StaysIn s.heap)(en:B.get? e=none)(ff:s.heap.FunFrames B l)(t:s.heap.TracedAtW B e cls a0 fl)(lo:iz s.heap e b)
  (k:∀h',Qd.FlyingW B l e cls a0 h'->s.heap.UpToSlots h'->iz h' e b->Q () {s with heap:=h'}):Qf M A (setFlight (.ref e) none) Q E s:=by
 obtain⟨o,vs,c,h1,h2,h3,hcb⟩:=lo;obtain⟨oe,ws,T,oT,ts,g1,g2,g4,g5,g6,g7,g8,g9,g10⟩:=t;rw[h1]at g1;cases g1;rw[h2]at g4;cases g4;have sz:3<ts.size:=(Array.getElem?_eq_some_iff.mp g10).1;have oth:∀b,b≠T->(s.heap.update T (Obj.mapFields (·.setIfInBounds 3 ((none:Option PY).elim PX.none fun f=>rawInt f)))).get? b=s.heap.get? b:=fun b hb=>Qd.get?_update_other _ _ (Ne.symm hb);have noT:∀b u,s.heap.get? b=some u->(∀ws,u.data≠.fields ws)->b≠T:=fun b u hb hnf q=>by
  rw[q,g8]at hb;cases hb;exact hnf ts g9
 have e':=(oth e (Ne.symm g7)).trans h1;unfold setFlight;refine P8 (wpAny_field h1 h2 g5 ?_);rw[if_pos (by simp)];refine wpAny_setField g8 g9 sz (k _ ⟨fun b u hb=>(oth b fun q=>by rw[q,g6]at hb;cases hb).trans (kb b u hb),en,ff.of_keeps fun b u hb hnf=>⟨u,(oth b (noT b u hb hnf)).trans hb,rfl⟩,?_⟩ (fun b u hb hnf=>⟨u.slots,(oth b (noT b u hb hnf)).trans hb⟩) ⟨o,vs,c,e',h2,h3,hcb⟩);exact⟨o,vs,T,_,_,e',g2,h2,g5,g6,g7,Qd.get?_update_self _ g8 (Obj.isFreed_of_fields (Obj.data_mapFields g9 _)),Obj.data_mapFields g9 _,by simp[sz]⟩
theorem AQ{Q:Unit->PZ->Prop}(fr:A.frames=some (env::outer))(ef:env.frame=some L)(fl:Qd.FlyingW B (env::outer) e cls a0 s.heap)(l:iz s.heap e b)
  (k:∀h',Qd.FlyingW B (env::outer) e cls a0 h'->s.heap.UpToSlots h'->iz h' e b->Q () {s with heap:=h'}):Qf M A (leaving env (.ref e)) Q E s:=by
 unfold leaving;refine P8 (pF fr ef fl l fun g hh sm l'=>?_);obtain⟨f1,f2,f3,f4⟩:=hh;exact jt (s:={s with heap:=g}) f1 f2 f3 f4 l' fun h' a1 a2 a3=>k h' a1 (sm.trans a2) a3
theorem AW{o:Obj}{vs:Array PX}{Q:Unit->PZ->Prop}(fr:A.frames=some (env::outer))(ff:s.heap.FunFrames B (env::outer))(ef:env.frame=some L)(eo:s.heap.get? e=some o)(kb:B.StaysIn s.heap)(en:B.get? e=none)(ed:o.data= .fields vs)(z0:vs[0]?=some a0)(z1:vs[1]?=some .none)(z2:vs[2]?=some c)(zb:b=none->c=PX.none)
  (k:∀h',Qd.FlyingW B (env::outer) e o.cls a0 h'->s.heap.UpToSlots h'->iz h' e b->Q () {s with heap:=h'}):Qf M A (leaving env (.ref e)) Q E s:=by
 unfold leaving noteFrame;simp only[ef];refine P8 (P8 (wpAny_field eo ed z1 ?_));rw[if_neg (by decide)];refine jy fr ff ef eo kb en ed z0 z2 zb fun g hn l'=>?_;obtain⟨f1,f3,f4,sm⟩:=hn;exact jt (s:={s with heap:=g}) f1 en f3 f4 l' fun h' a1 a2 a3=>k h' a1 (Qd.UpToSlots.trans sm a2) a3
end
theorem bF.here {P:P0}{w:P4}{H:Hp}{h:Qd}{a:PY}{o:HO}(x:bF P w H h a o):∃ob,h.get? a=some ob:=by
 cases o with
 |lst xs=>obtain⟨_,_,_,_,e⟩:=x;exact⟨_,e⟩
 |tup xs=>obtain⟨_,_,_,ob,e,_⟩:=x;exact⟨_,e⟩
 |dK kvs=>obtain⟨_,_,_,_,o,_,_,e,_⟩:=x;exact⟨_,e⟩
 |dT kvs=>obtain⟨_,_,_,_,o,_,_,e,_⟩:=x;exact⟨_,e⟩
 |set S n=>obtain⟨o,_,_,_,e,_⟩:=x;exact⟨_,e⟩
 |ins C dx fs=>obtain⟨_,_,_,e,_⟩:=x;exact⟨_,e⟩
 |own y=>obtain⟨_,e⟩:=x;exact⟨_,e⟩
 |xd fs=>obtain⟨_,⟨_,_,_,e,_⟩,_⟩:=x;exact⟨_,e⟩
 |w9 lo hi=>obtain⟨_,_,_,e⟩:=x;exact⟨_,e⟩
 |mL ob u=>obtain⟨e,_⟩:=x;exact⟨_,e⟩
 |Jx ps=>exact⟨_,(show h.get? a=some _ from x)⟩
 |met f y=>exact⟨_,(show h.get? a=some _ from x)⟩
 |ext φ=>obtain⟨_,⟨_,e⟩,_⟩:=x;exact⟨_,e⟩
structure y9(P:P0)(w:P4)(fr:List Env)(H:Hp)(h:Qd)(e:PY)(cls a0:PX)(B:Qd)(H':Hp)(h':Qd)(bb:Option PY:=none):Prop where
 un:Un (fo fr) [] H H' h h'
 aX:ma P w H' h'
 fl:Qd.FlyingW B fr e cls a0 h'
 old:∀b o o',h.get? b=some o->b∉fo fr->h'.get? b=some o'->B.get? b=some o'
 vX:∀b u o',H' b=some u->h'.get? b=some o'->B.get? b=some o'
 p7:∀b∈fo fr,H' b=none
 lo:iz h' e bb
section
variable{P:P0}{w:P4}{fr:List Env}{H H':Hp}{h h' h'':Qd}{e:PY}{cls a0:PX}{B:Qd}{bb:Option PY}
theorem y9.Jf (fun_:Un (fo fr) [] H H' h h')(fhok:ma P w H' h')(ff:h'.FunFrames B fr)(fold:∀b o o',h.get? b=some o->b∉fo fr->h'.get? b=some o'->B.get? b=some o')
  (ftrk:∀b u o',H' b=some u->h'.get? b=some o'->B.get? b=some o') (ffrf:∀b∈fo fr,H' b=none) (fl:Qd.FlyingW B fr e cls a0 h'') (sm:h'.UpToSlots h'') (lo:iz h'' e bb):y9 P w fr H h e cls a0 B H' h'' bb where
 un:=by
  refine⟨fun b o q n hb hx=>?_,fun b o q n hb hx=>?_,fun_.free,fun b o q hx=>?_,fun_.fD,fun_.jk,fun_.jI⟩
  .have e1:=fun_.keep b o q n hb hx
   exact fl.1 b o (fold b o o q hb e1)
  .obtain⟨sl,e1⟩:=fun_.slot b o q n hb hx
   obtain⟨_,o1,e2,nf⟩:=ff.mem hb;rw[e1]at e2;cases e2;obtain⟨sl',e3⟩:=sm b _ e1 nf;exact⟨sl',e3⟩
  .obtain⟨o1,e1⟩:=fun_.there b o q hx
   by_cases hb:b∈fo fr
   .obtain⟨_,o2,e2,nf⟩:=ff.mem hb
    rw[e1]at e2;cases e2;obtain⟨sl',e3⟩:=sm b _ e1 nf;exact⟨_,e3⟩
   .exact⟨o1,fl.1 b o1 (fold b o o1 q hb e1)⟩
 aX:=fun a o q=>(fhok a o q).kg (fun b u hb z=>by
   rcases hb with rfl|hb
   .exact fl.1 b u (ftrk b _ u q z)
   .exact fl.1 b u (ftrk b _ u hb z)) (fun _ z=>z) fun _ _ z=>z
 fl:=fl
 old:=fun b o o' q hb z=>by
  obtain⟨o1,e1⟩:=fun_.there b o q (by simp);have e2:=fold b o o1 q hb e1;have e3:=fl.1 b o1 e2;rw[z]at e3;cases e3;exact e2
 vX:=fun b u o' q z=>by
  obtain⟨o1,e1⟩:=(fhok b u q).here;have e2:=ftrk b u o1 q e1;have e3:=fl.1 b o1 e2;rw[z]at e3;cases e3;exact e2
 p7:=ffrf
 lo:=lo
theorem y9.move (F:y9 P w fr H h e cls a0 B H' h' bb)(fl:Qd.FlyingW B fr e cls a0 h'')(sm:h'.UpToSlots h'')(lo:iz h'' e bb):y9 P w fr H h e cls a0 B H' h'' bb:=y9.Jf F.un F.aX F.fl.2.2.1 F.old F.vX F.p7 fl sm lo
theorem y9.out {X:Cx}{pins:List (PY×Obj)}{σ:St}{s:PZ}(I:Inv X pins σ H s)(hst:X.stack=X.env::X.outer)(hex:X.ex=[])(F:y9 P w X.stack H s.heap e cls a0 B H' h' bb):y9 P w X.outer X.H₀ X.s₀.heap e cls a0 B H' h' bb:=by
 have nx:∀b:PY,b∉X.ex:=fun b z=>by rw[hex]at z;cases z
 have ns:∀b o,X.s₀.heap.get? b=some o->b∉fo X.outer->b∉fo X.stack:=fun b o q hb z=>by
  rcases List.mem_cons.mp (I.kC b z)with r|r
  .subst r
   exact absurd (PL (Qd.lt_size q) I.ok.above) (Nat.lt_irrefl _)
  .exact hb r
 have so:∀b∈fo X.outer,b∈fo X.stack:=fun b z=>by
  rw[hst];unfold fo at z⊢;rw[List.filterMap_cons]
  split
  .exact z
  .exact Pu _ z
 refine⟨⟨fun b o q n hb hx=>?_,fun b o q n hb hx=>?_,fun b o q n hx=>?_,fun b o q hx=>?_,fun b xs q=>F.un.fD b xs (I.base.fD b xs q),fun b o u q=>F.un.jk b o u (I.base.jk b o u q),fun b ps q=>?_⟩,F.aX,?_,fun b o o' q hb z=>?_,F.vX,fun b hb=>F.p7 b (so b hb),F.lo⟩
 .exact F.un.keep b o (I.base.keep b o q n hb (nx b)) (I.base.free b o q n (nx b)) (ns b o q hb) (by simp)
 .obtain⟨sl,e1⟩:=I.base.slot b o q n hb (nx b)
  obtain⟨sl',e2⟩:=F.un.any e1 (I.base.free b o q n (nx b)) (by simp);exact⟨sl',e2⟩
 .obtain⟨o1,e1⟩:=I.base.there b o q (nx b)
  exact F.un.free b o1 e1 (I.base.free b o q n (nx b)) (by simp)
 .obtain⟨o1,e1⟩:=I.base.there b o q (nx b)
  exact F.un.there b o1 e1 (by simp)
 .obtain⟨m1,e1⟩:=I.base.jI b ps q
  obtain⟨m2,e2⟩:=F.un.jI b _ e1;exact⟨m1++m2,by rw[e2,Array.append_assoc]⟩
 .have f:=F.fl
  rw[hst]at f;exact⟨f.1,f.2.1,f.2.2.1.2.2,f.2.2.2⟩
 .obtain⟨o1,e1⟩:=I.base.there b o q (nx b)
  exact F.old b o1 o' e1 (ns b o q hb) z
end
def j4(P:P0)(w:P4):uJ:=fun fr H s E ev s'=>∃(e:PY)(cls a0:PX)(B:Qd)(H':Hp)(bb:Option PY),ev= .ref e/\s'.os=s.os/\AllBare s'.gens/\y9 P w fr H s.heap e cls a0 B H' s'.heap bb/\E cls bb H'
section
variable{P:P0}{w:P4}{K:W.Frag}{mg:Str->Option PX}{base:Qd}{N:List Str}{qual:Str}{scope:Scope}{f:PY}{cdv:PX}{A:P5}{outer:List Env}{s:PZ}{H:Hp}{E:XK}
abbrev zZ(P:P0)(w:P4)(K:W.Frag)(mg:Str->Option PX)(base:Qd)(N:List Str)(qual:Str)(scope:Scope)(f:PY)(cdv:PX)(A:P5)(outer:List Env)(s:PZ)(H:Hp)(E:XK):Cx:=tX (j4 P w) P w K mg base N qual scope f cdv A outer s H E
theorem j8:Passes (j4 P w) (zZ P w K mg base N qual scope f cdv A outer s H E) E:=by
 intro pins σ H₁ s₁ ev s' I h;obtain⟨e,cls,a0,B,H',bb,rfl,os,bare,F,q⟩:=h;show Qf _ _ (leaving _ (.ref e)) _ _ s';refine AQ (B:=B) I.ok.frames rfl F.fl F.lo fun h'' fl sm lo=>?_;exact⟨e,cls,a0,B,H',bb,rfl,os.trans I.os,bare,y9.out I rfl rfl (F.move fl sm lo),q⟩
theorem Ih{pins:List (PY×Obj)}{σ:St}{H₁:Hp}{s₁:PZ}{h':Qd}{e:PY}{cls:PX}{args:List PX}(I:Inv (zZ P w K mg base N qual scope f cdv A outer s H E) pins σ H₁ s₁)
  (M:Qd.MadeExcOf s₁.heap h' e cls args) (q:E cls none H₁):(zZ P w K mg base N qual scope f cdv A outer s H E).xe (.ref e) {s₁ with heap:=h'}:=by
 obtain⟨t,he,htn,ht⟩:=M.there;show Qf _ _ (leaving _ (.ref e)) _ _ _;have st:=I.stack;have ff:=W.funFrames_hide (as:=fo (zZ P w K mg base N qual scope f cdv A outer s H E).stack) st fun env hm a ha=>List.mem_filterMap.mpr ⟨env,hm,ha⟩;have hen:(W.hideAll s₁.heap (fo (zZ P w K mg base N qual scope f cdv A outer s H E).stack)).get? e=none:=by
  cases z:(W.hideAll s₁.heap (fo (zZ P w K mg base N qual scope f cdv A outer s H E).stack)).get? e with
  |none=>rfl
  |some o=>have:=W.of_hideAll _ z;rw[M.new]at this;cases this
 refine AW (b:=none) (B:=W.hideAll s₁.heap (fo (zZ P w K mg base N qual scope f cdv A outer s H E).stack)) (a0:= .ref t) I.ok.frames (ff.of_keeps fun b o hb _=>⟨o,M.keeps b o hb,rfl⟩) rfl he (fun b o z=>M.keeps b o (W.of_hideAll _ z)) hen rfl rfl rfl rfl (fun _=>rfl) fun h'' fl k4 lo=>?_;refine⟨e,cls,.ref t,W.hideAll s₁.heap (fo (zZ P w K mg base N qual scope f cdv A outer s H E).stack),H₁,none,rfl,I.os,I.bare,y9.out I rfl rfl (y9.Jf (h':=h') (Un.kept M.keeps) (I.aX.kept M.keeps) (ff.of_keeps fun b o hb _=>⟨o,M.keeps b o hb,rfl⟩) (fun b o o' z hb zz=>?_) (fun b u o' z zz=>?_) I.lT fl k4 lo),q⟩
 .have:=M.keeps b o z
  rw[zz]at this;cases this;exact W.hideAll_get _ z hb
 .obtain⟨o1,e1⟩:=(I.aX b u z).here
  have:=M.keeps b o1 e1;rw[zz]at this;cases this;exact W.hideAll_get _ e1 fun hb=>by rw[I.lT b hb]at z;cases z
end
abbrev O8:List PX:=[.type "ValueError",.type "Exception",.type "BaseException",.type "object"]
abbrev jo(K:W.Frag)(C:PY):Prop:=W.excIn K C O8 "ValueError.__new__" =true
theorem EC{K:W.Frag}{h:Qd}{mg:Str->Option PX}{x:Str}{C:PY}{bmB:List PX}{newId:String}(X:K.In h)(hm:mg x=some (.ref C))(q:W.excIn K C bmB newId=true):OwnCls x C bmB newId mg h:=by
 refine⟨hm,?_⟩;unfold W.excIn at q
 split at q
 .rename_i dd cd sl ho
  split at q
  .rename_i C' bm k0 k1 k2 k3 n k5 hm hs
   simp only[Bool.and_eq_true,beq_iff_eq,Bool.not_eq_true']at q;obtain⟨⟨⟨⟨⟨rfl,rfl⟩,hdel⟩,ht⟩,aX⟩,hni⟩:=q;obtain⟨nm,bs,mro,ns,qn,hd,sn,sub,ab,col,del⟩:=cd;dsimp only at hm hdel aX hni;subst hm hdel;have hsl:sl= #[k0,k1,k2,k3,some (.builtin n),k5]:=by
    obtain⟨l⟩:=sl;simp only at hs;rw[hs]
   subst hsl;exact⟨bm,ns,nm,qn,bs,hd,sn,sub,ab,col,dd,k0,k1,k2,k3,k5,_,X _ _ ho,.of_isNs (W.isNs_of_in X aX),W.nsMap_none_of_in X aX hni,W.tail_of_in X ht⟩
  .cases q
 .cases q
def KH(E:XK)(cls:PX)(ta:TA):TS:=fun _ σ H=>ta σ H fun vs H1=>vs.length<=P6/\E cls none H1
section
variable{X:Cx}{E:XK}{C:PY}{x:Str}{np cpos pos:Pos}{e₀:Expr}{rest:List Expr}{ta:TA}
def OB(X:Cx)(E:XK):Prop:=∀(pins:List (PY×Obj))(σ:St)(H:Hp)(s:PZ)(h':Qd)(e:PY)(cls:PX)(args:List PX),Inv X pins σ H s->Qd.MadeExcOf s.heap h' e cls args->E cls none H->X.xe (.ref e) {s with heap:=h'}
theorem cb(L:OB X E)(O:jo X.K C)(hc:X.calm=true)(hg:Gl X x)(hm:X.mg x=some (.ref C))(ha:PA X (e₀::rest) ta)(hdb:(x==("__debug__" :Str))=false:=by decide)
  (he:Qb (e₀::rest) X.env=(false,eval e₀ X.env)::Qb rest X.env:=by rfl) (hpl:(Qe cpos (Qb rest X.env)).any (·.1)=false:=by rfl):
  PS X (.Raise (some (.Call (.Name x np) (e₀::rest) [] cpos)) none pos) (KH E (.ref C) ta):=by
 intro pins s σ H D I h;obtain⟨tl,N,nm,q,bs,hdct,sn,sub,ab,col,dd,k0,k1,k2,k3,k5,mN,hC,hN,hni,T⟩:=(EC I.mod.AJ hm O).obj;refine wpAny_Raise_call_subT (C:=C) (nm:=nm) (q:=q) (N:=N) (bs:=bs) (bm:=tl) (hdct:=hdct) (sn:=sn) (sub:=sub) (ab:=ab) (col:=col) (dd:=dd) (k0:=k0) (k1:=k1) (k2:=k2) (k3:=k3) (k5:=k5)
  PySem.F.excBase_ValueError (mN:=mN) (T.hasType (by decide)) (I.ok.hd hc) (by rw[he];show(false||(Qe cpos (Qb rest X.env)).any (·.1))=false;rw[hpl];rfl) hni (fY I hg hm ⟨rfl,?_⟩ hdb)
 have hq:=ha cpos pins s σ H _ I h;rw[he]at hq⊢;refine Calls.evalArgs_plain (Qa hq (fun us s₂ h₂=>?_) fun _ _ y=>y);obtain⟨vs,H2,I2,r,z,ez⟩:=h₂;refine⟨rfl,by rw[←r.length];exact z,I2.bk _ _ hC,hN.keeps I2.bk,T.keeps I2.bk,fun h' e M=>L pins σ H2 s₂ h' e _ _ I2 M ez⟩
end
section
variable{P:P0}{w:P4}{K:W.Frag}{mg:Str->Option PX}{base:Qd}{N:List Str}{qual:Str}{scope:Scope}{f:PY}{cdv:PX}{A:P5}{outer:List Env}{s:PZ}{H:Hp}{E:XK}
theorem n6:OB (zZ P w K mg base N qual scope f cdv A outer s H E) E:=fun _ _ _ _ _ _ _ _ I M q=>Ih I M q
theorem Hv:PassesOwn (model P w) (zZ P w K mg base N qual scope f cdv A outer s H E).A (zZ P w K mg base N qual scope f cdv A outer s H E).env (zZ P w K mg base N qual scope f cdv A outer s H E).xe:=PassesOwn.leaving
theorem dU.DG {x qual:Str}{st:Stmt}{f:PY}{fd:Qc}{N ps:List Str}{k:Nat}{sp:Sp}(F:dU K x qual st f fd)(S:aE N ps (av st))(len:∀vs H Q E,sp vs H Q E->vs.length=ps.length)
  (hbody:∀(cdv:PX)(A:P5)(outer:List Env)(s:PZ)(H:Hp)(vs:List V)(Q:VK)(E:XK),cB k (A.deeper (envOfC qual (av st) s.heap.objs.size f cdv))->sp vs H Q E->
   ∃t,t5 (zZ P w K mg base N qual (av st) f cdv A outer s H E) (dE st) t/\t {nx:=fun _ H'=>Q .cE H',rt:=Q} (start N vs) H):aQ P w K mg base (j4 P w) (k+1) f fd ps sp:=by
 obtain⟨oc,od,kV,doc,pm,an,cdv,ct,osl,rfl,lk,hcd⟩:=F.ex;exact Jp lk hcd S len fun A outer s H vs Q E hr hsp=>hbody cdv A outer s H vs Q E hr hsp
end
open PySem PySem.Spec PyProof.Rows PySem.W PySem.Builtin PySem.Builtin.ObjectAttr PySem.Builtin.Getset_descriptor
structure rM(K:Frag)(C:PY):Prop where
 ga:findIn K (.ref C) "__getattribute__" =some (some (.builtin "BaseException.__getattribute__"))
 gt:findIn K (.ref C) "__getattr__" =some none
 fd:findIn K (.ref C) "__class__" =some (some (.builtin "object.__class__"))
 sp:specialIn K (.builtin "object.__class__") "__get__" =some (some (.builtin "getset_descriptor.__get__"))
 tk:takesIn K (.builtin "object.__class__")=some true
 mo:mroIn K C (.type "object")=some true
 mb:mroIn K C (.type "BaseException")=some true
 cl:(clsIn K C).isSome=true
def AR(h:Qd)(x C:PY)(b:Option PY:=none):Prop:=∃ox,h.get? x=some ox/\ox.cls= .ref C/\∃vs c,ox.data= .fields vs/\vs[2]?=some c/\(b=none->c=PX.none)
theorem AR.type {M:Model}{h:Qd}{x C:PY}{bb:Option PY}(I:AR h x C bb):Looks M h (typeOf (.ref x)) (.ref C):=by
 obtain⟨ox,h1,h2,_⟩:=I;exact h2▸(Looks.ld h1).andThen .now
section
variable{prog:P0}{w:P4}{A:P5}{E:PX->PZ->Prop}{s:PZ}{K:Frag}{x C:PY}
theorem D4{M:Model}{h:Qd}(X:K.In h)(c:rM K C):Looks M h (Qi.ObjectAttr.find (.ref x) (.ref C) "__class__") (.bind (.builtin "getset_descriptor.__get__") (.builtin "object.__class__")):=by
 refine(looks_findIn X c.fd).andThen ((looks_specialIn X c.sp).andThen ?_);exact(show Looks M h (Qi.ObjectAttr.dataDescriptor? (some (.builtin "object.__class__")) (some (.builtin "getset_descriptor.__get__"))) (some (.builtin "getset_descriptor.__get__",.builtin "object.__class__"))from(looks_takesIn X c.tk).andThen .now).andThen (Looks.tag .now)
theorem tQ{bb:Option PY}{R:Result->PZ->Prop}{tp:PX}(X:K.In s.heap)(I:AR s.heap x C bb)(hm:mroIn K C (.type "object")=some true)
  (h:R (.ok (.ret (.ref C))) s):codeAny (model prog w) A (.call (.builtin "getset_descriptor.__get__") ⟨[.builtin "object.__class__",.ref x,tp],[]⟩) R s:=by
 obtain⟨hh,g,dr,t,os⟩:=s;have L0:=I.type (M:=model prog w);have L1:=looks_mroIn (M:=model prog w) X hm;refine codeAny_call_builtin KF.slot_gs.plain KF.entry_gs (KF.slot_gs.check _ _ _ _ _ _ _ _ KF.type_class (KF.args_gs _ _ _) ?_);unfold Qi.«getset_descriptor.__get__» descrGet;rw[dga_obj];refine P8 (P9 ?_);unfold descrGetter descrCheckInstance descrNameAndClass isInstance;simp only[KF.owner_class]
 repeat lk
 refine⟨Code.quiet_builtin _ (by decide+kernel),codeAny_builtin KF.entry_class ?_⟩;unfold Qi.«object.__class__» shownTypeOf
 repeat lk
 exact h
theorem vH{bb:Option PY}{M:Model}{nameV:PX}{Q:Unit->PZ->Prop}(c:rM K C)(X:K.In s.heap)(I:AR s.heap x C bb)(hq:Q () s):Qf M A (checkBuiltinCall "BaseException.__getattribute__" ⟨[.ref x,nameV],[]⟩) Q E s:=by
 obtain⟨h,g,d,t,os⟩:=s;have hk:builtinKind "BaseException.__getattribute__" =some .slot:=by decide+kernel
 have hsplit:splitId "BaseException.__getattribute__" =some ("BaseException","__getattribute__"):=by decide+kernel
 have L0:Looks M h (isInstance (.ref x) (.type "BaseException")) true:=I.type.andThen (looks_mroIn X c.mb);have ha:=F.args_bexc_ga (.ref x) nameV;simp only[checkBuiltinCall,hk,hsplit];refine P8 (L0.at ?_)
 repeat(any_goals(first|assumption|wp_step))
theorem rp{bb:Option PY}{tk:Tok}{R:Result->PZ->Prop}(c:rM K C)(X:K.In s.heap)(I:AR s.heap x C bb)(h:R (.ok (.ret (.ref C))) s):
  codeAny (model prog w) A (.call (.builtin "BaseException.__getattribute__") ⟨[.ref x,.str "__class__" tk],[]⟩) R s:=by
 refine codeAny_call_builtin F.attrBase_ValueError.ga.plain F.entry_bexc_ga (vH c X I ?_);have L0:=I.type (M:=model prog w);have L1:=D4 (x:=x) (M:=model prog w) X c;obtain⟨hh,gg,d,t,os⟩:=s;unfold Qi.«object.__getattribute__»
 repeat(any_goals(first|assumption|with_reducible refine P8 (L0.at ?_)|with_reducible refine P8 (L1.at ?_)|wp_step))
 exact tQ X I c.mo (P9 h)
theorem Cu{bb:Option PY}{Q:Option PX->PZ->Prop}(c:rM K C)(X:K.In s.heap)(I:AR s.heap x C bb)(h:Q (some (.ref C)) {s with toks:=s.toks+1}):Qf (model prog w) A (getAttr? (.ref x) "__class__") Q E s:=by
 obtain⟨hh,g,d,t,os⟩:=s;have L0:=I.type (M:=model prog w);have L1:=looks_findIn (M:=model prog w) X c.ga;have L2:=looks_findIn (M:=model prog w) X c.gt;have f3:=F.attrBase_ValueError.ga.bind (.ref x);have hx2:(PX.builtin "BaseException.__getattribute__" ==PX.builtin "object.__getattribute__")=false:=by decide+kernel
 have hx1:(onTheHeap (PX.ref C)&&PX.builtin "BaseException.__getattribute__" ==PX.builtin "object.__getattribute__")=false:=by rw[hx2];rfl
 unfold getAttr? getAttrBy? getAttrBy;refine P8 (wpAny_mkText (P8 (wpAny_attempt (wpAny_holding (P8 (L0.at (P8 (L1.at ?_))))))));dsimp only;rw[hx1,if_neg PR];unfold getAttrByItsOwn hookBefore;rw[if_pos (show onTheHeap (PX.ref C)=true from rfl)];refine P8 (L2.at ?_);refine P8 (wpAny_attempt (wpAny_holding ?_));unfold callGetattribute boundAndCalled;rw[Bool.false_and,if_neg PR];refine P8 (wpAny_of_eq f3 ?_);refine wpAny_call (rp (s:=⟨hh,g,d,t+1,os⟩) c X I ?_);exact handed_on rfl (P9 h)
theorem zu{bb:Option PY}(c:rM K C):KitX K (.ref x) (.ref C) (fun h=>AR h x C bb)where
 ty:=fun _ _ _ I=>I.type
 it:=fun _ _ X _=>by
  obtain⟨cdD,hcD⟩:=Option.isSome_iff_exists.mp c.cl;unfold clsIn at hcD
  split at hcD
  .rename_i c' d' cd' sl' ho
   intro A' Q' E' s' k q;unfold isType loadHead;exact P8 (wpAny_loadPart (k _ _ (X _ _ ho)) (P9 q))
  .cases hcD
 ne:=fun h tp dd its n sl X htp=>by
  obtain⟨cdD,hcD⟩:=Option.isSome_iff_exists.mp c.cl;refine Bool.eq_false_iff.mpr fun q=>?_;have e:C=tp:=PX.ref.inj (beq_iff_eq.mp q);subst e;unfold clsIn at hcD
  split at hcD
  .rename_i c' d' cd' sl' ho
   have z:=(X _ _ ho).symm.trans htp;cases z
  .cases hcD
 ca:=fun X I k=>Cu c X I k
end
abbrev HO.exc (e C:PY)(bb:Option PY:=none):HO:= .ext fun h=>AR h e C bb
theorem AR.ok {P:P0}{w:P4}{H:Hp}{e C:PY}{h:Qd}{bb:Option PY}(x:AR h e C bb):bF P w H h e (.exc e C bb):=by
 obtain⟨ox,h1,h2,_⟩:=id x;refine⟨x,⟨ox,h1⟩,fun g1 g2 p k=>?_⟩;obtain⟨oy,a1,a2⟩:=p;exact⟨oy,k _ a1,a2⟩
def LZ(K:Frag):List V->Hp->VK->Prop:=fun xs H Q=>∃(e C:PY)(c:V)(cv:PX)(b:Bool),xs=[.ref e,c]/\H e=some (.exc e C)/\rM K C/\(∀u,RelV c u->u=cv)/\kitOne K (.ref C) cv=some b/\Q (.bl b) H
theorem LB{X:Cx}{K:Frag}(hK:X.K=K):bZ X (.builtin "isinstance") (LZ K):=by
 subst hK;intro pins s σ H xs us Q I r h;obtain⟨e,C,c,cv,b,rfl,he,ci,hc,hb,q⟩:=h
 match us,r with
 |[u1,u2],.cons r1 (.cons r2 .nil)=>
  obtain rfl:u1= .ref e:=r1;obtain rfl:=hc _ r2;obtain⟨x,_,_⟩:=I.aX e _ he;exact kia_one (zu ci) I.jD x hb (fun z=>nomatch z) fun tk=>⟨.bl b,H,I.tok tk,rfl,q⟩
def KZ(K:Frag):List V->Hp->VK->Prop:=fun xs H Q=>∃(e C:PY)(bb:Option PY)(c:V)(cv:PX)(b:Bool),xs=[.ref e,c]/\H e=some (.exc e C bb)/\rM K C/\(∀u,RelV c u->u=cv)/\kitOne K (.ref C) cv=some b/\Q (.bl b) H
theorem bK{X:Cx}{K:Frag}(hK:X.K=K):bZ X (.builtin "isinstance") (KZ K):=by
 subst hK;intro pins s σ H xs us Q I r h;obtain⟨e,C,bb,c,cv,b,rfl,he,ci,hc,hb,q⟩:=h
 match us,r with
 |[u1,u2],.cons r1 (.cons r2 .nil)=>
  obtain rfl:u1= .ref e:=r1;obtain rfl:=hc _ r2;obtain⟨x,_,_⟩:=I.aX e _ he;exact kia_one (zu ci) I.jD x hb (fun z=>nomatch z) fun tk=>⟨.bl b,H,I.tok tk,rfl,q⟩
structure ua(K:Frag)(C D:PY)(b:Bool):Prop where
 ty:typeIn K (.ref D)=some (.type "type")
 cd:(clsIn K D).isSome=true
 mb:mroIn K D (.type "BaseException")=some true
 mc:mroIn K C (.ref D)=some b
section
variable{M:Model}{A:P5}{E:PX->PZ->Prop}{s:PZ}{K:Frag}{e C D:PY}{b:Bool}
theorem Dj{h:Qd}(X:K.In h)(c:(clsIn K D).isSome=true):Looks M h (isType (.ref D)) true:=by
 obtain⟨cdD,hcD⟩:=Option.isSome_iff_exists.mp c;unfold clsIn at hcD
 split at hcD
 .rename_i c' d' cd' sl' ho
  intro A' Q' E' s' k q;unfold isType loadHead;exact P8 (wpAny_loadPart (k _ _ (X _ _ ho)) (P9 q))
 .cases hcD
theorem ql{bb:Option PY}{Q:Bool->PZ->Prop}(m:ua K C D b)(X:K.In s.heap)(I:AR s.heap e C bb)(hq:Q b s):Qf M A (excMatches (.ref e) (.ref D)) Q E s:=by
 obtain⟨h,g,d,t,os⟩:=s;have L1:Looks M h (isInstance (.ref D) (.type "tuple")) false:=(looks_typeIn X m.ty).andThen (Looks.of_pure tc_notTuple);have L2:=Dj (M:=M) X m.cd;have L3:=looks_mroIn (M:=M) X m.mb;have L4:=I.type (M:=M);have L5:=looks_mroIn (M:=M) X m.mc;have L6:Looks M h (isExcClass (.ref D)) true:=L2.andThen L3;unfold excMatches;refine P8 (L1.at ?_);rw[if_neg PR];refine P8 (P9 ?_);simp only[List.forIn_cons,List.forIn_nil];refine P8 (P8 (P8 (L6.at ?_)));simp only[Bool.not_true,Bool.false_eq_true,if_false];refine P9 (P9 (P8 (L4.at ?_)));refine P8 (P8 (P8 (L5.at ?_)));cases b
 .exact P9 (P9 (P9 hq))
 .exact P9 (P9 (P9 hq))
end
def m9(X:Cx)(pins:List (PY×Obj))(σ:St)(H:Hp)(s:PZ)(e:PY)(cls:PX)(bb:Option PY:=none):Prop:=
 ∃(H₁:Hp)(s₁:PZ)(B:Qd)(a0:PX),Inv X pins σ H₁ s₁/\s.os=s₁.os/\AllBare s.gens/\y9 X.prog X.w X.stack H₁ s₁.heap e cls a0 B H s.heap bb
section
variable{X:Cx}{pins:List (PY×Obj)}{σ:St}{H:Hp}{s:PZ}{e:PY}{cls:PX}{bb:Option PY}
theorem m9.inv (h:m9 X pins σ H s e cls bb):Inv X pins σ H s:=by
 obtain⟨H₁,s₁,B,a0,I,os,bare,F⟩:=h;exact I.EW (ch:=[]) os F.un F.aX bare fun b z=>absurd z (by simp)
theorem m9.NV {C:PY}(h:m9 X pins σ H s e (.ref C) bb):AR s.heap e C bb:=by
 obtain⟨H₁,s₁,B,a0,I,os,bare,F⟩:=h;obtain⟨o,h1,h2⟩:=F.fl.there;obtain⟨o',vs,c,g1,g2,g3,g4⟩:=F.lo;rw[h1]at g1;cases g1;exact⟨o,h1,h2,vs,c,g2,g3,g4⟩
theorem m9.free (h:m9 X pins σ H s e cls bb):H e=none:=by
 obtain⟨H₁,s₁,B,a0,I,os,bare,F⟩:=h
 cases q:H e with
 |none=>rfl
 |some u=>
  obtain⟨o,ho⟩:=(F.aX e u q).here;have:=F.vX e u o q ho;rw[F.fl.2.1]at this;cases this
theorem m9.lands {M:Model}{A:P5}{E:PX->PZ->Prop}{Q:Unit->PZ->Prop}(h:m9 X pins σ H s e cls bb)(k:∀h',m9 X pins σ H {s with heap:=h'} e cls bb->Q () {s with heap:=h'}):Qf M A (setFlight (.ref e) none) Q E s:=by
 obtain⟨H₁,s₁,B,a0,I,os,bare,F⟩:=h;exact jt F.fl.1 F.fl.2.1 F.fl.2.2.1 F.fl.2.2.2.at F.lo fun h' fl sm lo=>k h' ⟨H₁,s₁,B,a0,I,os,bare,F.move fl sm lo⟩
theorem m9.xS {C:PY}(h:m9 X pins σ H s e (.ref C) bb):Inv X pins σ (upd H e (.exc e C bb)) s:=by
 have hf:=h.free;have hx:=h.NV;obtain⟨H₁,s₁,B,a0,I,os,bare,F⟩:=h;have new:s₁.heap.get? e=none:=by
  cases q:s₁.heap.get? e with
  |none=>rfl
  |some o=>
   obtain⟨o',ho'⟩:=F.un.there e o q (by simp);by_cases hb:e∈fo X.stack
   .obtain⟨_,o2,e2,nf⟩:=F.fl.2.2.1.mem hb
    obtain⟨oe,vs,T,oT,ts,he,_,hd,_⟩:=F.fl.2.2.2;rw[he]at e2;cases e2;exact absurd hd (nf vs)
   .have:=F.old e o o' q hb ho'
    rw[F.fl.2.1]at this;cases this
 have ne:∀b o,s₁.heap.get? b=some o->b≠e:=fun b o q z=>by rw[z,new]at q;cases q
 have nt:∀b u,H b=some u->b≠e:=fun b u q z=>by rw[z,hf]at q;cases q
 refine I.EW (ch:=[]) os ⟨F.un.keep,F.un.slot,fun b o q n hx=>?_,F.un.there,fun b xs q=>?_,fun b o u q=>?_,fun b ps q=>?_⟩ (fun b u q=>?_) bare fun b z=>absurd z (by simp)
 .rw[ao (ne b o q)];exact F.un.free b o q n hx
 .have:=F.un.fD b xs q
  rw[ao (nt b _ this)];exact this
 .have:=F.un.jk b o u q
  rw[ao (nt b _ this)];exact this
 .obtain⟨m,e1⟩:=F.un.jI b ps q
  exact⟨m,by rw[ao (nt b _ e1)];exact e1⟩
 .by_cases hb:b=e
  .subst hb
   rw[af]at q;cases q;exact hx.ok
  .rw[ao hb]at q
   exact(F.aX b u q).kg (fun _ _ _ z=>z) (fun c z=>by rw[ao (nt c _ z)];exact z) fun c xs z=>by rw[ao (nt c _ z)];exact z
end
abbrev Xh(X:Cx)(e:PY):Cx:={X with A:=X.A.mark (some (.ref e)),calm:=false,xe:=fun _ _=>False}
section
variable{X:Cx}{pins:List (PY×Obj)}{σ:St}{H:Hp}{s:PZ}{e:PY}{D:Ends}
theorem Inv.NN (I:Inv X pins σ H s)(e:PY):Inv (Xh X e) pins σ H s:=
 ⟨⟨I.ok.mod,I.ok.kind,I.ok.glob,I.ok.blt,I.ok.above,I.ok.inj,I.ok.has,I.ok.DZ,(fun h=>Bool.noConfusion h),I.ok.frames,I.ok.Dm,I.ok.HZ,I.ok.bs,I.ok.z8,I.ok.qx,I.ok.rN,I.ok.jc,I.ok.p7⟩,I.os,I.bare,I.base,I.loc,I.cell,I.free,I.dZ,I.pin,I.aX,I.len⟩
theorem Inv.Lx (I:Inv (Xh X e) pins σ H s)(ok:X.Ok):Inv X pins σ H s:=⟨ok,I.os,I.bare,I.base,I.loc,I.cell,I.free,I.dZ,I.pin,I.aX,I.len⟩
theorem SP.Lx {f:Flow}{s':PZ}(h:SP (Xh X e) pins D f s')(ok:X.Ok):SP X pins D f s':=by
 cases f with
 |next=>obtain⟨σ',H',I,q⟩:=h;exact⟨σ',H',I.Lx ok,q⟩
 |brk=>obtain⟨σ',H',I,q⟩:=h;exact⟨σ',H',I.Lx ok,q⟩
 |cont=>obtain⟨σ',H',I,q⟩:=h;exact⟨σ',H',I.Lx ok,q⟩
 |ret u=>obtain⟨v,σ',H',I,r,q⟩:=h;exact⟨v,σ',H',I.Lx ok,r,q⟩
theorem qJ{M:Model}{A:P5}{E:PX->PZ->Prop}{i:Nat}{x:Str}{pos:Pos}{Q:Unit->PZ->Prop}(I:Inv X pins σ H s)(hN:X.N.Nodup)(hi:X.N[i]?=some x)(hk:X.env.scope.names.lookup x=some .local)
  (h:∀s',Inv X pins (σ.set i none) H s'->Q () s'):Qf M A (do bindName X.env x .none;unbindBehindTheSuite X.env x pos) Q E s:=by
 obtain⟨m,hn,hl⟩:=id I.loc;have hcls:(X.env.scope.kind== .class||(X.env.scope.kind== .module&&X.env.locals !=X.env.globals))=false:=by rw[I.ok.kind];rfl
 have hiσ:i<σ.length:=by rw[I.len];exact(List.getElem?_eq_some_iff.mp hi).1
 have En:=I.En;obtain⟨oL,_,_,hoL,_⟩:=id hn;refine wpAny_nameGoes_keeps hk hn hcls fun h' v hn' hs=>?_;refine h _ ⟨I.ok,I.os,I.bare,⟨fun b o e n hb hx=>?_,fun b o e n hb hx=>?_,I.base.free,fun b o e hx=>?_,I.base.fD,I.base.jk,I.base.jI⟩,⟨_,hn',fun j y v' e1 e2 e3=>?_⟩,fun y c e=>?_,I.free,I.dZ,fun p hp=>?_,fun b ob e=>?_,by simpa using I.len⟩
 .exact(hs.2 b (PM (PL (Qd.lt_size e) I.ok.above))).trans (I.base.keep b o e n hb hx)
 .obtain⟨sl,e1⟩:=I.base.slot b o e n hb hx
  exact⟨sl,(hs.2 b (PM (PL (Qd.lt_size e) I.ok.above))).trans e1⟩
 .obtain⟨o',e1⟩:=I.base.there b o e hx
  exact⟨o',(hs.2 b (PM (PL (Qd.lt_size e) I.ok.above))).trans e1⟩
 .by_cases hj:j=i
  .subst hj
   rw[List.getElem?_set_self hiσ]at e2;cases e2
  .rw[List.getElem?_set_ne (Ne.symm hj)]at e2
   obtain⟨u',r',q⟩:=hl j y v' e1 e2 e3;refine⟨u',r',?_⟩;rcases q with⟨k,e⟩|⟨k,c,e,z⟩
   .refine .inl ⟨k,?_⟩
    have:y≠x:=fun e=>hj (rV hN e1 (e▸hi));simp[this,e]
   .exact .inr ⟨k,c,e,z.sameBut hs (En y c e)⟩
 .obtain⟨w',z⟩:=I.cell y c e
  exact⟨w',z.sameBut hs (En y c e)⟩
 .obtain⟨e,n,ne,nf,d⟩:=I.pin p hp
  exact⟨(hs.2 p.1 ne).trans e,n,ne,nf,d⟩
 .refine(I.aX b ob e).kg (fun c w' hc q=>(hs.2 c ?_).trans q) (fun _ q=>q) fun _ _ q=>q
  rintro rfl;rcases hc with rfl|hc
  .rw[I.free]at e;cases e
  .rw[I.free]at hc;cases hc
end
abbrev TH:=Ends->St->PX->PY->Hp->Prop
def PH(X:Cx)(hs:List ExceptHandler)(th:TH):Prop:=
 ∀(pins:List (PY×Obj))(s:PZ)(σ:St)(H:Hp)(D:Ends)(e:PY)(cls:PX),m9 X pins σ H s e cls->th D σ cls e H->Qf (model X.prog X.w) X.A (handleBy (.ref e) X.env hs) (SP X pins D) X.xe s
def Jr:TH:=fun _ _ _ _ _=>False
section
variable{X:Cx}{hs:List ExceptHandler}{th:TH}{ts:TS}{D:PY}{x n:Str}{np pos:Pos}{b₀:Stmt}{suite:List Stmt}{i:Nat}
theorem Lk:PH X [] Jr:=fun _ _ _ _ _ _ _ _ h=>h.elim
end
def OX(X:Cx)(pins:List (PY×Obj))(Es:St->XK):PX->PZ->Prop:=fun ev s'=>∃(σ:St)(H₁:Hp)(s₁:PZ),Inv X pins σ H₁ s₁/\j4 X.prog X.w X.stack H₁ s₁ (Es σ) ev s'
abbrev Xt(X:Cx)(pins:List (PY×Obj))(Es:St->XK):Cx:={X with pn:=X.pn++pins,xe:=OX X pins Es}
def Ot(tb:(St->XK)->TS)(th:TH):TS:=fun D σ H=>tb (fun σ' cls bb H'=>match bb with|none=>∀e,H' e=none->th D σ' cls e H'|some _=>False) D σ H
def Fy(sp:Sp)(Es:St->XK)(t:TA):TE:=fun σ H Q=>t σ H fun vs H1=>sp vs H1 Q (Es σ)
section
variable{X:Cx}{pins:List (PY×Obj)}{Es:St->XK}{σ:St}{H:Hp}{s:PZ}
theorem Inv.toT (I:Inv X pins σ H s):Inv (Xt X pins Es) [] σ H s:=
 ⟨⟨I.ok.mod,I.ok.kind,I.ok.glob,I.ok.blt,I.ok.above,I.ok.inj,I.ok.has,I.ok.DZ,I.ok.hd,I.ok.frames,I.ok.Dm,I.ok.HZ,I.ok.bs,I.ok.z8,I.ok.qx,I.ok.rN,I.ok.jc,I.ok.p7⟩,I.os,I.bare,I.base,I.loc,I.cell,I.free,I.dZ,fun p hp=>I.pin p (by simpa using hp),I.aX,I.len⟩
theorem Inv.ofT {ps':List (PY×Obj)}(I:Inv (Xt X pins Es) ps' σ H s):Inv X pins σ H s:=
 ⟨⟨I.ok.mod,I.ok.kind,I.ok.glob,I.ok.blt,I.ok.above,I.ok.inj,I.ok.has,I.ok.DZ,I.ok.hd,I.ok.frames,I.ok.Dm,I.ok.HZ,I.ok.bs,I.ok.z8,I.ok.qx,I.ok.rN,I.ok.jc,I.ok.p7⟩,I.os,I.bare,I.base,I.loc,I.cell,I.free,I.dZ,fun p hp=>I.pin p (Py _ hp),I.aX,I.len⟩
theorem SP.ofT {D:Ends}{f:Flow}{s':PZ}(h:SP (Xt X pins Es) [] D f s'):SP X pins D f s':=by
 cases f with
 |next=>obtain⟨σ',H',I,q⟩:=h;exact⟨σ',H',I.ofT,q⟩
 |brk=>obtain⟨σ',H',I,q⟩:=h;exact⟨σ',H',I.ofT,q⟩
 |cont=>obtain⟨σ',H',I,q⟩:=h;exact⟨σ',H',I.ofT,q⟩
 |ret u=>obtain⟨v,σ',H',I,r,q⟩:=h;exact⟨v,σ',H',I.ofT,r,q⟩
theorem Kv{body:List Stmt}{h₀:ExceptHandler}{hs:List ExceptHandler}{pos:Pos}{tb:(St->XK)->TS}{th:TH}(hb:∀pins Es,t5 (Xt X pins Es) body (tb Es))(hh:PH X (h₀::hs) th)
  (hst:X.stack=X.env::X.outer:=by rfl) (hfr:X.env.frame=some X.env.locals:=by rfl):PS X (.Try body (h₀::hs) [] [] pos) (Ot tb th):=by
 intro pins s σ H D I h;refine wpAny_Try_except (Qa (hb pins _ [] s σ H D I.toT h) (fun f s₁ z=>?_) fun ev s₁ z=>?_)
 .have z:=z.ofT
  cases f with
  |next=>exact wpAny_execs_nil z
  |brk=>exact z
  |cont=>exact z
  |ret u=>exact z
 .obtain⟨σ',H₁,s₁',I',e,cls,a0,B,H',bb,rfl,os,bare,F,q⟩:=z
  cases bb with
  |some _=>exact False.elim q
  |none=>
  have ff:=I'.ok.frames;have fl:=F.fl;rw[hst]at ff fl;refine pF ff hfr fl F.lo fun h₄ held sm lo=>?_;refine jt (s:={s₁ with heap:=h₄}) held.1 held.2.1 held.2.2.1 held.2.2.2 lo fun h₅ fl5 sm5 lo5=>?_;have hd:m9 X pins σ' H' {s₁ with heap:=h₅} e cls:=⟨H₁,s₁',B,a0,I',os,bare,F.move (by rw[hst];exact fl5) (sm.trans sm5) lo5⟩;exact hh pins _ σ' H' D e cls hd (q e hd.free)
theorem Fl{CXk:Nat}{f:PY}{fd:Qc}{ps:List Str}{sp:Sp}{x:Str}{e:Expr}{es:List Expr}{p pos:Pos}{t:TA}(F:aQ X.prog X.w X.K X.mg X.base (j4 X.prog X.w) CXk f fd ps sp)(hr:cB CXk X.A)(hg:Gl X x)(hm:X.mg x=some (.ref f))(hk:W.keepIn X.K (.ref f)=true)(hb:Binds X.K fd ps [])
  (ha:PA (Xt X pins Es) (e::es) t) (hdb:(x==("__debug__" :Str))=false:=by decide) (he:Qb (e::es) X.env=(false,eval e X.env)::Qb es X.env:=by rfl) (hpl:(Qe pos (Qb es X.env)).any (·.1)=false:=by rfl):
  PE (Xt X pins Es) (.Call (.Name x p) (e::es) [] pos) (Fy sp Es t):=by
 intro pins' s σ H Q I h;refine wpAny_Call_Name_kw (fY I hg hm ?_ hdb);refine W.callWith_K (h₀:=X.base) I.ok.mod.AJ hk (bf (ha pos pins' s σ H _ I h) fun us s1 ⟨vs,H1,I1,r,q⟩=>⟨I1.jD,?_⟩) he hpl;have hl:us.length=ps.length:=by rw[←r.length];exact F.len _ _ _ _ q
 have bb:=hb s1 us I1.jD (by rw[PD];exact hl);rw[PD]at bb;refine wpAny_call (codeAny_mono (F.run X.A X.stack s1 H1 ⟨us,[]⟩ us vs Q (Es σ) hr I1.mx bb r q) fun r s' hq=>?_)
 cases r with
 |error ev=>exact⟨σ,H1,s1,I1.ofT,hq⟩
 |ok fl=>
  cases fl with
  |ret u=>exact I1.after hq
  |next=>exact False.elim hq
  |brk=>exact False.elim hq
  |cont=>exact False.elim hq
end
structure eI(P:P0)(w:P4)(K:W.Frag)(mg:Str->Option PX)(base:Qd)(x:Str)(k:Nat)(ps:List Str)(sp:Sp):Prop where
 ex:∃(f:PY)(fd:Qc),aQ P w K mg base (j4 P w) k f fd ps sp/\mg x=some (.ref f)/\W.keepIn K (.ref f)=true/\Binds K fd ps []
section
variable{X:Cx}{x:Str}{k:Nat}{ps:List Str}{sp:Sp}{e:Expr}{es:List Expr}{t:TA}{p pos:Pos}
theorem bW{E:XK}(F:eI X.prog X.w X.K X.mg X.base x k ps sp)(hx:Passes (j4 X.prog X.w) X E)(hr:cB k X.A)(hg:Gl X x)(ha:PA X (e::es) t)(hdb:(x==("__debug__" :Str))=false:=by decide+kernel)(he:Qb (e::es) X.env=(false,eval e X.env)::Qb es X.env:=by rfl)(hpl:(Qe pos (Qb es X.env)).any (·.1)=false:=by rfl):
  PE X (.Call (.Name x p) (e::es) [] pos) (rf sp [] E t):=by
 obtain⟨f,fd,F,hm,hk,hb⟩:=F.ex;exact BJ F hr hg hm hk hb .nil hx ha hdb he hpl
theorem Dc{pins:List (PY×Obj)}{Es:St->XK}(F:eI X.prog X.w X.K X.mg X.base x k ps sp)(hr:cB k X.A)(hg:Gl X x)(ha:PA (Xt X pins Es) (e::es) t)(hdb:(x==("__debug__" :Str))=false:=by decide+kernel)(he:Qb (e::es) X.env=(false,eval e X.env)::Qb es X.env:=by rfl)(hpl:(Qe pos (Qb es X.env)).any (·.1)=false:=by rfl):
  PE (Xt X pins Es) (.Call (.Name x p) (e::es) [] pos) (Fy sp Es t):=by
 obtain⟨f,fd,F,hm,hk,hb⟩:=F.ex;exact Fl F hr hg hm hk hb ha hdb he hpl
end
open PySem PySem.Spec PyProof.Rows PySem.SeqAt
theorem gC{X:Cx}{x:Str}{C:PY}{pos:Pos}(hg:Gl X x)(hm:X.mg x=some (.ref C))(hd:(x==("__debug__" :Str))=false:=by decide):PE X (.Name x pos) (tC (.ref C)):=de (v:= .ref C) hg hm rfl hd
section
variable{X:Cx}{K:W.Frag}
def Iy(K:W.Frag):V->List V->Hp->VK->Prop:=fun x vs H Q=>∃(l:PY)(bs:List Bool)(b:Bool),x= .ref l/\vs=[.bl b]/\H l=some (.lst (bs.map V.bl))/\Q (.int (bs.count b:Nat)) H
theorem CV(hK:X.K=K):As X "list.count" (Iy K):=by
 subst hK;intro pins s σ H x vs v us Q I rx rv h;obtain⟨l,bs,b,rfl,rfl,hH,q⟩:=h;cases rx;obtain⟨u,rfl,ru⟩:=rv.one;cases(show u=PX.bool b from ru);obtain⟨z,its,n,r,hl,e⟩:=I.sF hH;have eq:=jE r;subst eq;refine call_meets F.slot_list_count ⟨_,e,rfl⟩ F.entry_list_count (F.args_list_count_2 _ _) (list_countAt l _ n none #[] (.bool b) (fun y=>y== .bool b)) ⟨e,fun y hy=>?_,?_⟩
 .obtain⟨c,_,rfl⟩:=List.mem_map.mp (Array.mem_def.mp hy)
  have:((PX.bool c==PX.bool b):Bool)=(c==b):=by cases c<;>cases b<;>rfl
  rw[this];exact EqAt.bool_bool c b
 .refine⟨.int (bs.count b:Nat),H,I.tok _,⟨s.toks,?_⟩,q⟩
  have:∀l:List Bool,(l.map PX.bool).countP (fun y=>y== .bool b)=l.count b:=fun l=>by
   rw[List.countP_map,List.count];congr 1;funext c;cases c<;>cases b<;>rfl
  simp only[List.toList_toArray];rw[this]
end
section
variable{X:Cx}{K:W.Frag}
theorem ET(its:List PX)(k:Nat)(y:PX):(its.toArray.extract 0 k).push y++its.toArray.extract k=(its.take k++y::its.drop k).toArray:=by
 apply Array.toList_inj.mp;simp[Pw]
end
theorem kq{c k p es env}:Qb (.Constant c k p::es) env=(false,eval (.Constant c k p) env)::Qb es env:=rfl
theorem bA{x p es env}:Qb (.Name x p::es) env=(false,eval (.Name x p) env)::Qb es env:=rfl
theorem sO{a o b p es env}:Qb (.BinOp a o b p::es) env=(false,eval (.BinOp a o b p) env)::Qb es env:=rfl
theorem cU{f a k p es env}:Qb (.Call f a k p::es) env=(false,eval (.Call f a k p) env)::Qb es env:=rfl
theorem D6{a b p es env}:Qb (.Subscript a b p::es) env=(false,eval (.Subscript a b p) env)::Qb es env:=rfl
def KY:Expr->Option V
 | .Constant (.int i) _ _=>some (.int i)
 | .Constant (.str s) _ _=>some (.str s)
 |_=>none
def Bq:List Expr->Option (List V)
 |[]=>some []
 |e::es=>match KY e,Bq es with
  |some v,some vs=>some (v::vs)
  |_,_=>none
def Hd(vs:List V):TA:=fun _ H Q=>Q vs H
theorem gZ{X:Cx}:∀(es:List Expr)(vs:List V),Bq es=some vs->PA X es (Hd vs)
 |[],vs,h=>by cases h;exact ae
 |e::es,vs,h=>by
  unfold Bq at h
  cases h1:KY e with
  |none=>rw[h1]at h;cases h
  |some v=>
   cases h2:Bq es with
   |none=>rw[h1,h2]at h;cases h
   |some ws=>
    rw[h1,h2]at h;cases h;have ih:=gZ (X:=X) es ws h2;unfold KY at h1
    split at h1
    .cases h1
     exact aa aj ih kq
    .cases h1
     exact aa ak ih kq
    .cases h1
theorem CL{X:Cx}:bZ X (.builtin "len") (fun xs H Q=>∃p kvs,xs=[.ref p]/\H p=some (.dK kvs)/\Q (.int (kvs.length:Int)) H):=by
 intro pins s σ H xs us Q I r h;obtain⟨p,kvs,rfl,e,q⟩:=h;obtain⟨u,rfl,rx⟩:=vals1 r;cases rx;exact M4 I (.inl e) fun t s' I'=>⟨.int _,H,I',⟨t,rfl⟩,q⟩
end L2
namespace Sw
open PySem L2
def top(i:Nat):Stmt:=PySem.Challenge.pw_swapstars_k79_a_desk_refuses.main.body.getD i (.Pass ⟨0,0,0,0⟩)
theorem Ly(b:Bool): -(2^64)<(if b=true then(1:Int)else 0)/\(if b=true then(1:Int)else 0)<2^64/\0<=(if b=true then(1:Int)else 0):=by cases b<;>decide
structure bo(H:Hp)(p:PY)(c:Nat):Prop where
 ex:∃(a b d:Int),H p=some (.lst [.int a,.int b,.int d])/\0<=a/\0<=b/\b<2147483647/\0<=d/\d<=c/\c<=100000
def BZ(K:W.Frag):Sp:=fun vs H Q _=>∃(a:PY)(ns:List Int)(i:Int),vs=[.ref a,.int i]/\aI K H a (ns.map V.int)/\0<=i/\i<=1000/\∀p H',H p=none->bo H' p 0->ai H H'->Q (.ref p) H'
def mV:Sp:=fun vs H Q _=>∃(p:PY)(c:Nat)(m:Int),vs=[.ref p,.int m]/\bo H p c/\c<100000/\0<m/\m<2^200/\∀r H',0<=r->r<m->bo H' p (c+1)->aL p H H'->Q (.int r) H'
section
variable{P:P0}{w:P4}{K:W.Frag}{mg:Str->Option PX}{base:Qd}
theorem eK:aE ["_law_purse_here","_law_many","_law_turn","_law_one","_law_other","_law_digit"] ["_law_purse_here","_law_many"] (av (top 117)):=⟨rfl,rfl,rfl,by decide+kernel,rfl,by decide+kernel,by decide+kernel⟩
theorem HS{f:PY}{fd:Qc}(F:dU K "_law_take" "_law_take" (top 117) f fd):aQ P w K mg base i4 1 f fd ["_law_purse_here","_law_many"] mV:=by
 refine F.ok eK (fun vs H Q E h=>?_) (fun cdv A outer s H vs Q E hr h=>?_)
 .obtain⟨p,c,m,rfl,_⟩:=h
  rfl
 .obtain⟨p,c,m,rfl,⟨a,b,d,hp,ha,hb,hb2,hd,hdc,hc0⟩,hc,hm,hm2,k⟩:=h
  refine⟨_,(ag (aN (aw qo (bC (aJ (K:=K) rfl) (pv 0) aj (fun _ _=>rfl)) aj (aB _)) (ag (aC (i:=5) eK.nd rfl (Or.inl rfl) (aG h7 (bC (aJ (K:=K) rfl) (pv 0) aj (fun _ _=>rfl)) (pv 1)))
   (ag (pJ (aG zp (bC (aJ (K:=K) rfl) (pv 0) aj (fun _ _=>rfl)) (pv 1)) (pK (pv 0) aj set_list))
   (ah (ay (pv 5))))) ax)
   (ag (pJ (aG bG (bC (aJ (K:=K) rfl) (pv 0) aj (fun _ _=>rfl)) aj) (pK (pv 0) aj set_list))
   (ag (aC (i:=2) eK.nd rfl (Or.inl rfl) (bC (aJ (K:=K) rfl) (pv 0) aj (fun _ _=>rfl)))
   (ag (aC (i:=3) eK.nd rfl (Or.inl rfl) (aG h7 (aG AG (aG bG (aG bG (bC (aJ (K:=K) rfl) (pv 0) aj (fun _ _=>rfl)) (aG mT (aG mT aj (pv 2)) (pv 2))) aj) aj) aj))
   (ag (aC (i:=4) eK.nd rfl (Or.inl rfl) (aG h7 (aG AG (aG bG (aG mT (pv 3) (aG bG (aG mT aj (pv 2)) aj)) (pv 2)) aj) aj))
   (ah (ay (aG h7 (aG zp (aG bG (aG mT (pv 3) aj) (pv 4)) aj) (pv 1))))))))),?_⟩
  refine⟨_,rfl,p,_,_,_,rfl,rfl,aI.of hp,rfl,_,_,rfl,rfl,_,rfl,?_⟩;refine cg (fun _=>?_) (fun _=>?_)
  .refine⟨_,rfl,p,_,_,_,rfl,rfl,aI.of hp,rfl,_,rfl,_,_,rfl,rfl,hm,?_⟩
   refine⟨_,rfl,p,_,_,_,rfl,rfl,aI.of hp,rfl,_,rfl,_,_,rfl,rfl,⟨hm,hm2⟩,_,rfl,p,_,_,0,rfl,rfl,hp,rfl,?_⟩;refine⟨_,rfl,?_⟩;exact k _ _ (Int.emod_nonneg _ (by lia)) (Int.emod_lt_of_pos _ hm) ⟨_,_,_,af,Int.ediv_nonneg ha (by lia),hb,hb2,hd,by lia,by lia⟩ aL.upd
  .refine⟨_,rfl,p,_,_,_,rfl,rfl,aI.of hp,rfl,_,_,rfl,rfl,_,rfl,p,_,_,2,rfl,rfl,hp,rfl,?_⟩
   have h1:upd H p (.lst [.int a,.int b,.int (d+1)]) p=some (.lst [.int a,.int b,.int (d+1)]):=af;refine⟨_,rfl,p,_,_,_,rfl,rfl,aI.of h1,rfl,?_⟩;have posM:(0:Int)<2147483647:=by decide
   have posN:(0:Int)<998244353:=by decide
   have t0:0<=d+1:=by lia
   have t1:d+1<=200000:=by lia
   have t2:0<=48271*(d+1)*(d+1):=Int.mul_nonneg (by lia) t0;have t3:48271*(d+1)*(d+1)<=48271*200000*200000:=Int.mul_le_mul (by lia) t1 t0 (by lia);refine⟨_,rfl,p,_,_,_,rfl,rfl,aI.of h1,rfl,_,rfl,_,_,rfl,rfl,.inl ⟨by lia,by lia⟩,_,rfl,_,_,rfl,rfl,.inr ⟨by lia,by lia⟩,_,_,rfl,rfl,_,_,rfl,rfl,_,_,rfl,rfl,⟨by lia,by lia,by lia⟩,_,_,rfl,rfl,posM,?_⟩;have o0:0<=((b+48271*(d+1)*(d+1)+1)^Int.toNat 5%2147483647):=Int.emod_nonneg _ (by decide);have o1:((b+48271*(d+1)*(d+1)+1)^Int.toNat 5%2147483647)<2147483647:=Int.emod_lt_of_pos _ (by decide);have u0:0<=((b+48271*(d+1)*(d+1)+1)^Int.toNat 5%2147483647)*(2*(d+1)+30011):=Int.mul_nonneg o0 (by lia);have u1:((b+48271*(d+1)*(d+1)+1)^Int.toNat 5%2147483647)*(2*(d+1)+30011)<=2147483647*430011:=Int.mul_le_mul (by lia) (by lia) (by lia) (by lia);refine⟨_,rfl,_,rfl,_,_,rfl,rfl,.inl ⟨by lia,by lia⟩,_,_,rfl,rfl,_,_,rfl,rfl,.inl ⟨by lia,by lia⟩,_,rfl,_,_,rfl,rfl,_,_,rfl,rfl,⟨by lia,by lia,by lia⟩,_,_,rfl,rfl,posN,?_⟩;refine⟨_,rfl,_,_,rfl,rfl,.inl ⟨by lia,by lia⟩,_,rfl,_,_,rfl,rfl,_,_,rfl,rfl,⟨by decide,by decide⟩,_,rfl,_,_,rfl,rfl,hm,?_⟩;exact k _ _ (Int.emod_nonneg _ (by lia)) (Int.emod_lt_of_pos _ hm) ⟨_,_,_,h1,ha,hb,hb2,t0,by lia,by lia⟩ aL.upd
structure AI(mg:Str->Option PX):Prop where
 bX:mg "len" =none
 Mj:mg "abs" =none
 Bt:mg "int" =none
theorem fX:aE ["_law_script","_law_at","_law_cell","_law_far"] ["_law_script","_law_at"] (av (top 116)):=⟨rfl,rfl,rfl,by decide+kernel,rfl,by decide+kernel,by decide+kernel⟩
theorem FO{f:PY}{fd:Qc}(F:dU K "_law_purse" "_law_purse" (top 116) f fd)(T:AI mg):aQ P w K mg base i4 1 f fd ["_law_script","_law_at"] (BZ K):=by
 refine F.ok fX (fun vs H Q E h=>?_) (fun cdv A outer s H vs Q E hr h=>?_)
 .obtain⟨a,ns,i,rfl,_⟩:=h
  rfl
 .obtain⟨a,ns,i,rfl,hs,hi,hi2,k⟩:=h
  refine⟨_,(ag (aC (i:=2) fX.nd rfl (Or.inl rfl) aj)
   (ag (aN (aw BA (pv 1) (ar (aZ (K:=K) rfl) rfl T.bX (by decide+kernel) (aa (pv 0) ae)) (aB _)) (ah (aC (i:=2) fX.nd rfl (Or.inl rfl) (bC (aJ (K:=K) rfl) (pv 0) (pv 1) (fun _ _=>rfl)))) ax)
   (ag (aC (i:=3) fX.nd rfl (Or.inl rfl) (ar FJ rfl T.Mj (by decide+kernel) (aa (pv 2) ae)))
   (ah (ay (bH (@aa _ _ _ _ _ (aG mT (pv 3) (aY DF rfl T.Bt (by decide+kernel) (aa (iG Ji (pv 3) (aG AG aj aj) (aB _)) ae))) (@aa _ _ _ _ _ (aG h7 (aG bG (aG bG (aG h7 (pv 2) aj) (aG mT aj (pv 1))) aj) aj) (@aa _ _ _ _ _ aj ae kq) sO) sO))))))),?_⟩
  have posM:(0:Int)<2147483647:=by decide
  refine⟨_,rfl,_,rfl,a,_,rfl,.inl hs,_,_,rfl,rfl,_,rfl,?_⟩;refine cg (fun hlt=>?_) (fun _=>?_)
  .have hlt:i<((ns.map V.int).length:Int):=of_decide_eq_true hlt
   rw[Pe]at hlt;have hx:∃x,ns[i.toNat]?=some x:=by
    rw[Ph (by lia)];exact⟨_,rfl⟩
   obtain⟨x,hx⟩:=hx;have ha:wm (ns.map V.int) i=some (V.int x):=by
    have e:((i.toNat:Nat):Int)=i:=Int.toNat_of_nonneg hi;rw[←e];exact bN (by rw[Pf,hx];rfl)
   refine⟨_,rfl,_,rfl,a,_,_,_,rfl,rfl,hs,ha,?_⟩;refine⟨_,rfl,x,rfl,?_⟩;refine⟨_,rfl,_,rfl,_,_,rfl,rfl,⟨by decide,by decide,by decide⟩,_,_,rfl,rfl,.inr ⟨_,rfl,_,_,rfl,rfl,.inr ⟨?b1,?b2⟩,_,rfl,_,_,rfl,rfl,posM,_,rfl,_,_,rfl,rfl,.inl ⟨by decide,by decide⟩,_,_,rfl,rfl,_,_,rfl,rfl,_,_,rfl,rfl,posM,(by show 3<=P6;decide),fun p hp=>?_⟩⟩
   (case b1=>exact(Ly _).1)
   (case b2=>exact(Ly _).2.1)
   refine k p _ hp ⟨⟨_,_,_,af,?_,Int.emod_nonneg _ (by decide),Int.emod_lt_of_pos _ (by decide),Int.le_refl _,by decide,by decide⟩⟩ (ai.new hp);refine Int.mul_nonneg ?_ ?_
   .split<;>lia
   .exact(Ly _).2.2
  .refine⟨_,rfl,0,rfl,?_⟩
   refine⟨_,rfl,_,rfl,_,_,rfl,rfl,⟨by decide,by decide,by decide⟩,_,_,rfl,rfl,.inr ⟨_,rfl,_,_,rfl,rfl,.inr ⟨?b1,?b2⟩,_,rfl,_,_,rfl,rfl,posM,_,rfl,_,_,rfl,rfl,.inl ⟨by decide,by decide⟩,_,_,rfl,rfl,_,_,rfl,rfl,_,_,rfl,rfl,posM,(by show 3<=P6;decide),fun p hp=>?_⟩⟩
   (case b1=>exact(Ly _).1)
   (case b2=>exact(Ly _).2.1)
   refine k p _ hp ⟨⟨_,_,_,af,?_,Int.emod_nonneg _ (by decide),Int.emod_lt_of_pos _ (by decide),Int.le_refl _,by decide,by decide⟩⟩ (ai.new hp);refine Int.mul_nonneg ?_ ?_
   .split<;>lia
   .exact(Ly _).2.2
end
end Sw
namespace L2
open PySem
theorem tS{X:Cx}{K:W.Frag}(h:X.K=K):bZ X (.type "list") (fun xs H Q=>∃p ys,xs=[.ref p]/\(aI K H p ys\/gL K H p ys)/\∀l,H l=none->Q (.ref l) (upd H l (.lst ys))):=by subst h;exact wC
theorem cz{X:Cx}{K:W.Frag}(h:X.K=K):bZ X (.type "tuple") (fun xs H Q=>∃p ys,xs=[.ref p]/\((aI K H p ys/\∀l,H l=none->Q (.ref l) (upd H l (.tup ys)))\/(gL K H p ys/\Q (.ref p) H))):=by subst h;exact tN
end L2
namespace Sw
open PySem L2
def B2:Sp:=fun vs H Q _=>∃(n:Int),vs=[.int n]/\0<=n/\n<=1000/\∀t H',H t=none->H' t=some (.tup ((cZ 1 (n+1)).map V.int))->ai H H'->Q (.ref t) H'
structure T1(mg:Str->Option PX)(K:W.Frag):Prop extends AI mg where
 B0:mg "all" =none
 aH:mg "isinstance" =none
 Ep:mg "bool" =none
 gT:mg "tuple" =none
 wY:mg "list" =none
 cS:mg "range" =none
 Ol:W.kitOne K (.type "int") (.type "bool")=some false
theorem aR{α β:Type}(f:α->β){l:List α}{i:Nat}{x:α}(h:l[i]?=some x):(l.take (i+1)).map f=(l.take i).map f++[f x]:=by
 rw[PJ,h,Pj];rfl
theorem bo.mono {H:Hp}{p:PY}{c c':Nat}(h:bo H p c)(a:c<=c')(b:c'<=100000):bo H p c':=by
 obtain⟨x,y,z,e,h1,h2,h3,h4,h5,h6⟩:=h.ex;exact⟨x,y,z,e,h1,h2,h3,h4,by lia,b⟩
theorem bo.keep {H H':Hp}{p:PY}{c:Nat}(h:bo H p c)(k:ai H H'):bo H' p c:=by
 obtain⟨x,y,z,e,r⟩:=h.ex;exact⟨x,y,z,k _ _ e,r⟩
theorem bo.at {H:Hp}{p:PY}{c:Nat}(h:bo H p c):∃xs,H p=some (.lst xs):=by
 obtain⟨x,y,z,e,r⟩:=h.ex;exact⟨_,e⟩
theorem bo.upd {H:Hp}{p q:PY}{c:Nat}{o:HO}(h:bo H p c)(n:p≠q):bo (L2.upd H q o) p c:=by
 obtain⟨x,y,z,e,r⟩:=h.ex;exact⟨x,y,z,by rw[ao n];exact e,r⟩
theorem bo.ne {H:Hp}{p q:PY}{c:Nat}(h:bo H p c)(n:H q=none):p≠q:=by
 obtain⟨xs,e⟩:=h.at;exact au e n
theorem aL.OH {p:PY}{H H':Hp}{c:Nat}(s:aL p H H')(h:bo H p c){vs:List V}{r:List (Int×Int)}(x:jm H vs r):jm H' vs r:=by
 obtain⟨xs,e⟩:=h.at;exact x.keep (aL.fD s e)
theorem aL.put {p l:PY}{H H':Hp}{o:HO}(s:aL p H H')(h:H l=none):aL p H (upd H' l o):=fun b o' hb e=>by
 rw[ao (au e h)];exact s b o' hb e
theorem eF{p l:PY}{H H':Hp}(s:aL p H H')(n:p≠l)(h:H' l=none):H l=none:=by
 cases e:H l with
 |none=>rfl
 |some o=>rw[s l o n.symm e]at h;cases h
theorem nY{ls:List Int}:∀{k:Nat},(ls.map V.int).eraseIdx k=(ls.eraseIdx k).map V.int:=by
 induction ls with
 |nil=>intro k;rfl
 |cons a t ih=>
  intro k
  cases k with
  |zero=>rfl
  |succ k=>
   rw[Pm,List.eraseIdx_cons_succ,List.eraseIdx_cons_succ,Pm,ih]
theorem qZ{ns:List Int}{i:Nat}{x:V}(h:(ns.map V.int)[i]?=some x):∃z,x= .int z/\ns[i]?=some z:=by
 rw[Pf]at h
 cases e:ns[i]? with
 |none=>rw[e]at h;cases h
 |some z=>rw[e]at h;exact⟨z,(PU h).symm,rfl⟩
theorem jC{ns:List Int}{i:Int}{z:Int}(h0:0<=i)(h:ns[i.toNat]?=some z):wm (ns.map V.int) i=some (V.int z):=by
 have e:((i.toNat:Nat):Int)=i:=Int.toNat_of_nonneg h0;rw[←e];exact bN (by rw[Pf,h];rfl)
theorem o5{ns:List Int}{k:Nat}(h:k<ns.length):∃z,ns[k]?=some z:=⟨_,Ph h⟩
theorem sA{n:Nat}{i:Int}(h0:0<=i)(h:i<n):Gr n i=some i.toNat:=by
 unfold Gr;rw[if_pos h0,if_pos h]
theorem B1{ns:List Int}{k:Nat}{z:Int}(h:ns[k]?=some z):(ns.map V.int)[k]?=some (V.int z):=by rw[Pf,h];rfl
def Cg:Sp:=fun vs H Q _=>∃(p:PY)(c:Nat)(n:Int),vs=[.ref p,.int n]/\bo H p c/\c<=90000/\1<=n/\n<=100/\
 ∀t xs H',H t=none->H' t=some (.tup (xs.map V.int))->Ord n xs->bo H' p (c+300)->aL p H H'->Q (.ref t) H'
inductive cV(H:Hp):List V->List (List Int)->Prop
 |nil:cV H [] []
 |cons {a:PY} {ns:List Int} {vs:List V} {r:List (List Int)}:H a=some (.lst (ns.map V.int))->cV H vs r->cV H (.ref a::vs) (ns::r)
theorem cV.length {H:Hp}:∀{vs:List V}{r:List (List Int)},cV H vs r->vs.length=r.length
 |_,_,.nil=>rfl
 |_,_,.cons _ x=>by rw[Pl,Pl,x.length]
theorem cV.keep {H H':Hp}(k:ai H H'):∀{vs:List V}{r:List (List Int)},cV H vs r->cV H' vs r
 |_,_,.nil=> .nil
 |_,_,.cons h x=> .cons (k _ _ h) (x.keep k)
theorem cV.append {H:Hp}:∀{vs ws:List V}{r q:List (List Int)},cV H vs r->cV H ws q->cV H (vs++ws) (r++q)
 |_,_,_,_,.nil,y=>y
 |_,_,_,_,.cons h x,y=> .cons h (x.append y)
theorem cV.snoc {H:Hp}{vs:List V}{r:List (List Int)}{a:PY}{ns:List Int}(x:cV H vs r)(h:H a=some (.lst (ns.map V.int))):cV H (vs++[.ref a]) (r++[ns]):=x.append (.cons h .nil)
theorem cV.get {H:Hp}:∀{vs:List V}{r:List (List Int)}{i:Nat}{x:V},cV H vs r->vs[i]?=some x->∃a ns,x= .ref a/\H a=some (.lst (ns.map V.int))/\r[i]?=some ns
 |_,_,_,_,.nil,e=>by simp at e
 |_,_,0,_,.cons h x,e=>by simp at e;subst e;exact⟨_,_,rfl,h,rfl⟩
 |_,_,i+1,_,.cons h x,e=>by
  obtain⟨t,a,e1,e2,e3⟩:=x.get (i:=i) (by simpa using e);exact⟨t,a,e1,e2,by simpa using e3⟩
theorem cV.mem {H:Hp}{vs:List V}{r:List (List Int)}(x:cV H vs r){a:PY}(h:V.ref a∈vs):∃ns,H a=some (.lst ns):=by
 obtain⟨i,hi,e⟩:=List.mem_iff_getElem.mp h;obtain⟨b,ns,e1,e2,_⟩:=x.get (i:=i) (by rw[Ph hi,e]);cases e1;exact⟨_,e2⟩
theorem cV.off {H:Hp}{a:PY}{o:HO}:∀{vs:List V}{r:List (List Int)},cV H vs r->V.ref a∉vs->cV (upd H a o) vs r
 |_,_,.nil,_=> .nil
 |_,_,.cons (a:=b) h x,n=>by
  refine .cons ?_ (x.off fun z=>n (Pu _ z));rw[ao (by intro z;subst z;exact n Pt)];exact h
def jq(H:Hp)(vs:List V):Prop:=vs.Nodup/\∀v∈vs,∃a,v= .ref a/\H a=none
theorem jq.nil {H:Hp}:jq H []:=⟨List.nodup_nil,fun v h=>by cases h⟩
theorem jq.snoc {H H':Hp}{vs:List V}{r:List (List Int)}{a:PY}(f:jq H vs)(x:cV H' vs r)(h':H' a=none)(h:H a=none):jq H (vs++[.ref a]):=by
 refine⟨List.nodup_append.mpr ⟨f.1,by simp,?_⟩,fun v hv=>?_⟩
 .intro y hy z hz e
  rw[List.mem_singleton.mp hz]at e;subst e;obtain⟨ns,e⟩:=x.mem hy;rw[h']at e;cases e
 .rcases List.mem_append.mp hv with z|z
  .exact f.2 v z
  .exact⟨a,List.mem_singleton.mp z,h⟩
theorem jq.sub {H:Hp}{vs ws:List V}(f:jq H vs)(s:ws.Sublist vs):jq H ws:=⟨f.1.sublist s,fun v h=>f.2 v (s.subset h)⟩
def Mh:Sp:=fun vs H Q _=>∃(t:PY)(n x:Int)(xs:List Int),vs=[.ref t,.int x]/\H t=some (.tup (xs.map V.int))/\Ord n xs/\n<=1000/\1<=x/\x<=n/\∀l H',H l=none->H' l=some (.lst ((iQ xs x).map V.int))->ai H H'->Q (.ref l) H'
def jh:Sp:=fun vs H Q _=>∃(t:PY)(n:Int)(xs:List Int),vs=[.ref t]/\H t=some (.tup (xs.map V.int))/\Ord n xs/\n<=1000/\∀l ws H',H l=none->H' l=some (.lst ws)->cV H' ws (bj n xs)->jq H ws->V.ref l∉ws->ai H H'->Q (.ref l) H'
theorem FG{A B:Prop}{b:Bool}(h:b=true)(x:A):if b=true then A else B:=by rw[if_pos h];exact x
theorem pB{A B:Prop}{b:Bool}(h:b=false)(x:B):if b=true then A else B:=by rw[h,if_neg PR];exact x
def Kd:Sp:=fun vs H Q _=>∃(t:PY)(n:Int)(xs:List Int),vs=[.ref t]/\H t=some (.tup (xs.map V.int))/\Ord n xs/\n<=1000/\∀l es H',H l=none->H' l=some (.lst es)->jm H' es (FL xs)->ai H H'->Q (.ref l) H'
theorem cV.eraseIdx {H:Hp}:∀{vs:List V}{r:List (List Int)}(k:Nat),cV H vs r->cV H (vs.eraseIdx k) (r.eraseIdx k)
 |_,_,_,.nil=> .nil
 |_,_,0,.cons h x=>x
 |_,_,k+1,.cons h x=> .cons h (x.eraseIdx k)
def MU:Sp:=fun vs H Q _=>∃x lo hi:Int,vs=[.int x,.int lo,.int hi]/\Q (.bl (decide (lo<=x/\x<=hi))) H
def Cf(K:W.Frag):Sp:=fun vs H Q _=>∃(a:PY)(ns:List Int),vs=[.ref a]/\aI K H a (ns.map V.int)/\ns.length<=63/\∀H',Q (.bl true) H'
theorem ai.of {p:PY}{H0 H H':Hp}(a:ai H0 H)(n:H0 p=none)(b:aL p H H'):ai H0 H':=fun c o e=>b c o (au e n) (a c o e)
theorem ai.put {l:PY}{H H':Hp}{o:HO}(s:ai H H')(h:H l=none):ai H (upd H' l o):=fun b o' e=>by
 rw[ao (au e h)];exact s b o' e
def OY:PyData->Bool
 | .int _=>true
 |_=>false
def zW(lo hi:Int):PyData->Bool
 | .int i=>decide (lo<=i/\i<=hi)
 |_=>false
def OA:PyData->PyData->Bool
 | .int a,.int b=>decide (a<b)
 |_,_=>false
def tZ(n:Int):PyData->Bool
 | .tuple [x,y]=>(zW 1 n x&&zW 1 n y)&&OA x y
 |_=>false
def rj(n:Int):PyData->Bool
 | .list ds=>decide (ds.length<=60)&&ds.all (tZ n)
 |_=>false
def Jy:Sp:=fun vs H Q _=>∃(v:V)(P:PY->Prop)(d:PyData),vs=[v]/\DT H P v d/\Q (.bl (OY d)) H
def JC:Sp:=fun vs H Q _=>∃(v:V)(P:PY->Prop)(d:PyData)(lo hi:Int),vs=[v,.int lo,.int hi]/\DT H P v d/\Q (.bl (zW lo hi d)) H
def Gp:Sp:=fun vs H Q _=>∃(v:V)(P:PY->Prop)(d:PyData)(n:Int),vs=[.int n,v]/\DT H P v d/\∀H',ai H H'->Q (.bl (tZ n d)) H'
def qU:Sp:=fun vs H Q _=>∃(v:V)(P:PY->Prop)(d:PyData)(n:Int),vs=[.int n,v]/\DT H P v d/\(∀ds,d= .list ds->ds.length<=1000)/\∀H',ai H H'->Q (.bl (rj n d)) H'
theorem DT.same {H H':Hp}{P:PY->Prop}{v:V}{d:PyData}(h:DT H P v d)(s:ai H H'):DT H' P v d:=h.keep fun b o _ e=>s b o e
theorem zj{α:Type}{q:α->Bool}{l:List α}{i:Nat}{x:α}(h:l[i]?=some x):(l.take (i+1)).map q=(l.take i).map q++[q x]:=by
 rw[PJ,h,Pj];rfl
structure TD(P:P0)(w:P4)(K:W.Frag)(mg:Str->Option PX)(base:Qd):Prop extends T1 mg K where
 sQ:FnAt P w K mg base "is_whole" 1 ["thing"] Jy
structure Ou(P:P0)(w:P4)(K:W.Frag)(mg:Str->Option PX)(base:Qd):Prop extends T1 mg K where
 eV:FnAt P w K mg base "is_between" 2 ["thing","low","high"] JC
structure OC(P:P0)(w:P4)(K:W.Frag)(mg:Str->Option PX)(base:Qd)(u:PX):Prop extends T1 mg K where
 cx:mg "MOST_EXCHANGES" =some u
 cu:RelV (.int 60) u
 mP:FnAt P w K mg base "is_exchange" 4 ["n","thing"] Gp
section
variable{P:P0}{w:P4}{K:W.Frag}{mg:Str->Option PX}{base:Qd}
theorem yH:aE ["thing"] ["thing"] (av (top 15)):=⟨rfl,rfl,rfl,by decide+kernel,rfl,by decide+kernel,by decide+kernel⟩
theorem K5{f:PY}{fd:Qc}(F:dU K "is_whole" "is_whole" (top 15) f fd)(T:T1 mg K):aQ P w K mg base i4 1 f fd ["thing"] Jy:=by
 refine F.ok yH (fun vs H Q E h=>?_) (fun cdv A outer s H vs Q E hr h=>?_)
 .obtain⟨v,P,d,rfl,_⟩:=h
  rfl
 .obtain⟨v,P,d,rfl,hd,k⟩:=h
  refine⟨_,(ah (ay (wK (ar (hV (K:=K) rfl) rfl T.aH (by decide+kernel) (aa (pv 0) (aa (jG (v:= .ty "int") rfl T.Bt (by decide+kernel) rfl) ae))) (wR (KL (ar (hV (K:=K) rfl) rfl T.aH (by decide+kernel) (aa (pv 0) (aa (jG (v:= .ty "bool") rfl T.Ep (by decide+kernel) rfl) ae)))))))),?_⟩;refine⟨_,rfl,_,_,"int",_,rfl,hd.ty,Iu K hd,_,rfl,cg (fun c=>?_) (fun c=>?_)⟩
  .refine⟨_,rfl,_,_,"bool",_,rfl,hd.ty,Fj K hd,_,rfl,?_⟩
   cases hd<;>first|exact k|exact absurd c PR
  .cases hd<;>first|exact k|exact absurd rfl c
theorem tW:aE ["thing","low","high"] ["thing","low","high"] (av (top 16)):=⟨rfl,rfl,rfl,by decide+kernel,rfl,by decide+kernel,by decide+kernel⟩
theorem Gm{f:PY}{fd:Qc}(F:dU K "is_between" "is_between" (top 16) f fd)(T:TD P w K mg base):aQ P w K mg base i4 2 f fd ["thing","low","high"] JC:=by
 refine F.ok tW (fun vs H Q E h=>?_) (fun cdv A outer s H vs Q E hr h=>?_)
 .obtain⟨v,P,d,lo,hi,rfl,_⟩:=h
  rfl
 .obtain⟨v,P,d,lo,hi,rfl,hd,k⟩:=h
  refine⟨_,(ah (ay (wK (aq T.sQ (hr.mono (by first|decide|lia)) rfl (aa (pv 0) ae)) (wR (FA p5 p5 (pv 1) (pv 0) (pv 2)))))),?_⟩;refine⟨_,rfl,v,P,d,rfl,hd,_,rfl,?_⟩
  cases hd with
  |int x=>
   refine zA ?_;refine⟨_,rfl,_,rfl,_,_,rfl,rfl,_,rfl,cg (fun c=>?_) (fun c=>?_)⟩
   .have c:lo<=x:=of_decide_eq_true c
    have e:zW lo hi (.int x)=decide (x<=hi):=by show decide (lo<=x/\x<=hi)=_;rw[Bool.eq_iff_iff];simp[c]
    rw[e]at k;exact⟨_,rfl,_,_,rfl,rfl,k⟩
   .have c:¬lo<=x:=of_decide_eq_false (by simpa using c)
    have e:zW lo hi (.int x)=false:=by show decide (lo<=x/\x<=hi)=_;simp[c]
    rw[e]at k;exact k
  |_=>exact Gy k
theorem rX:aE ["n","thing"] ["n","thing"] (av (top 30)):=⟨rfl,rfl,rfl,by decide+kernel,rfl,by decide+kernel,by decide+kernel⟩
theorem GZ{f:PY}{fd:Qc}(F:dU K "is_exchange" "is_exchange" (top 30) f fd)(T:Ou P w K mg base):aQ P w K mg base i4 4 f fd ["n","thing"] Gp:=by
 refine F.ok rX (fun vs H Q E h=>?_) (fun cdv A outer s H vs Q E hr h=>?_)
 .obtain⟨v,P,d,n,rfl,_⟩:=h
  rfl
 .obtain⟨v,P,d,n,rfl,hd,k⟩:=h
  refine⟨_,(ag (aN (PW.pt (fu (dm (dq (ar (hV (K:=K) rfl) rfl T.aH (by decide+kernel) (aa (pv 1) (aa (jG (v:= .ty "tuple") rfl T.gT (by decide+kernel) rfl) ae))))) (dG (aw eC (ar (aZ (K:=K) rfl) rfl T.bX (by decide+kernel) (aa (pv 1) ae)) aj (aB _))))) (ah (ay eT)) ax)
   (ah (ay (wK (ar (ph (K:=K) rfl rfl) rfl T.B0 (by decide+kernel) (aa (bU (N:=(["number","n"]:List Str)) (ix:=([none,some 0]:List (Option Nat))) (aW rfl rfl) rfl (HF (K:=K) rfl (pv 1)) (fun _ _ _ _=>(aA (i:=0) (show List.Nodup (["number","n"]:List Str)from by decide+kernel) rfl (Or.inl rfl))) (fun _ _ _ _=>bq) (fun _ _ _ _=>(aq T.eV (hr.mono (by first|decide|lia)) rfl (@aa _ _ _ _ _ (pv 0) (@aa _ _ _ _ _ aj (@aa _ _ _ _ _ (pv 1) ae bA) kq) bA)))) ae)) (wR (iG BA (bC (mf (K:=K) rfl) (pv 1) aj (fun _ _=>rfl)) (bC (mf (K:=K) rfl) (pv 1) aj (fun _ _=>rfl)) (aB _))))))),?_⟩
  refine⟨_,rfl,_,_,"tuple",_,rfl,hd.ty,kit_tuple K hd,_,rfl,?_⟩
  cases hd with
  | @tup a us ds ha pa rs=>
   refine Gy ?_;have ul:=rs.length;refine⟨_,rfl,a,_,rfl,.inr (gL.of ha),rfl,_,rfl,cg (fun c=>?_) (fun c=>?_)⟩
   .have c:ds.length≠2:=by
     intro z;rw[ul,z]at c;exact absurd c (by decide)
    have e:tZ n (.tuple ds)=false:=by
     match ds,c with
     |[],_=>rfl
     |[_],_=>rfl
     |[_,_],c=>exact absurd rfl c
     |_::_::_::_,_=>rfl
    rw[e]at k;exact k H (ai.refl H)
   .have c:ds.length=2:=by
     apply PV;intro z;have:decide (V.int (us.length:Int)=V.int 2)=false:=decide_eq_false (by intro q;have:=V.int.inj q;lia);rw[this]at c;exact absurd rfl c
    match ds,us,rs,c with
    |[x,y],[vx,vy],.cons hx (.cons hy .nil),_=>
     refine⟨_,rfl,a,rfl,⟨_,gL.of ha⟩,LG (K:=K) (a:=a) (xs:=[vx,vy]) (k:=0) (fun i ys σ' H'=>ys=(([x,y].take i).map (zW 1 n)).map V.bl/\(∃v,σ'=[v,some (.int n)])/\H'=H) (by show 2<=1000000;decide) ⟨rfl,⟨none,rfl⟩,rfl⟩ (fun i ys σ' H' _ q=>by rw[q.2.2];exact gL.of ha) (fun i ys σ' H' q=>by rw[q.1,Pe,Pe,Pn];lia) ?_ ?_⟩
     .rintro i ys σ' H' z R hz ⟨rfl,⟨v,rfl⟩,rfl⟩ done
      obtain⟨d,hd,hdz⟩:=(oK.cons hx (oK.cons hy oK.nil)).get hz;refine⟨_,rfl,_,rfl,z,P,d,1,n,rfl,hdz,done _ _ _ ⟨?_,⟨_,rfl⟩,rfl⟩⟩;rw[zj hd,Pj];rfl
     .rintro ys σ' H' q ⟨rfl,⟨v,rfl⟩,rfl⟩ fq
      have s1:ai H' (upd H' q (.lst (([x,y].map (zW 1 n)).map V.bl))):=ai.new fq;refine⟨q,[x,y].map (zW 1 n),rfl,aI.of af,_,rfl,cg (fun c2=>?_) (fun c2=>?_)⟩
      .have c2:zW 1 n x=true/\zW 1 n y=true:=by simpa using c2
       refine⟨_,rfl,a,_,_,_,rfl,rfl,gL.of (s1 _ _ ha),rfl,_,rfl,a,_,_,_,rfl,rfl,gL.of (s1 _ _ ha),rfl,?_⟩
       cases hx with
       |int i=>
        cases hy with
        |int j=>
         have e:tZ n (.tuple [.int i,.int j])=decide (i<j):=by show((zW 1 n (.int i)&&zW 1 n (.int j))&&decide (i<j))=_;rw[c2.1,c2.2];rfl
         rw[e]at k;exact⟨_,_,rfl,rfl,k _ s1⟩
        |_=>exact absurd c2.2 PR
       |_=>exact absurd c2.1 PR
      .have e:tZ n (.tuple [x,y])=false:=by
        show((zW 1 n x&&zW 1 n y)&&OA x y)=false;have:(zW 1 n x&&zW 1 n y)=false:=by simpa using c2
        rw[this];rfl
       rw[e]at k;exact k _ s1
  |_=>exact zA (k H (ai.refl H))
theorem C0:aE ["n","thing"] ["n","thing"] (av (top 31)):=⟨rfl,rfl,rfl,by decide+kernel,rfl,by decide+kernel,by decide+kernel⟩
theorem Ge{u:PX}{f:PY}{fd:Qc}(F:dU K "is_row" "is_row" (top 31) f fd)(T:OC P w K mg base u):aQ P w K mg base i4 6 f fd ["n","thing"] qU:=by
 refine F.ok C0 (fun vs H Q E h=>?_) (fun cdv A outer s H vs Q E hr h=>?_)
 .obtain⟨v,P,d,n,rfl,_⟩:=h
  rfl
 .obtain⟨v,P,d,n,rfl,hd,hlen,k⟩:=h
  refine⟨_,(ag (aN (PW.pt (fu (dm (dq (ar (hV (K:=K) rfl) rfl T.aH (by decide+kernel) (aa (pv 1) (aa (jG (v:= .ty "list") rfl T.wY (by decide+kernel) rfl) ae))))) (dG (aw qo (ar (aZ (K:=K) rfl) rfl T.bX (by decide+kernel) (aa (pv 1) ae)) (de rfl T.cx T.cu) (aB _))))) (ah (ay eT)) ax)
   (ah (ay (ar (ph (K:=K) rfl rfl) rfl T.B0 (by decide+kernel) (aa (bU (N:=(["exchange","n"]:List Str)) (ix:=([none,some 0]:List (Option Nat))) (aW rfl rfl) rfl (aV (K:=K) rfl (pv 1)) (fun _ _ _ _=>(aA (i:=0) (show List.Nodup (["exchange","n"]:List Str)from by decide+kernel) rfl (Or.inl rfl))) (fun _ _ _ _=>bq) (fun _ _ _ _=>(aq T.mP (hr.mono (by first|decide|lia)) rfl (aa (pv 1) (aa (pv 0) ae))))) ae))))),?_⟩
  refine⟨_,rfl,_,_,"list",_,rfl,hd.ty,Ee K hd,_,rfl,?_⟩
  cases hd with
  | @lst a us ds ha pa rs=>
   refine Gy ?_;have ul:=rs.length;have dl:=hlen ds rfl;refine⟨_,rfl,a,_,rfl,.inl (aI.of ha),_,_,rfl,rfl,_,rfl,cg (fun c=>?_) (fun c=>?_)⟩
   .have c:60<us.length:=by have:=of_decide_eq_true c;lia
    have e:rj n (.list ds)=false:=by
     show(decide (ds.length<=60)&&_)=false;rw[decide_eq_false (by lia)];rfl
    rw[e]at k;exact k H (ai.refl H)
   .have c:us.length<=60:=by
     apply PV;intro z;have:decide ((60:Int)<(us.length:Int))=true:=decide_eq_true (by lia);exact c this
    refine⟨_,rfl,a,rfl,⟨_,aI.of ha⟩,iC (K:=K) (a:=a) (xs:=us) (k:=0) (fun i ys σ' H'=>ys=((ds.take i).map (tZ n)).map V.bl/\(∃v,σ'=[v,some (.int n)])/\ai H H') (by lia) ⟨rfl,⟨none,rfl⟩,ai.refl _⟩ (fun i ys σ' H' _ q=>aI.of (q.2.2 _ _ ha)) (fun i ys σ' H' q=>by rw[q.1,Pe,Pe,Pn];lia) ?_ ?_⟩
    .rintro i ys σ' H' z R hz ⟨rfl,⟨v,rfl⟩,s1⟩ done
     obtain⟨d,hd,hdz⟩:=rs.get hz;refine⟨_,rfl,_,rfl,z,P,d,n,rfl,DT.same hdz s1,fun H2 s2=>done _ _ _ ⟨?_,⟨_,rfl⟩,s1.trans s2⟩⟩;rw[zj hd,Pj];rfl
    .rintro ys σ' H' q ⟨rfl,⟨v,rfl⟩,s1⟩ fq
     rw[Pw (by lia)];refine⟨q,ds.map (tZ n),rfl,aI.of af,?_⟩;have e:rj n (.list ds)=(ds.map (tZ n)).all id:=by
      show(decide (ds.length<=60)&&ds.all (tZ n))=_;rw[decide_eq_true (by lia),List.all_map];rfl
     rw[e]at k;exact k _ (s1.trans (ai.new fq))
  |_=>exact zA (k H (ai.refl H))
end
def M3(r:List Int):List (Int×Int):=r.tail.map fun y=>(r.headD 0,y)
def FW(n:Int)(xs:List Int):List (Int×Int):=((bj n xs).map M3).flatten
end Sw
namespace L2
open PySem PySem.Spec PyProof.Rows
section
variable{X:Cx}{K:W.Frag}
def Ju(f:Str->Bool):V->List V->Hp->VK->Prop:=fun x vs H Q=>∃z,x= .str z/\vs=[]/\Q (.bl (f z)) H
theorem sV:As X "str.isascii" (Ju Txt.isascii):=by
 intro pins s σ H x vs v us Q I rx rv h;obtain⟨z,rfl,rfl,q⟩:=h;obtain⟨t,rfl⟩:=rx;cases rv;exact SC.isascii ⟨.bl _,H,I,rfl,q⟩
theorem sk:As X "str.isdigit" (Ju Txt.isdigit):=by
 intro pins s σ H x vs v us Q I rx rv h;obtain⟨z,rfl,rfl,q⟩:=h;obtain⟨t,rfl⟩:=rx;cases rv;exact SC.isdigit ⟨.bl _,H,I,rfl,q⟩
def HC:V->List V->Hp->VK->Prop:=fun x vs H Q=>∃z y,x= .str z/\vs=[.str y]/\Q (.bl (Txt.startswith z y)) H
theorem uG:As X "str.startswith" HC:=by
 intro pins s σ H x vs v us Q I rx rv h;obtain⟨z,y,rfl,rfl,q⟩:=h;obtain⟨t,rfl⟩:=rx;obtain⟨u,rfl,t',rfl⟩:=rv.one;exact SC.startswith ⟨.bl _,H,I,rfl,q⟩
theorem uT:∀{ts:List Str}{us:List PX},Vals (ts.map V.str) us->∃l:List (Str×Tok),us=strValues l/\l.map (·.1)=ts
 |[],_,.nil=>⟨[],rfl,rfl⟩
 |x::r,_,.cons h t=>by
  obtain⟨tk,rfl⟩:=h;obtain⟨l,e1,e2⟩:=uT t;exact⟨(x,tk)::l,by rw[e1];rfl,by rw[Pm,e2]⟩
theorem u7:∀(l:List (Str×Tok)),Vals ((l.map (·.1)).map V.str) (strValues l)
 |[]=> .nil
 |(x,t)::l=> .cons ⟨t,rfl⟩ (u7 l)
def rJoin(K:W.Frag):V->List V->Hp->VK->Prop:=fun x vs H Q=>∃(z:Str)(p:PY)(ts:List Str),x= .str z/\vs=[.ref p]/\aI K H p (ts.map V.str)/\JoinOk z ts=true/\Q (.str (Str.join z ts)) H
theorem iE(hK:X.K=K):As X "str.join" (rJoin K):=by
 subst hK;intro pins s σ H x vs v us Q I rx rv h;obtain⟨z,p,ts,rfl,rfl,hp,hj,q⟩:=h;obtain⟨t,rfl⟩:=rx;obtain⟨u,rfl,ru⟩:=rv.one;cases ru;obtain⟨its,r,pl,_⟩:=I.list hp;obtain⟨l,rfl,e⟩:=uT r;refine SC.join pl.isList e hj fun t' k=>⟨.str _,H,I.tok _,⟨t',rfl⟩,?_⟩;rw[show Txt.join z ts=Str.join z ts from StrLaws.glued_eq_join z ts];exact q
theorem Dy(x y:Str):(Qi.Str.partsBetween x (Qi.Str.occurrences x y 0 x.length (x.length+1)) y.length).length<=x.length+2:=by
 have h:=StrLaws.occ_length_le x y 0 x.length (x.length+1);unfold Qi.Str.partsBetween;rw[Pe,List.length_zip,Pl,Pe,Pg,List.length_singleton];lia
def J3:V->List V->Hp->VK->Prop:=fun x vs H Q=>∃(z y:Str),x= .str z/\vs=[.str y]/\(y.length==0)=false/\z.length<=1000000/\∀l,H l=none->Q (.ref l) (upd H l (.lst ((Txt.split z y).map V.str)))
theorem ck:As X "str.split" J3:=by
 intro pins s σ H x vs v us Q I rx rv h;obtain⟨z,y,rfl,rfl,hy,hz,q⟩:=h;obtain⟨t,rfl⟩:=rx;obtain⟨u,rfl,t',rfl⟩:=rv.one;have big:(10000000:Nat)<=P6:=by decide
 have one:1<=P6:=by decide
 have key:∀(l:List (Str×Tok))(tk:Nat),l.map (·.1)=Txt.split z y->l.length<=P6->EP X pins σ Q (.ref s.heap.objs.size) {s with toks:=tk,heap:=s.heap.push {cls:= .type "list",data:= .seq (strValues l).toArray}}:=fun l tk e hl=>by
  have v:=u7 l;rw[e]at v;have vl:=v.length;refine⟨.ref s.heap.objs.size,_,I.laid (o:= .lst ((Txt.split z y).map V.str)) (fun b o e=>Qd.get?_push_of_some _ e) (PK _) ⟨?_,strValues l,0,v,Qd.get?_push_size _ rfl⟩,rfl,q _ (I.aX.fresh (PK _))⟩;rw[vl];unfold strValues;rw[Pe];exact hl
 cases h1:(decide (z.length<y.length)||decide (Qi.Str.strKind z<Qi.Str.strKind y))with
 |true=>
  refine call_meets F.slot_str_split (typeIs_str _ _ _) F.entry_str_split (F.args_str_split_2 _ _) (meets_str_split_cannot_occur z y t t' h1) ?_;exact key [(z,t)] s.toks (by unfold Txt.split;rw[if_pos h1];rfl) one
 |false=>
  cases hf:(Qi.Str.occurrences z y 0 z.length (z.length+1)).isEmpty with
  |true=>
   refine call_meets F.slot_str_split (typeIs_str _ _ _) F.entry_str_split (F.args_str_split_2 _ _) (meets_str_split_not_found z y t t' h1 hy hf) ?_;exact key [(z,t)] s.toks (by unfold Txt.split;rw[if_neg (by rw[h1];exact PR),if_pos hf];rfl) one
  |false=>
   have LJ:=Dy z y;refine call_meets F.slot_str_split (typeIs_str _ _ _) F.entry_str_split (F.args_str_split_2 _ _) (meets_str_split_sep z y t t' h1 hy hf (by lia) (by lia)) ?_;have k:=key (numbered s.toks (Qi.Str.partsBetween z (Qi.Str.occurrences z y 0 z.length (z.length+1)) y.length)) (s.toks+(Qi.Str.partsBetween z (Qi.Str.occurrences z y 0 z.length (z.length+1)) y.length).length)
    ((numbered_texts _ _).trans (by unfold Txt.split;rw[if_neg (by rw[h1];exact PR),if_neg (by rw[hf];exact PR)])) (by
     have:=congrArg List.length (numbered_texts s.toks (Qi.Str.partsBetween z (Qi.Str.occurrences z y 0 z.length (z.length+1)) y.length));rw[Pe]at this;lia)
   rw[←strsFrom_eq]at k;exact k
def Jw:List V->Hp->VK->Prop:=fun xs H Q=>∃z n,xs=[.str z]/\PySem.intText? z=some n/\z.length<=640/\Q (.int n) H
theorem mF:bZ X (.type "int") Jw:=by
 intro pins s σ H xs us Q I r h;obtain⟨z,n,rfl,hn,hl,q⟩:=h;obtain⟨u,rfl,t,rfl⟩:=vals1 r;exact W.KIN.call_text hn hl ⟨.int n,H,I.tok _,⟨_,rfl⟩,q⟩
def N3(te:TE):TE:=fun σ H Q=>te σ H fun x H1=>∃i,x= .int i/\i.natAbs.log2<1920/\Q (.str (toString i)) H1
theorem Ek{e:Expr}{te:TE}{pos:Pos}(h:PE X e te):PE X (.FormattedValue e (-1) none pos) (N3 te):=by
 intro pins s σ H Q I q;refine wpAny_FormattedValue_plain (bf (h pins s σ H _ I q) fun v s1 ⟨x,H1,I1,r1,i,e1,hi,q1⟩=>?_);subst e1;obtain⟨t,rfl⟩:=r1;exact wpAny_formatField_int hi ⟨.str _,H1,I1.tok _,⟨_,rfl⟩,q1⟩
def N4(ta tb tc:TE):TE:=fun σ H Q=>ta σ H fun x H1=>∃p,x= .str p/\p.length<=1000000/\tb σ H1 fun y H2=>∃q,y= .str q/\q.length<=1000000/\tc σ H2 fun z H3=>∃r,z= .str r/\r.length<=1000000/\Q (.str (p++q++r)) H3
theorem Km{a b c:Expr}{ta tb tc:TE}{pos:Pos}(ha:PE X a ta)(hb:PE X b tb)(hc:PE X c tc):PE X (.JoinedStr [a,b,c] pos) (N4 ta tb tc):=by
 intro pins s σ H Q I h;have big:(10000000:Nat)<=P6:=by decide
 refine wpAny_JoinedStr ?_;refine bf (ha pins s σ H _ I h) fun v s1 ⟨x,H1,I1,r1,p,e1,hp,q1⟩=>?_;subst e1;obtain⟨t1,rfl⟩:=r1;refine⟨p,t1,rfl,by rw[Str.empty_append];lia,?_⟩;refine bf (hb pins s1 σ H1 _ I1 q1) fun v s2 ⟨x,H2,I2,r2,q,e2,hq,q2⟩=>?_;subst e2;obtain⟨t2,rfl⟩:=r2;refine⟨q,t2,rfl,by rw[Str.empty_append,Str.length_append];lia,?_⟩;refine bf (hc pins s2 σ H2 _ I2 q2) fun v s3 ⟨x,H3,I3,r3,r,e3,hr,q3⟩=>?_;subst e3;obtain⟨t3,rfl⟩:=r3;refine⟨r,t3,rfl,by rw[Str.empty_append,Str.length_append,Str.length_append];lia,?_,?_⟩
 .rw[Str.empty_append,Str.length_append,Str.length_append];lia
 .rw[Str.empty_append]
  exact⟨.str _,H3,I3.tok _,⟨_,rfl⟩,q3⟩
end
end L2
namespace Sw
open PySem L2
def OJ(e o:Int×Int):Int×Int:=(min (MC e.1 o) (MC e.2 o),max (MC e.1 o) (MC e.2 o))
def OR(s t:Int×Int)(f:Bool):List (Int×Int):=if f=true then [t,OJ s t]else [OJ t s,s]
def Nm(row:List (Int×Int))(i:Nat)(f:Bool):List (Int×Int):=row.take i++OR (row.getD i (0,0)) (row.getD (i+1) (0,0)) f++row.drop (i+2)
def qr(f:Bool):Str:=if f=true then Pd "forth"else Pd "back"
theorem Gs{f g:Bool}(h:qr f=qr g):f=g:=by
 cases f<;>cases g<;>first|rfl|exact absurd h (by decide)
def signs(x:Str):List Nat:=x.cps.toList
theorem bt{x y:Str}(h:signs x=signs y):x=y:=Str.ext' (Array.toList_inj.mp h)
theorem aT(x y:Str):signs (x++y)=signs x++signs y:=by
 show(x.cps++y.cps).toList=_;rw[Array.toList_append];rfl
theorem aS(x:Str):(signs x).length=x.length:=Array.length_toList
def glue(c:Nat):List (List Nat)->List Nat
 |[]=>[]
 |[x]=>x
 |x::y::r=>x++c::glue c (y::r)
theorem cG(c:Nat):∀ts:List Str,signs (Str.join ⟨#[c]⟩ ts)=glue c (ts.map signs)
 |[]=>rfl
 |[x]=>rfl
 |x::y::r=>by
  show signs (x++(⟨#[c]⟩:Str)++Str.join ⟨#[c]⟩ (y::r))=signs x++c::glue c ((y::r).map signs);rw[aT,aT,cG c (y::r),PF];rfl
theorem vF{c:Nat}:∀{p q r s:List Nat},c∉p->c∉q->p++c::r=q++c::s->p=q/\r=s
 |[],[],r,s,_,_,h=>by
  injection h with _ h
  exact⟨rfl,h⟩
 |[],b::q,r,s,_,hq,h=>by
  injection h with h _
  exact absurd Pt (h▸hq)
 |a::p,[],r,s,hp,_,h=>by
  injection h with h _
  exact absurd Pt (h▸hp)
 |a::p,b::q,r,s,hp,hq,h=>by
  injection h with h1 h2
  obtain⟨e1,e2⟩:=vF (fun z=>hp (Pu _ z)) (fun z=>hq (Pu _ z)) h2;exact⟨by rw[h1,e1],e2⟩
theorem xO{c:Nat}:∀{ps qs:List (List Nat)},ps≠[]->qs≠[]->(∀p∈ps,c∉p)->(∀q∈qs,c∉q)->glue c ps=glue c qs->ps=qs
 |[],_,h,_,_,_,_=>absurd rfl h
 |_,[],_,h,_,_,_=>absurd rfl h
 |[x],[y],_,_,_,_,h=>by rw[show x=y from h]
 |[x],y::z::r,_,_,h1,_,h=>by
  have h:x=y++c::glue c (z::r):=h;exact absurd (by rw[h];exact Px _ Pt) (h1 x Pt)
 |x::z::r,[y],_,_,_,h2,h=>by
  have h:x++c::glue c (z::r)=y:=h;exact absurd (by rw[←h];exact Px _ Pt) (h2 y Pt)
 |x::y::r,z::w::s,_,_,h1,h2,h=>by
  obtain⟨e1,e2⟩:=vF (h1 x Pt) (h2 z Pt) (show x++c::glue c (y::r)=z++c::glue c (w::s)from h);rw[e1,xO (by simp) (by simp) (fun p hp=>h1 p (Pu _ hp)) (fun p hp=>h2 p (Pu _ hp)) e2]
theorem dv(x y:Str):Txt.split x y≠[]:=by
 unfold Txt.split
 split
 .simp
 .split
  .simp
  .rw[StrLaws.partsBetween_eq]
   obtain⟨p,r,e⟩:=StrLaws.partsFrom_ne x y.length 0 (Qi.Str.occurrences x y 0 x.length (x.length+1));rw[e];simp
theorem iO:∀{a b:List Str},a.map signs=b.map signs->a=b
 |[],[],_=>rfl
 |[],_::_,h=>by simp at h
 |_::_,[],h=>by simp at h
 |x::a,y::b,h=>by
  rw[Pm,Pm]at h;injection h with h1 h2
  rw[bt h1,iO h2]
theorem cW{c:Nat}{ts:List Str}(ne:ts≠[])(free:∀p∈ts,c∉signs p):Txt.split (Str.join ⟨#[c]⟩ ts) ⟨#[c]⟩=ts:=by
 have e:=StrLaws.join_split (Str.join ⟨#[c]⟩ ts) ⟨#[c]⟩;have f:=StrLaws.split_free (Str.join ⟨#[c]⟩ ts) c;have e2:glue c ((Txt.split (Str.join ⟨#[c]⟩ ts) ⟨#[c]⟩).map signs)=glue c (ts.map signs):=by
  rw[←cG,←cG,e]
 refine iO (xO (by simpa using dv _ _) (by simpa using ne) ?_ ?_ e2)
 .intro p hp
  obtain⟨q,hq,rfl⟩:=List.mem_map.mp hp;exact f q hq
 .intro p hp
  obtain⟨q,hq,rfl⟩:=List.mem_map.mp hp;exact free q hq
def aF(i:Int):Str:=Pd (toString i)
theorem i6(m:Nat):signs (aF (m:Int))=(Nat.toDigits 10 m).map Char.toNat:=W.KIN.signs_num m
theorem dS{i:Int}(h:0<=i):∀c∈signs (aF i),48<=c/\c<=57:=by
 obtain⟨m,rfl⟩:=Int.eq_ofNat_of_zero_le h;intro c hc;rw[i6]at hc;obtain⟨ch,hch,e⟩:=List.mem_map.mp hc;rw[←e];exact PyProof.Rows.digit_range (Nat.isDigit_of_mem_toDigits (by decide) (by decide) hch)
theorem i8{i:Int}(h:0<=i){c:Nat}(hc:c<48\/57<c):c∉signs (aF i):=fun z=>by
 have:=dS h c z;lia
theorem vR{i:Int}(h:0<=i):0<(aF i).length:=by
 obtain⟨m,rfl⟩:=Int.eq_ofNat_of_zero_le h;rw[←aS,i6,Pe];exact PySem.toDigits_len_ge 10 m
theorem C6{i:Int}(h:0<=i):Txt.isascii (aF i)=true:=by
 unfold Txt.isascii;rw[Array.all_eq_true'];intro c hc;have:=dS h c (by simpa [signs]using hc);exact decide_eq_true (by lia)
theorem HK:∀c,48<=c->c<=57->Unicode.isDigit c=true:=by
 intro c h1 h2;have:c=48\/c=49\/c=50\/c=51\/c=52\/c=53\/c=54\/c=55\/c=56\/c=57:=by lia
 rcases this with rfl|rfl|rfl|rfl|rfl|rfl|rfl|rfl|rfl|rfl<;>decide+kernel
theorem yQ{i:Int}(h:0<=i):Txt.isdigit (aF i)=true:=by
 unfold Txt.isdigit;rw[Bool.and_eq_true];refine⟨decide_eq_true (vR h),?_⟩;rw[Array.all_eq_true'];intro c hc;have:=dS h c (by simpa [signs]using hc);exact HK c this.1 this.2
theorem eQ{i:Int}(h:0<=i)(h9:i<10^9):(aF i).length<=9:=PyProof.Rows.toString_length_le h (by decide) h9
theorem vB{i:Int}(h:0<=i)(h9:i<10^10):PySem.intText? (aF i)=some i:=W.KIN.num_reads h h9
theorem EZ(m:Nat)(hm:0<m):∃d r,(Nat.toDigits 10 m).map Char.toNat=d::r/\d≠48:=by
 induction m using Nat.strongRecOn with
 |_ m ih=>
  by_cases h:m<10
  .rw[Nat.toDigits_of_lt_base h]
   have:m=1\/m=2\/m=3\/m=4\/m=5\/m=6\/m=7\/m=8\/m=9:=by lia
   rcases this with rfl|rfl|rfl|rfl|rfl|rfl|rfl|rfl|rfl<;>exact⟨_,_,rfl,by decide⟩
  .have hm:m%10<10:=Nat.mod_lt m (by decide)
   have t:Nat.toDigits 10 (m/10)++Nat.toDigits 10 (m%10)=Nat.toDigits 10 (10*(m/10)+m%10):=Nat.toDigits_append_toDigits (by decide) (by lia) hm;rw[Nat.div_add_mod]at t;obtain⟨d,r,e,hd⟩:=ih (m/10) (by lia) (by lia);rw[←t,Pj,e];exact⟨d,_,rfl,hd⟩
theorem mR(x:Str)(c:Nat):Txt.startswith x ⟨#[c]⟩=true↔∃r,signs x=c::r:=by
 have h:=StrLaws.subAt_one x c 0;unfold Txt.startswith;rw[Bool.and_eq_true,decide_eq_true_eq];rw[h];show(signs x)[0]?=some c↔_
 cases e:signs x with
 |nil=>simp
 |cons a r=>simp[eq_comm]
theorem rD{i:Int}(h:0<i):Txt.startswith (aF i) ⟨#[48]⟩=false:=by
 rw[Bool.eq_false_iff];intro z;obtain⟨r,e⟩:=(mR _ _).mp z;obtain⟨m,rfl⟩:=Int.eq_ofNat_of_zero_le (Int.le_of_lt h);obtain⟨d,r',e',hd⟩:=EZ m (by lia);rw[i6,e']at e;injection e with e _
 exact hd e
def gA(e:Int×Int):Str:=aF e.1++Pd "-" ++aF e.2
def kf(row:List (Int×Int)):Str:=if row.length=0 then Pd "none"else Str.join (Pd " ") (row.map gA)
theorem yw(a b:Int):gA (a,b)=Str.join ⟨#[45]⟩ [aF a,aF b]:=rfl
theorem EJ{a b:Int}(ha:0<=a)(hb:0<=b):Txt.split (gA (a,b)) (Pd "-")=[aF a,aF b]:=by
 rw[yw];refine cW (c:=45) (by simp) fun p hp=>?_;rcases List.mem_cons.mp hp with rfl|hp
 .exact i8 ha (by lia)
 .rw[List.mem_singleton.mp hp]
  exact i8 hb (by lia)
theorem ex_free{a b:Int}(ha:0<=a)(hb:0<=b):∀c∈signs (gA (a,b)),c=45\/(48<=c/\c<=57):=by
 intro c hc;unfold gA at hc;rw[aT,aT]at hc;rcases List.mem_append.mp hc with hc|hc
 .rcases List.mem_append.mp hc with hc|hc
  .exact .inr (dS ha c hc)
  .left
   have:signs (Pd "-")=[45]:=by decide+kernel
   rw[this]at hc;exact List.mem_singleton.mp hc
 .exact .inr (dS hb c hc)
theorem jz{row:List (Int×Int)}(ne:row≠[])(h:∀e∈row,0<=e.1/\0<=e.2):Txt.split (kf row) (Pd " ")=row.map gA:=by
 unfold kf;rw[if_neg (by intro z;exact ne (List.length_eq_zero_iff.mp z))];refine cW (c:=32) (by simpa using ne) fun p hp=>?_;obtain⟨e,he,rfl⟩:=List.mem_map.mp hp;obtain⟨a,b⟩:=e;have:=h _ he;intro z;have:=ex_free this.1 this.2 32 z;lia
theorem lj{row:List (Int×Int)}(ne:row≠[])(h:∀e∈row,0<=e.1/\0<=e.2):kf row≠Pd "none" :=by
 intro z;have s:=jz ne h;rw[z]at s;have e1:Txt.split (Pd "none") (Pd " ")=[Pd "none"]:=by
  have:=cW (c:=32) (ts:=[Pd "none"]) (by simp) (by decide+kernel);exact this
 rw[e1]at s
 cases row with
 |nil=>exact ne rfl
 |cons e r=>
  rw[Pm]at s;injection s with s _
  have:=ex_free (h e Pt).1 (h e Pt).2 110 (by rw[←s];decide+kernel);lia
theorem qO{a b:Int}(ha:0<=a)(hb:0<=b)(ha9:a<10^9)(hb9:b<10^9):(gA (a,b)).length<=19:=by
 unfold gA;rw[Str.length_append,Str.length_append];have:=eQ ha ha9;have:=eQ hb hb9;show(aF a).length+(Pd "-").length+(aF b).length<=19;have:(Pd "-").length=1:=by decide+kernel
 lia
theorem cf{z:Str}{ts:List Str}{B:Nat}(hz:z.length<=10)(hB:∀y∈ts,y.length<=B)(hb:B<=10000)(h:ts.length<=100):JoinOk z ts=true:=by
 unfold JoinOk;rw[Bool.not_eq_true'];refine StrLaws.joinFits hB ?_;have h1:ts.length*B<=100*10000:=Nat.mul_le_mul h hb;have h2:ts.length*z.length<=100*10:=Nat.mul_le_mul h hz;lia
theorem yh{row:List (Int×Int)}(h60:row.length<=60)(h:∀e∈row,0<=e.1/\0<=e.2/\e.1<10^9/\e.2<10^9):(kf row).length<=2000:=by
 unfold kf
 split
 .decide+kernel
 .have h1:=StrLaws.join_length_le (Pd " ") (row.map gA)
  have h2:=StrLaws.sumLen_le (B:=19) (row.map gA) (fun y hy=>by
   obtain⟨⟨a,b⟩,he,rfl⟩:=List.mem_map.mp hy;obtain⟨a0,b0,a9,b9⟩:=h _ he;exact qO a0 b0 a9 b9)
  have h3:(Pd " ").length=1:=by decide+kernel
  rw[Pe]at h1 h2;rw[h3]at h1;lia
end Sw
namespace L2
open PySem PySem.Spec PyProof.Rows
theorem EN{K:W.Frag}{ix:List (Option Nat)}{g:TG}{te:TE}{σ:St}{Q:VK}{H:Hp}{a:PY}{xs:List V}(Pv:Nat->List V->St->Hp->Prop)(hn:xs.length<=1000000)(h0:Pv 0 [] (eN ix σ) H)
  (hl:∀i ys σ H,i<=xs.length->Pv i ys σ H->aI K H a xs) (hlen:∀i ys σ H,Pv i ys σ H->ys.length<=i)
  (hs:∀i ys σ H x(R:St->List V->Hp->Prop),xs[i]?=some x->Pv i ys σ H->(∀σ2 ys2 H5,Pv (i+1) ys2 σ2 H5->R σ2 ys2 H5)->g x σ H fun σ2 H3=>te σ2 H3 fun v H5=>R σ2 (ys++[v]) H5)
  (hd:∀ys σ' H' p,Pv xs.length ys σ' H'->H' p=none->Q (.ref p) (upd H' p (.lst ys))):jg ix g i7 te σ Q (Jc K a) H:=by
 refine iF Pv hn h0 (fun i ys σ H hi p=>⟨xs,xs[i],hl i ys σ H (Nat.le_of_lt hi) p,by simp[hi]⟩) (fun ys σ H p=>⟨xs,hl _ ys σ H (PK _) p,PK _⟩) hlen (fun i ys σ H x H2 R hi p y r=>?_) hd;obtain⟨rfl,y⟩:=y;unfold i7;simp only[if_true];exact hs i ys σ _ x R (y xs (hl i ys σ _ (Nat.le_of_lt hi) p)) p r
end L2
namespace Sw
open PySem L2
theorem c7{i:Int}(h0:0<=i)(h9:i<10^9):i.natAbs.log2<1920:=by
 by_cases hz:i.natAbs=0
 .rw[hz];decide
 .rw[Nat.log2_lt hz]
  have h1:i.natAbs<2^30:=by lia
  exact PL h1 (Nat.pow_le_pow_right (by decide) (by decide))
theorem jm.M8 {H:Hp}:∀{vs:List V}{r:List (Int×Int)},jm H vs r->oK H (fun _=>True) vs (r.map fun e=>PyData.tuple [.int e.1,.int e.2])
 |_,_,.nil=> .nil
 |_,_,.cons h x=> .cons (.tup h trivial (.cons (.int _) (.cons (.int _) .nil))) x.M8
theorem Al{n:Int}{row:List (Int×Int)}(hg:Good n row)(h60:row.length<=60):rj n (.list (row.map fun e=>PyData.tuple [.int e.1,.int e.2]))=true:=by
 unfold rj;rw[Bool.and_eq_true,Pe,List.all_map,List.all_eq_true];refine⟨decide_eq_true h60,fun e he=>?_⟩;have g:=hg e he;show((decide (1<=e.1/\e.1<=n)&&decide (1<=e.2/\e.2<=n))&&decide (e.1<e.2))=true;rw[decide_eq_true (by lia),decide_eq_true (by lia),decide_eq_true (by lia)];rfl
def Aw:Sp:=fun vs H Q _=>∃(i:Int),vs=[.str (aF i)]/\0<=i/\i<10^9/\Q (.int i) H
def Ai:Sp:=fun vs H Q _=>∃(x:Str),vs=[.str x]/\Q .cE H
structure Lw(mg:Str->Option PX)(K:W.Frag)(u:PX):Prop extends T1 mg K where
 di:mg "str" =none
 ig:mg "MOST_FIGURES" =some u
 ie:RelV (.int 9) u
section
variable{P:P0}{w:P4}{K:W.Frag}{mg:Str->Option PX}{base:Qd}{u:PX}
theorem kZ:aE ["word"] ["word"] (av (top 81)):=⟨rfl,rfl,rfl,by decide+kernel,rfl,by decide+kernel,by decide+kernel⟩
theorem Gj{f:PY}{fd:Qc}(F:dU K "read_number" "read_number" (top 81) f fd)(T:Lw mg K u):aQ P w K mg base i4 1 f fd ["word"] Aw:=by
 refine F.ok kZ (fun vs H Q E h=>?_) (fun cdv A outer s H vs Q E hr h=>?_)
 .obtain⟨i,rfl,_⟩:=h
  rfl
 .obtain⟨i,rfl,i0,i9,k⟩:=h
  refine⟨_,(ag (aN (PW.pt (fu (dm (dq (om (K:=K) rfl PySem.F.plainAttrs_str PySem.F.slot_str_isascii PySem.F.type_str_isascii sV (pv 0)))) (fu (dm (dq (om (K:=K) rfl PySem.F.plainAttrs_str PySem.F.slot_str_isdigit PySem.F.type_str_isdigit sk (pv 0)))) (dG (aw qo (ar cI rfl T.bX (by decide+kernel) (aa (pv 0) ae)) (de rfl T.ig T.ie) (aB _)))))) (ah nZ) ax)
   (ag (aN (PW.pt (pH (aw eC (pv 0) ak (aB _)) (lN (dq (aP (K:=K) rfl PySem.F.plainAttrs_str PySem.F.slot_str_startswith PySem.F.type_str_startswith uG (pv 0) (aa ak ae)))))) (ah nZ) ax)
   (ah (ay (aY mF rfl T.Bt (by decide+kernel) (aa (pv 0) ae)))))),?_⟩
  have big:(10000000:Nat)<=P6:=by decide
  have nl:=eQ i0 i9;refine⟨_,rfl,rfl,_,rfl,rfl,_,rfl,pB (by rw[C6 i0];rfl) ?_⟩;refine⟨_,rfl,rfl,_,rfl,rfl,_,rfl,pB (by rw[yQ i0];rfl) ?_⟩;refine⟨_,rfl,_,rfl,by lia,_,_,rfl,rfl,_,rfl,pB (decide_eq_false (by lia)) ?_⟩;refine⟨_,rfl,rfl,_,rfl,?_⟩;have fin:FU (NL Jw (qh (qw 0) wt)) {nx:=fun x H'=>Q V.cE H',rt:=Q} (L2.start [Pd "word"] [V.str (aF i)]) H:=⟨_,rfl,_,i,rfl,vB i0 (by lia),by lia,k⟩;by_cases hz:i=0
  .subst hz
   refine pB (by decide+kernel) ?_;exact fin
  .have nz:Txt.startswith (aF i) (Pd "0")=false:=rD (by lia)
   refine cg (fun _=>?_) (fun _=>?_)
   .exact⟨_,rfl,rfl,_,_,rfl,rfl,_,rfl,pB nz fin⟩
   .exact fin
theorem mJ:aE ["thing"] ["thing"] (av (top 80)):=⟨rfl,rfl,rfl,by decide+kernel,rfl,by decide+kernel,by decide+kernel⟩
theorem BQ{f:PY}{fd:Qc}(F:dU K "check_text" "check_text" (top 80) f fd)(T:Lw mg K u):aQ P w K mg base i4 1 f fd ["thing"] Ai:=by
 refine F.ok mJ (fun vs H Q E h=>?_) (fun cdv A outer s H vs Q E hr h=>?_)
 .obtain⟨x,rfl,_⟩:=h
  rfl
 .obtain⟨x,rfl,k⟩:=h
  refine⟨_,(ah (aN (dm (dq (ar (hV (K:=K) rfl) rfl T.aH (by decide+kernel) (aa (pv 0) (aa (jG (v:= .ty "str") rfl T.di (by decide+kernel) rfl) ae))))) (ah nZ) ax)),?_⟩;refine⟨_,rfl,_,_,"str",_,rfl,mQ.str x,EG _ _,true,rfl,Gy ?_⟩;exact k
def uF:Sp:=fun vs H Q _=>∃(l:PY)(es:List V)(row:List (Int×Int)),vs=[.ref l]/\H l=some (.lst es)/\jm H es row/\row.length<=60/\(∀e∈row,0<=e.1/\0<=e.2/\e.1<10^9/\e.2<10^9)/\∀H',ai H H'->Q (.str (kf row)) H'
theorem yM:aE ["row"] ["row"] (av (top 78)):=⟨rfl,rfl,rfl,by decide+kernel,rfl,by decide+kernel,by decide+kernel⟩
theorem Am{f:PY}{fd:Qc}(F:dU K "show_row" "show_row" (top 78) f fd)(T:Lw mg K u):aQ P w K mg base i4 1 f fd ["row"] uF:=by
 refine F.ok yM (fun vs H Q E h=>?_) (fun cdv A outer s H vs Q E hr h=>?_)
 .obtain⟨l,es,row,rfl,_⟩:=h
  rfl
 .obtain⟨l,es,row,rfl,hl,hx,h60,hs,k⟩:=h
  refine⟨_,(ag (aN (aw bR (ar (aZ (K:=K) rfl) rfl T.bX (by decide+kernel) (aa (pv 0) ae)) aj (aB _)) (ah (ay ak)) ax)
   (ah (ay (aP (K:=K) rfl PySem.F.plainAttrs_str PySem.F.slot_str_join PySem.F.type_str_join (iE (K:=K) rfl) ak (aa (bU (N:=(["a","b"]:List Str)) (ix:=([none,none]:List (Option Nat))) (aW rfl rfl) rfl (aV (K:=K) rfl (pv 0)) (fun _ _ _ _=>(gV (K:=K) (n:=2) rfl rfl (bD (aA (i:=0) (show List.Nodup (["a","b"]:List Str)from by decide+kernel) rfl (Or.inl rfl)) (bD (aA (i:=1) (show List.Nodup (["a","b"]:List Str)from by decide+kernel) rfl (Or.inl rfl)) gS)))) (fun _ _ _ _=>bq) (fun _ _ _ _=>(Km (Ek (pv 0)) ak (Ek (pv 1))))) ae))))),?_⟩
  have big:(10000000:Nat)<=P6:=by decide
  have el:=hx.length;refine⟨_,rfl,l,_,rfl,.inl (aI.of hl),rfl,_,rfl,?_⟩;by_cases hz:row=[]
  .subst hz
   exact FG (decide_eq_true (by rw[el];rfl)) (k H (ai.refl _))
  .have rl:0<row.length:=by
    cases row with
    |nil=>exact absurd rfl hz
    |cons _ _=>exact Nat.succ_pos _
   refine pB (decide_eq_false (by intro z;injection z with z;lia)) ?_;refine⟨rfl,_,rfl,l,rfl,⟨_,aI.of hl⟩,EN (K:=K) (a:=l) (xs:=es) (fun i ys σ' H'=>ys=((row.take i).map gA).map V.str/\(∃v0 v1,σ'=[v0,v1])/\H'=H) (by lia) ⟨rfl,⟨none,none,rfl⟩,rfl⟩ (fun i ys σ' H' _ q=>by rw[q.2.2];exact aI.of hl) (fun i ys σ' H' q=>by rw[q.1,Pe,Pe,Pn];lia) ?_ ?_⟩
   .rintro i ys σ' H' x R hx' ⟨rfl,⟨v0,v1,rfl⟩,rfl⟩ done
    obtain⟨t,a,b,rfl,ht,hr'⟩:=hx.get hx';obtain⟨a0,b0,a9,b9⟩:=hs (a,b) (Pr hr');dsimp only at a0 b0 a9 b9;have al:=eQ a0 a9;have bl:=eQ b0 b9;refine⟨t,_,rfl,gL.of ht,rfl,_,_,rfl,_,_,rfl,rfl,?_⟩;refine⟨_,rfl,a,rfl,c7 a0 a9,_,rfl,(by show(aF a).length<=1000000;lia),_,rfl,by decide+kernel,_,rfl,b,rfl,c7 b0 b9,_,rfl,(by show(aF b).length<=1000000;lia),?_⟩;refine done _ _ _ ⟨?_,⟨_,_,rfl⟩,rfl⟩;rw[aR gA hr',Pj];rfl
   .rintro ys σ' H' q ⟨rfl,⟨v0,v1,rfl⟩,e0⟩ fq
    have e0:=e0.symm;subst e0;rw[Pw (by lia)];refine⟨_,q,row.map gA,rfl,rfl,aI.of af,cf (B:=19) (by decide+kernel) (fun y hy=>?_) (by decide) (by rw[Pe];lia),?_⟩
    .obtain⟨⟨a,b⟩,he,rfl⟩:=List.mem_map.mp hy
     obtain⟨a0,b0,a9,b9⟩:=hs _ he;exact qO a0 b0 a9 b9
    .have kk:=k _ (ai.new (o:= .lst ((row.map gA).map V.str)) fq)
     unfold kf at kk;rw[if_neg (by lia)]at kk;exact kk
def uO:Sp:=fun vs H Q _=>∃(n:Int)(row:List (Int×Int)),vs=[.int n,.str (kf row)]/\Good n row/\n<10^9/\row.length<=60/\∀l es H',H l=none->H' l=some (.lst es)->jm H' es row->ai H H'->Q (.ref l) H'
structure Oy(P:P0)(w:P4)(K:W.Frag)(mg:Str->Option PX)(base:Qd):Prop extends T1 mg K where
 bY:FnAt P w K mg base "check_text" 1 ["thing"] Ai
 bu:FnAt P w K mg base "read_number" 1 ["word"] Aw
 kG:FnAt P w K mg base "is_row" 6 ["n","thing"] qU
theorem iB:aE ["n","text","row"] ["n","text"] (av (top 85)):=⟨rfl,rfl,rfl,by decide+kernel,rfl,by decide+kernel,by decide+kernel⟩
theorem An{f:PY}{fd:Qc}(F:dU K "read_row" "read_row" (top 85) f fd)(T:Oy P w K mg base):aQ P w K mg base i4 7 f fd ["n","text"] uO:=by
 refine F.ok iB (fun vs H Q E h=>?_) (fun cdv A outer s H vs Q E hr h=>?_)
 .obtain⟨n,row,rfl,_⟩:=h
  rfl
 .obtain⟨n,row,rfl,hg,n9,h60,k⟩:=h
  refine⟨_,(ag (cj (aq T.bY (hr.mono (by first|decide|lia)) rfl (aa (pv 1) ae)))
   (ag (aN (aw bR (pv 1) ak (aB _)) (ah (ay (bH ae))) ax)
   (ag (lZ (i:=2) iB.nd rfl rfl (N:=(["pair"]:List Str)) (ix:=([none]:List (Option Nat))) (aW rfl rfl) rfl (aV (K:=K) rfl (aP (K:=K) rfl PySem.F.plainAttrs_str PySem.F.slot_str_split PySem.F.type_str_split ck (pv 1) (aa ak ae))) (fun _ _ _ _=>(aA (i:=0) (show List.Nodup (["pair"]:List Str)from by decide+kernel) rfl (Or.inl rfl))) (fun _ _ _ _=>bq) (fun _ _ _ _=>(aY (cz (K:=K) rfl) rfl T.gT (by decide+kernel) (aa (bU (N:=(["word"]:List Str)) (ix:=([none]:List (Option Nat))) (aW rfl rfl) rfl (aV (K:=K) rfl (aP (K:=K) rfl PySem.F.plainAttrs_str PySem.F.slot_str_split PySem.F.type_str_split ck (pv 0) (aa ak ae))) (fun _ _ _ _=>(aA (i:=0) (show List.Nodup (["word"]:List Str)from by decide+kernel) rfl (Or.inl rfl))) (fun _ _ _ _=>bq) (fun _ _ _ _=>(aq T.bu (hr.mono (by first|decide|lia)) rfl (aa (pv 0) ae)))) ae))))
   (ag (aN (dm (dq (aq T.kG (hr.mono (by first|decide|lia)) rfl (aa (pv 0) (aa (pv 2) ae))))) (ah nZ) ax)
   (ah (ay (pv 2))))))),?_⟩
  have big:(10000000:Nat)<=P6:=by decide
  have hs:∀e∈row,0<=e.1/\0<=e.2:=fun e he=>by have:=hg e he;lia
  refine⟨_,rfl,_,rfl,?_⟩;refine⟨_,rfl,rfl,_,rfl,?_⟩;by_cases hz:row=[]
  .subst hz
   refine FG (by decide+kernel) ?_;exact⟨PQ _,fun l hl=>k l [] _ hl af .nil (ai.new hl)⟩
  .have ne:=lj hz hs
   refine pB (decide_eq_false (by intro z;injection z with z;exact ne z)) ?_;have rl:=yh h60 fun e he=>by have:=hg e he;lia
   refine⟨_,rfl,rfl,_,_,rfl,rfl,by decide+kernel,by lia,fun l1 f1=>⟨l1,rfl,⟨_,aI.of af⟩,?_⟩⟩;rw[jz hz hs];have s1:ai H (upd H l1 (.lst ((row.map gA).map V.str))):=ai.new f1;have h1:upd H l1 (.lst ((row.map gA).map V.str)) l1=some (.lst ((row.map gA).map V.str)):=af;generalize upd H l1 (.lst ((row.map gA).map V.str))=H1 at s1 h1⊢;have ll:((row.map gA).map V.str).length=row.length:=by rw[Pe,Pe]
   refine iC (K:=K) (a:=l1) (xs:=(row.map gA).map V.str) (k:=0) (fun i ys σ' H'=>(∃v0,σ'=[v0])/\ai H1 H'/\jm H' ys (row.take i)) (by lia) ⟨⟨none,rfl⟩,ai.refl _,.nil⟩ (fun i ys σ' H' _ q=>aI.of (q.2.1 _ _ h1)) (fun i ys σ' H' q=>by have:=q.2.2.length;rw[Pn]at this;lia) ?_ ?_
   .rintro i ys σ' H2 x R hx ⟨⟨v0,rfl⟩,s2,x2⟩ done
    obtain⟨⟨a,b⟩,hab,rfl⟩:∃e,row[i]?=some e/\V.str (gA e)=x:=by
     rw[Pf,Pf]at hx
     cases e:row[i]? with
     |none=>rw[e]at hx;cases hx
     |some e'=>rw[e]at hx;exact⟨e',rfl,PU hx⟩
    have g:=hg (a,b) (Pr hab);dsimp only at g;have el:=qO (a:=a) (b:=b) (by lia) (by lia) (by lia) (by lia);refine⟨_,rfl,rfl,_,_,rfl,rfl,by decide+kernel,by lia,fun l2 f2=>⟨l2,rfl,⟨_,aI.of af⟩,?_⟩⟩;rw[EJ (by lia) (by lia)];have s3:ai H2 (upd H2 l2 (.lst ([aF a,aF b].map V.str))):=ai.new f2;have h3:upd H2 l2 (.lst ([aF a,aF b].map V.str)) l2=some (.lst ([aF a,aF b].map V.str)):=af;generalize upd H2 l2 (.lst ([aF a,aF b].map V.str))=H3 at s3 h3⊢;refine iC (K:=K) (a:=l2) (xs:=[aF a,aF b].map V.str) (k:=0) (fun j ys' σ'' H'=>(∃v0,σ''=[v0])/\H'=H3/\ys'=([a,b].take j).map V.int) (by show 2<=1000000;decide) ⟨⟨none,rfl⟩,rfl,rfl⟩ (fun j ys' σ'' H' _ q=>by rw[q.2.1];exact aI.of h3) (fun j ys' σ'' H' q=>by rw[q.2.2,Pe,Pn];lia) ?_ ?_
    .rintro j ys' σ'' H' x' R' hx' ⟨⟨v0,rfl⟩,rfl,rfl⟩ done'
     obtain⟨z,hz',rfl⟩:∃z,[a,b][j]?=some z/\V.str (aF z)=x':=by
      match j,hx' with
      |0,h=>exact⟨a,rfl,PU h⟩
      |1,h=>exact⟨b,rfl,PU h⟩
      |j+2,h=>simp at h
     have zb:0<=z/\z<10^9:=by
      have:z∈[a,b]:=Pr hz';rcases List.mem_cons.mp this with rfl|this
      .lia
      .rw[List.mem_singleton.mp this];lia
     refine⟨_,rfl,z,rfl,zb.1,zb.2,done' _ _ _ ⟨⟨_,rfl⟩,rfl,?_⟩⟩;rw[aR V.int hz']
    .rintro ys' σ'' H' q ⟨⟨v0,rfl⟩,e0,rfl⟩ fq
     have e0:=e0.symm;subst e0;refine⟨q,_,rfl,.inl ⟨aI.of af,fun t ft=>?_⟩⟩;have s4:ai H3 (upd H3 q (.lst [V.int a,V.int b])):=ai.new fq;have s5:ai (upd H3 q (.lst [V.int a,V.int b])) (upd (upd H3 q (.lst [V.int a,V.int b])) t (.tup [V.int a,V.int b])):=ai.new ft;have s6:=s3.trans (s4.trans s5);refine done _ _ _ ⟨⟨_,rfl⟩,s2.trans s6,?_⟩;rw[PJ,hab];exact(x2.keep (ai.fD s6)).snoc af
   .rintro ys σ' H2 q ⟨⟨v0,rfl⟩,s2,x2⟩ fq
    rw[Pw (by lia)]at x2;have s3:ai H2 (upd H2 q (.lst ys)):=ai.new fq;have x3:=x2.keep (ai.fD s3);have s13:=s1.trans (s2.trans s3);have h3:upd H2 q (.lst ys) q=some (.lst ys):=af;have fq0:H q=none:=(s1.trans s2).free fq;generalize upd H2 q (.lst ys)=H3 at s3 x3 s13 h3⊢;refine⟨_,rfl,_,rfl,.ref q,(fun _=>True),.list (row.map fun e=>PyData.tuple [.int e.1,.int e.2]),n,rfl,.lst h3 trivial x3.M8,fun ds e=>?_,fun H4 s4=>⟨_,rfl,pB ?_ ?_⟩⟩
    .injection e with e
     rw[←e,Pe];lia
    .rw[Al hg h60];rfl
    .exact⟨_,rfl,k q ys H4 fq0 (s4 _ _ h3) (x3.keep (ai.fD s4)) (s13.trans s4)⟩
end
end Sw
namespace L2
open PySem PySem.Spec PyProof.Rows
section
variable{X:Cx}{K:W.Frag}
def N2:V->Option Int->Option Int->Hp->VK->Prop:=fun x lo hi H Q=>∃z,x= .str z/\z.length<=P6/\Q (.str (Txt.slice z lo hi)) H
theorem oM:Ny X N2:=by
 intro pins s σ H x v vl vu lo hi sl Q I rx hs pl pu h;obtain⟨z,rfl,hz,q⟩:=h;obtain⟨t,rfl⟩:=rx;refine⟨"str",_,F.slot_str_getitem.lookup,typeIs_str _ _ _,?_⟩;have fin:∀lo hi,Q (.str (Txt.slice z lo hi)) H->(Txt.slice z lo hi).length<=P6/\∀t' k,EP X pins σ Q (.str (Txt.slice z lo hi) t') {s with toks:=k}:=fun lo hi q=>⟨PN (Txt.slice_le z lo hi) hz,fun t' k=>⟨.str _,H,I.tok _,⟨_,rfl⟩,q⟩⟩
 cases pl with
 |none=>
  cases pu with
  |none=>exact wpAny_getItem_str_slice (l:=none) (u:=none) (st:=none) hs rfl (post_val_or_str (fin none none q))
  |int j uj=>exact wpAny_getItem_str_slice (l:=none) (u:=some (j,uj)) (st:=none) hs rfl (post_val_or_str (fin none (some j) q))
 |int i ui=>
  cases pu with
  |none=>exact wpAny_getItem_str_slice (l:=some (i,ui)) (u:=none) (st:=none) hs rfl (post_val_or_str (fin (some i) none q))
  |int j uj=>exact wpAny_getItem_str_slice (l:=some (i,ui)) (u:=some (j,uj)) (st:=none) hs rfl (post_val_or_str (fin (some i) (some j) q))
theorem kF{x:Str}(h:2<=x.length):Txt.slice x (some 1) (some (-1))=⟨((x.cps.toList.drop 1).take (x.length-2)).toArray⟩:=by
 show StrLaws.sliceText x (some 1) (some (-1))=_;rw[StrLaws.sliceText_neg_hi x (some 1) (by decide) (by lia)];have:=StrLaws.sliceText_nat x (a:=1) (b:=x.length-1) (by lia) (by lia);rw[show((-1:Int)+x.length)=((x.length-1:Nat):Int) by lia];rw[show x.length-1-1=x.length-2 by lia]at this;exact this
def N0(K:W.Frag):List V->Hp->VK->Prop:=fun xs H Q=>∃(p:PY)(ns:List Int),xs=[.ref p]/\aI K H p (ns.map V.int)/\Q (.int ns.sum) H
theorem Fe(hK:X.K=K)(hc:X.calm=true):bZ X (.builtin "sum") (N0 K):=by
 subst hK;intro pins s σ H xs us Q I r h;obtain⟨p,ns,rfl,hp,q⟩:=h;obtain⟨u,rfl,ru⟩:=vals1 r;cases ru;obtain⟨its,rv,pl,_⟩:=I.list hp;have hi:=rq rv;obtain⟨zs,hx⟩:=hi.allInts.items;have hl:s.heap.IsList p (intItems zs):=hx▸pl.isList;refine sum_intListG (I.ok.hd hc) hl fun h' tk t' hk=>?_;have e1:ns=zs.toList.map (·.1):=by
  rw[←nums_intItems,←hx];exact(show numsOf its.toArray.toList=ns from hi.numsOf).symm
 have e2:preSum (numAt zs) zs.size=ns.sum:=by
  rw[preSum_eq,Pw (by simp),e1]
 rw[e2];exact⟨.int _,H,I.kept hk,⟨_,rfl⟩,q⟩
end
end L2
namespace Sw
open PySem L2
def qz(r:List Int):Str:=Str.join (Pd " ") (r.map aF)
def Ll(r:List Int):Str:=Pd "(" ++qz r++Pd ")"
def mw(rs:List (List Int)):Str:=Str.join (Pd "") (rs.map Ll)
theorem hU:∀ts:List Str,signs (Str.join (Pd "") ts)=(ts.map signs).flatten
 |[]=>rfl
 |[x]=>by show signs x=(signs x::[]).flatten;simp
 |x::y::r=>by
  show signs (x++Pd "" ++Str.join (Pd "") (y::r))=(signs x::(y::r).map signs).flatten;rw[aT,aT,hU (y::r),List.flatten_cons];rw[show signs (Pd "")=[] by decide+kernel,PD]
def cF(c d:Nat):List (List Nat)->List Nat
 |[]=>[]
 |[x]=>x
 |x::y::r=>x++c::d::cF c d (y::r)
theorem cD(c d:Nat):∀ts:List Str,signs (Str.join ⟨#[c,d]⟩ ts)=cF c d (ts.map signs)
 |[]=>rfl
 |[x]=>rfl
 |x::y::r=>by
  show signs (x++(⟨#[c,d]⟩:Str)++Str.join ⟨#[c,d]⟩ (y::r))=signs x++c::d::cF c d ((y::r).map signs);rw[aT,aT,cD c d (y::r),PF];rfl
theorem vt{c d:Nat}:∀{ps qs:List (List Nat)},ps≠[]->qs≠[]->(∀p∈ps,c∉p)->(∀q∈qs,c∉q)->cF c d ps=cF c d qs->ps=qs
 |[],_,h,_,_,_,_=>absurd rfl h
 |_,[],_,h,_,_,_=>absurd rfl h
 |[x],[y],_,_,_,_,h=>by rw[show x=y from h]
 |[x],y::z::r,_,_,h1,_,h=>by
  have h:x=y++c::d::cF c d (z::r):=h;exact absurd (by rw[h];exact Px _ Pt) (h1 x Pt)
 |x::z::r,[y],_,_,_,h2,h=>by
  have h:x++c::d::cF c d (z::r)=y:=h;exact absurd (by rw[←h];exact Px _ Pt) (h2 y Pt)
 |x::y::r,z::w::s,_,_,h1,h2,h=>by
  obtain⟨e1,e2⟩:=vF (h1 x Pt) (h2 z Pt) (show x++c::(d::cF c d (y::r))=z++c::(d::cF c d (w::s))from h);injection e2 with _ e2
  rw[e1,vt (by simp) (by simp) (fun p hp=>h1 p (Pu _ hp)) (fun p hp=>h2 p (Pu _ hp)) e2]
theorem rG{c d:Nat}:∀{ts:List (List Nat)},(∀t∈ts,c∉t)->∀k,(cF c d ts)[k]?=some c->c≠d->(cF c d ts)[k+1]?=some d
 |[],_,k,h,_=>by simp[cF]at h
 |[x],hf,k,h,_=>absurd (Pr (show x[k]?=some c from h)) (hf x Pt)
 |x::y::r,hf,k,h,hcd=>by
  have h:(x++c::d::cF c d (y::r))[k]?=some c:=h;show(x++c::d::cF c d (y::r))[k+1]?=some d;by_cases h1:k<x.length
  .rw[List.getElem?_append_left h1]at h
   exact absurd (Pr h) (hf x Pt)
  .rw[List.getElem?_append_right (by lia)]at h⊢
   rcases Nat.lt_or_ge k (x.length+2)with h2|h2
   .rcases Nat.lt_or_ge k (x.length+1)with h3|h3
    .rw[show k+1-x.length=1 by lia];rfl
    .rw[show k-x.length=1 by lia]at h
     have h:some d=some c:=h;exact absurd (PU h).symm hcd
   .obtain⟨j,hj⟩:∃j,k-x.length=j+2:=⟨k-x.length-2,by lia⟩
    rw[hj]at h;rw[show k+1-x.length=(j+1)+2 by lia];exact rG (fun t ht=>hf t (Pu _ ht)) j h hcd
theorem uZ{x y:Str}{c a b:Nat}(hb:b<=x.length)(hf:∀k,(signs x)[k]?=some c->StrLaws.At x y x.length k)(hn:∀k,a<=k->k<b->¬StrLaws.At x y x.length k):c∉signs (Qi.Str.strSub x a b):=by
 intro hm;unfold signs at hm;rw[StrLaws.strSub_toList]at hm;obtain⟨j,hj⟩:=List.getElem?_of_mem hm;have hlt:j<b-a:=by
  have h1:=(List.getElem?_eq_some_iff.mp hj).1;rw[Pn]at h1;lia
 rw[List.getElem?_take_of_lt hlt,List.getElem?_drop]at hj;exact hn (a+j) (by lia) (by lia) (hf _ hj)
theorem rB{x y:Str}{c:Nat}(hf:∀k,(signs x)[k]?=some c->StrLaws.At x y x.length k):∀(cuts:List Nat)(a f:Nat),StrLaws.ChainG x y x.length a cuts f->(∀k,f<=k->¬StrLaws.At x y x.length k)->∀p∈StrLaws.partsFrom x y.length a cuts,c∉signs p
 |[],a,f,h,hn,p,hp=>by
  have e:f=a:=h;subst e;rw[List.mem_singleton.mp hp];exact uZ (PK _) hf fun k h1 _=>hn k h1
 |d::r,a,f,h,hn,p,hp=>by
  rcases List.mem_cons.mp hp with rfl|hp'
  .exact uZ (by have:=h.2.1.1;lia) hf h.2.2.1
  .exact rB hf r _ f h.2.2.2 hn p hp'
theorem AH{x y:Str}{c:Nat}(hw:1<=y.length)(hy:Qi.Str.strKind y=1)(hf:∀k,(signs x)[k]?=some c->StrLaws.At x y x.length k):∀p∈Txt.split x y,c∉signs p:=by
 obtain⟨f,hG,hn⟩:=StrLaws.occ_tight x y hw;have whole:(∀k,¬StrLaws.At x y x.length k)->c∉signs x:=fun h hm=>by
  obtain⟨j,hj⟩:=List.getElem?_of_mem hm;exact h j (hf j hj)
 unfold Txt.split
 split
 .rename_i hc
  intro p hp;rw[List.mem_singleton.mp hp];refine whole fun k hA=>?_;rw[Bool.or_eq_true,decide_eq_true_eq,decide_eq_true_eq]at hc;rcases hc with h|h
  .have:=hA.1;lia
  .rw[hy]at h
   unfold Qi.Str.strKind at h
   split at h
   .lia
   .split at h<;>lia
 .split
  .rename_i he
   intro p hp;rw[List.mem_singleton.mp hp];rw[List.isEmpty_iff.mp he]at hG;have e:f=0:=hG;exact whole fun k=>hn k (by lia)
  .rw[StrLaws.partsBetween_eq]
   exact rB hf _ 0 f hG hn
theorem nV{ts:List Str}(ne:ts≠[])(free:∀p∈ts,41∉signs p):Txt.split (Str.join ⟨#[41,40]⟩ ts) ⟨#[41,40]⟩=ts:=by
 have e:=StrLaws.join_split (Str.join ⟨#[41,40]⟩ ts) ⟨#[41,40]⟩;have fr:∀q∈ts.map signs,41∉q:=fun p hp=>by
  obtain⟨q,hq,rfl⟩:=List.mem_map.mp hp;exact free q hq
 have f:=AH (x:=Str.join ⟨#[41,40]⟩ ts) (y:=⟨#[41,40]⟩) (c:=41) (by decide) (by decide+kernel) fun k hk=>by
  rw[cD]at hk;have hk2:=rG fr k hk (by decide);rw[←cD]at hk hk2;have l2:=(List.getElem?_eq_some_iff.mp hk2).1;rw[aS]at l2;refine⟨by show k+2<=_;lia,?_⟩;rw[StrLaws.subAt_eq];show(((signs (Str.join ⟨#[41,40]⟩ ts)).drop k).take 2==[41,40])=true;have d1:(signs (Str.join ⟨#[41,40]⟩ ts)).drop k=41::(signs (Str.join ⟨#[41,40]⟩ ts)).drop (k+1):=by
   obtain⟨h1,h2⟩:=List.getElem?_eq_some_iff.mp hk;rw[List.drop_eq_getElem_cons h1,h2]
  have d2:(signs (Str.join ⟨#[41,40]⟩ ts)).drop (k+1)=40::(signs (Str.join ⟨#[41,40]⟩ ts)).drop (k+2):=by
   obtain⟨h1,h2⟩:=List.getElem?_eq_some_iff.mp hk2;rw[List.drop_eq_getElem_cons h1,h2]
  rw[d1,d2];rfl
 have e2:cF 41 40 ((Txt.split (Str.join ⟨#[41,40]⟩ ts) ⟨#[41,40]⟩).map signs)=cF 41 40 (ts.map signs):=by
  rw[←cD,←cD,e]
 refine iO (vt (by simpa using dv _ _) (by simpa using ne) ?_ fr e2);intro p hp;obtain⟨q,hq,rfl⟩:=List.mem_map.mp hp;exact f q hq
theorem oY:∀{ts:List (List Nat)},ts≠[]->(ts.map fun t=>40::(t++[41])).flatten=40::(cF 41 40 ts++[41])
 |[],h=>absurd rfl h
 |[x],_=>by simp[cF]
 |x::y::r,_=>by
  rw[Pm,List.flatten_cons,oY (ts:=y::r) (by simp)];show 40::(x++[41])++40::(cF 41 40 (y::r)++[41])=40::(x++41::40::cF 41 40 (y::r)++[41]);simp
theorem sP(r:List Int):signs (Ll r)=40::(signs (qz r)++[41]):=by
 unfold Ll;rw[aT,aT];rw[show signs (Pd "(")=[40] by decide+kernel,show signs (Pd ")")=[41] by decide+kernel];rfl
theorem CF{rs:List (List Int)}(h:rs≠[]):signs (mw rs)=40::(cF 41 40 ((rs.map qz).map signs)++[41]):=by
 unfold mw;rw[hU,Pp];rw[show(signs∘Ll)=(fun r=>40::(signs (qz r)++[41]))from funext sP];rw[←oY (by simpa using h),Pp,Pp];rfl
theorem DC{rs:List (List Int)}(h:rs≠[]):Txt.slice (mw rs) (some 1) (some (-1))=Str.join ⟨#[41,40]⟩ (rs.map qz):=by
 have e:=CF h;have l:(mw rs).length=(cF 41 40 ((rs.map qz).map signs)).length+2:=by rw[←aS,e];simp
 rw[kF (by lia)];apply bt;show(((signs (mw rs)).drop 1).take ((mw rs).length-2)).toArray.toList=_;rw[cD,e,l];simp
theorem vN{r:List Int}(h:∀x∈r,0<=x):∀c∈signs (qz r),c=32\/(48<=c/\c<=57):=by
 unfold qz;rw[show(Pd " ")=(⟨#[32]⟩:Str)from rfl,cG]
 induction r with
 |nil=>intro c hc;simp[glue]at hc
 |cons x r ih=>
  intro c hc
  cases r with
  |nil=>exact .inr (dS (h x Pt) c hc)
  |cons y r=>
   have hc:c∈signs (aF x)++32::glue 32 (((y::r).map aF).map signs):=hc;rcases List.mem_append.mp hc with hc|hc
   .exact .inr (dS (h x Pt) c hc)
   .rcases List.mem_cons.mp hc with rfl|hc
    .exact .inl rfl
    .exact ih (fun z hz=>h z (Pu _ hz)) c hc
theorem Dv{rs:List (List Int)}(h:rs≠[])(hp:∀r∈rs,∀x∈r,0<=x):Txt.split (Txt.slice (mw rs) (some 1) (some (-1))) (Pd ")(")=rs.map qz:=by
 rw[DC h];refine nV (by simpa using h) fun p hpm=>?_;obtain⟨r,hr,rfl⟩:=List.mem_map.mp hpm;intro z;have:=vN (hp r hr) 41 z;lia
theorem Ew{r:List Int}(h:r≠[])(hp:∀x∈r,0<=x):Txt.split (qz r) (Pd " ")=r.map aF:=by
 refine cW (c:=32) (by simpa using h) fun p hpm=>?_;obtain⟨x,hx,rfl⟩:=List.mem_map.mp hpm;exact i8 (hp x hx) (by lia)
theorem Bz{r:List Int}(hp:∀x∈r,0<=x/\x<10^9):(qz r).length<=r.length*10:=by
 have h1:=StrLaws.join_length_le (Pd " ") (r.map aF);have h2:=StrLaws.sumLen_le (B:=9) (r.map aF) (fun y hy=>by
  obtain⟨x,hx,rfl⟩:=List.mem_map.mp hy;exact eQ (hp x hx).1 (hp x hx).2)
 rw[Pe]at h1 h2;have h3:(Pd " ").length=1:=by decide+kernel
 rw[h3]at h1;unfold qz;lia
theorem zx{rs:List (List Int)}{r:List Int}(h:r∈rs):r.length<=rs.flatten.length:=by
 induction rs with
 |nil=>cases h
 |cons a rs ih=>
  rw[List.flatten_cons,Pg];rcases List.mem_cons.mp h with rfl|h
  .lia
  .have:=ih h;lia
theorem kB{rs:List (List Int)}(h:∀r∈rs,r≠[]):rs.length<=rs.flatten.length:=by
 induction rs with
 |nil=>exact PK _
 |cons a rs ih=>
  rw[List.flatten_cons,Pg,Pl];have:=ih fun r hr=>h r (Pu _ hr);have:=List.length_pos_iff.mpr (h a Pt);lia
theorem lX{n:Int}{xs:List Int}(o:Ord n xs):(bj n xs).flatten.length=n.toNat/\(∀r∈bj n xs,r≠[]/\r.length<=n.toNat/\∀x∈r,1<=x/\x<=n)/\(bj n xs).length<=n.toNat:=by
 have c:∀r∈bj n xs,r≠[]/\∀x∈r,1<=x/\x<=n:=fun r hr=>by
  obtain⟨c1,c2⟩:=BH o hr;refine⟨c1,fun x hx=>?_⟩;obtain⟨i,hi⟩:=List.getElem?_of_mem hx;obtain⟨a,b,_⟩:=c2 i x hi;exact⟨a,b⟩
 have fl:(bj n xs).flatten.length=n.toNat:=by
  have pm:(bj n xs).flatten.Perm (cZ 1 (n+1)):=by
   refine(List.perm_ext_iff_of_nodup (lQ o) (lO _ _)).mpr fun x=>?_;rw[c6];constructor
   .intro h
    obtain⟨r,hr,hx⟩:=List.mem_flatten.mp h;have:=(c r hr).2 x hx;lia
   .intro h
    exact vZ o (by lia) (by lia)
  rw[pm.length_eq,aO];congr 1;lia
 refine⟨fl,fun r hr=>⟨(c r hr).1,?_,(c r hr).2⟩,?_⟩
 .rw[←fl];exact zx hr
 .rw[←fl];exact kB fun r hr=>(c r hr).1
open PySem L2 PyProof.Rows
theorem zm:∀(n:Nat)(ds:List Nat),ds.length=n->ds≠[]->(∀c∈ds,48<=c/\c<=57)->(ds=[48]\/ds.head?≠some 48)->∃m:Nat,(Nat.toDigits 10 m).map Char.toNat=ds/\m<10^n/\(ds≠[48]->0<m):=by
 intro n
 induction n with
 |zero=>intro ds hl ne;exact absurd (List.length_eq_zero_iff.mp hl) ne
 |succ n ih=>
  intro ds hl ne hb hz;obtain⟨init,d,rfl⟩:∃init d,ds=init++[d]:=⟨ds.dropLast,ds.getLast ne,(List.dropLast_concat_getLast ne).symm⟩;have hd:=hb d (by simp);have one:∀c,48<=c->c<=57->(Nat.toDigits 10 (c-48)).map Char.toNat=[c]:=by
   intro c h1 h2;have:c=48\/c=49\/c=50\/c=51\/c=52\/c=53\/c=54\/c=55\/c=56\/c=57:=by lia
   rcases this with rfl|rfl|rfl|rfl|rfl|rfl|rfl|rfl|rfl|rfl<;>decide+kernel
  rw[Pg,List.length_singleton]at hl;have hl':init.length=n:=by lia
  by_cases hi:init=[]
  .subst hi
   have:n=0:=by simpa using hl'.symm
   subst this;refine⟨d-48,one d hd.1 hd.2,by lia,fun z=>?_⟩;have:d≠48:=fun q=>z (by rw[q];rfl);lia
  .have hz2:(init++[d]).head?≠some 48:=by
    rcases hz with z|z
    .exfalso
     have:=congrArg List.length z;rw[Pg,List.length_singleton,List.length_singleton]at this;exact hi (List.length_eq_zero_iff.mp (by lia))
    .exact z
   have hz2:init.head?≠some 48:=by
    cases init with
    |nil=>exact absurd rfl hi
    |cons a r=>exact hz2
   have ni:init≠[48]:=fun z=>hz2 (by rw[z];rfl);obtain⟨m,hm,ml,mp⟩:=ih init hl' hi (fun c hc=>hb c (Py _ hc)) (.inr hz2);have mp:=mp ni;have t:Nat.toDigits 10 m++Nat.toDigits 10 (d-48)=Nat.toDigits 10 (10*m+(d-48)):=Nat.toDigits_append_toDigits (by decide) mp (by lia);refine⟨10*m+(d-48),?_,by rw[Nat.pow_succ];lia,fun _=>by lia⟩;rw[←t,Pj,hm,one d hd.1 hd.2]
theorem Cw:∀c,c<128->Unicode.isDigit c=true->48<=c/\c<=57:=by decide+kernel
def j3(x:Str):Prop:=∃i:Int,x=aF i/\0<=i/\i<10^9
theorem Ec{x:Str}(ha:Txt.isascii x=true)(hd:Txt.isdigit x=true)(hl:x.length<=9)(hz:x=Pd "0"\/Txt.startswith x (Pd "0")=false):j3 x:=by
 unfold Txt.isdigit at hd;rw[Bool.and_eq_true]at hd;obtain⟨hp,hd⟩:=hd;have hp:0<x.length:=of_decide_eq_true hp;unfold Txt.isascii at ha;rw[Array.all_eq_true']at ha hd;have bd:∀c∈signs x,48<=c/\c<=57:=fun c hc=>by
  have hc':c∈x.cps:=by simpa [signs]using hc
  exact Cw c (of_decide_eq_true (ha c hc')) (hd c hc')
 have ne:signs x≠[]:=fun z=>by
  have:=aS x;rw[z]at this;simp at this;lia
 have hh:signs x=[48]\/(signs x).head?≠some 48:=by
  rcases hz with z|z
  .exact .inl (by rw[z];decide+kernel)
  .right
   intro q;have:Txt.startswith x ⟨#[48]⟩=true:=by
    rw[mR]
    cases e:signs x with
    |nil=>rw[e]at q;cases q
    |cons a r=>rw[e]at q;injection q with q;exact⟨r,by rw[q]⟩
   rw[show(⟨#[48]⟩:Str)=Pd "0"from by decide+kernel,z]at this;cases this
 obtain⟨m,hm,ml,_⟩:=zm (signs x).length (signs x) rfl ne bd hh;refine⟨(m:Int),bt (by rw[i6,hm]),by lia,?_⟩;rw[aS]at ml;have:10^x.length<=10^9:=Nat.pow_le_pow_right (by decide) hl;have:m<10^9:=PL ml this;lia
theorem gU{a b:Int}(ha:0<=a)(hb:0<=b)(ha9:a<10^10)(hb9:b<10^10)(h:aF a=aF b):a=b:=by
 have h1:=vB ha ha9;rw[h,vB hb hb9]at h1;injection h1 with h1
 exact h1.symm
theorem vG{x:Str}{ps:List (Int×Int)}(h:Txt.split x (Pd " ")=ps.map gA):x=kf ps:=by
 have e:=StrLaws.join_split x (Pd " ");have ne:=dv x (Pd " ");rw[h]at e ne;unfold kf;rw[if_neg (by intro z;rw[List.length_eq_zero_iff.mp z]at ne;exact ne rfl)];exact e.symm
theorem zy{x:Str}{a b:Int}(h:Txt.split x (Pd "-")=[aF a,aF b]):x=gA (a,b):=by
 have e:=StrLaws.join_split x (Pd "-");rw[h]at e;rw[yw];exact e.symm
theorem split_le(x y:Str):(Txt.split x y).length<=x.length+2:=by
 unfold Txt.split
 split
 .simp
 .split
  .simp
  .have h:=StrLaws.occ_length_le x y 0 x.length (x.length+1)
   unfold Qi.Str.partsBetween;rw[Pe,List.length_zip,Pl,Pe,Pg,List.length_singleton];lia
theorem vV{z:Str}:∀{ts:List Str}{t:Str},t∈ts->t.length<=(Str.join z ts).length:=by
 intro ts t h;have key:∀{ts:List Str},t∈ts->t.length<=(Str.join z ts).length:=by
  intro ts
  induction ts with
  |nil=>intro h;cases h
  |cons a r ih=>
   intro h
   cases r with
   |nil=>
    rcases List.mem_cons.mp h with rfl|h
    .exact PK _
    .cases h
   |cons b r=>
    have e:Str.join z (a::b::r)=a++z++Str.join z (b::r):=rfl;rw[e,Str.length_append,Str.length_append];rcases List.mem_cons.mp h with rfl|h
    .lia
    .have:=ih h;lia
 exact key h
theorem bO{x y t:Str}(h:t∈Txt.split x y):t.length<=x.length:=by
 have:=vV (z:=y) h;rwa [StrLaws.join_split]at this
theorem md(x:Str)(a b:Nat)(hb:b<=x.length):signs (Qi.Str.strSub x a b)=((signs x).drop a).take (b-a):=by
 unfold Qi.Str.strSub signs;rw[Array.toList_extract,List.extract_eq_take_drop]
theorem qI{x:Str}{c i:Nat}:StrLaws.At x ⟨#[c]⟩ x.length i↔(signs x)[i]?=some c:=by
 have h:=StrLaws.subAt_one x c i;unfold StrLaws.At;rw[h];exact Iff.rfl
theorem HJ{w:Str}{a b:Int}(ha:0<=a)(hb:0<=b)(h1:(Txt.partition w (Pd "-")).1=aF a)(h2:(Txt.partition w (Pd "-")).2.2=aF b):w=gA (a,b):=by
 have dash:Pd "-" =⟨#[45]⟩:=by decide+kernel
 rw[dash]at h1 h2;rcases partition_whole w ⟨#[45]⟩with⟨e,_⟩|⟨i,e,hat,_⟩
 .rw[e]at h2
  have:=vR hb;rw[←h2]at this;exact absurd this (Nat.lt_irrefl 0)
 .rw[e]at h1 h2
  have hi:=qI.mp hat;have il:=(List.getElem?_eq_some_iff.mp hi).1;have wl:=aS w;apply bt;unfold gA;rw[aT,aT,←h1,←h2,dash];dsimp only;rw[md w 0 i (by lia),md w _ w.length (PK _)];show signs w=(((signs w).drop 0).take (i-0)++[45])++((signs w).drop (i+1)).take (w.length-(i+1));rw[List.drop_zero,Nat.sub_zero,Pw (l:=(signs w).drop (i+1)) (by rw[List.length_drop];lia)];have e3:[45]++(signs w).drop (i+1)=(signs w).drop i:=by
   rw[List.drop_eq_getElem_cons il];have:=(List.getElem?_eq_some_iff.mp hi).2;rw[this];rfl
  rw[PF,e3,List.take_append_drop]
theorem vI{a b:Int}(ha:0<=a)(hb:0<=b):Txt.partition (gA (a,b)) (Pd "-")=(aF a,Pd "-",aF b):=by
 have dash:Pd "-" =⟨#[45]⟩:=by decide+kernel
 have se:signs (gA (a,b))=signs (aF a)++45::signs (aF b):=by
  unfold gA;rw[aT,aT,dash,PF];rfl
 have here:(signs (gA (a,b)))[(signs (aF a)).length]?=some 45:=by rw[se];simp
 have sl:=aS (gA (a,b));rw[dash];rcases partition_whole (gA (a,b)) ⟨#[45]⟩with⟨e,no⟩|⟨i,e,hat,no⟩
 .exact absurd (qI.mpr here) (no _)
 .have hi:=qI.mp hat
  have ii:i=(signs (aF a)).length:=by
   rcases Nat.lt_trichotomy i (signs (aF a)).length with c|c|c
   .exfalso
    rw[se,List.getElem?_append_left c]at hi;exact i8 ha (c:=45) (by lia) (Pr hi)
   .exact c
   .exact absurd (qI.mpr here) (no _ c)
  rw[e];refine Prod.ext (bt ?_) (Prod.ext rfl (bt ?_))
  .dsimp only
   rw[md _ 0 i (by rw[se]at sl;rw[Pg,Pl]at sl;lia),se,ii];simp
  .dsimp only
   rw[md _ _ _ (PK _),←sl,se,ii];have d:(signs (aF a)++45::signs (aF b)).drop ((signs (aF a)).length+1)=signs (aF b):=by
    rw[show signs (aF a)++45::signs (aF b)=(signs (aF a)++[45])++signs (aF b) by simp];exact List.drop_left' (by simp)
   show(List.drop ((signs (aF a)).length+1) _).take _=_;rw[d];refine Pw ?_;rw[Pg,Pl];show _<=_-((signs (aF a)).length+1);lia
end Sw
namespace L2
open PySem PySem.Spec PyProof.Rows
section
variable{P:P0}{w:P4}{K:W.Frag}{mg:Str->Option PX}{base:Qd}{k:Nat}{f:PY}{fd:Qc}{ps:List Str}{sp sp2:Sp}{CX:uJ}
theorem aQ.lift (F:aQ P w K mg base i4 k f fd ps sp):aQ P w K mg base (j4 P w) k f fd ps sp:=
 ⟨F.len,fun A outer s H args us vs Q E hr e0 b r h=>codeAny_mono (F.run A outer s H args us vs Q E hr e0 b r h) fun r s' z=>by
  cases r with
  |error e=>exact False.elim z
  |ok fl=>cases fl<;>exact z⟩
theorem aQ.or (F:aQ P w K mg base CX k f fd ps sp)(G:aQ P w K mg base CX k f fd ps sp2):aQ P w K mg base CX k f fd ps (fun vs H Q E=>sp vs H Q E\/sp2 vs H Q E):=
 ⟨fun vs H Q E h=>h.elim (F.len vs H Q E) (G.len vs H Q E),fun A outer s H args us vs Q E hr e0 b r h=>h.elim (fun h=>F.run A outer s H args us vs Q E hr e0 b r h) (fun h=>G.run A outer s H args us vs Q E hr e0 b r h)⟩
end
structure gk(P:P0)(w:P4)(fr:List Env)(ch:List PY)(H:Hp)(h:Qd)(e:PY)(cls a0 fl:PX)(B:Qd)(H':Hp)(h':Qd)(bb:Option PY):Prop where
 un:Un (fo fr) ch H H' h h'
 aX:ma P w H' h'
 kb:B.StaysIn h'
 en:B.get? e=none
 ff:h'.FunFrames B fr
 tr:h'.TracedAtW B e cls a0 fl
 old:∀b o o',h.get? b=some o->b∉ch->b∉fo fr->h'.get? b=some o'->B.get? b=some o'
 vX:∀b u o',H' b=some u->h'.get? b=some o'->B.get? b=some o'
 p7:∀b∈fo fr,H' b=none
 lo:iz h' e bb
section
variable{P:P0}{w:P4}{fr:List Env}{ch:List PY}{H H':Hp}{h h' h'':Qd}{e:PY}{cls a0 fl fl':PX}{B:Qd}{bb:Option PY}
theorem y9.O4 (F:y9 P w fr H h e cls a0 B H' h' bb):gk P w fr [] H h e cls a0 .none B H' h' bb:=
 ⟨F.un,F.aX,F.fl.1,F.fl.2.1,F.fl.2.2.1,F.fl.2.2.2,fun b o o' q _=>F.old b o o' q,F.vX,F.p7,F.lo⟩
theorem gk.back (F:gk P w fr [] H h e cls a0 .none B H' h' bb):y9 P w fr H h e cls a0 B H' h' bb:=
 ⟨F.un,F.aX,⟨F.kb,F.en,F.ff,F.tr⟩,fun b o o' q=>F.old b o o' q (by simp),F.vX,F.p7,F.lo⟩
theorem gk.move (F:gk P w fr ch H h e cls a0 fl B H' h' bb)(kb:B.StaysIn h'')(ff:h''.FunFrames B fr)(tr:h''.TracedAtW B e cls a0 fl')(sm:h'.UpToSlots h'')(lo:iz h'' e bb):gk P w fr ch H h e cls a0 fl' B H' h'' bb where
 un:=by
  refine⟨fun b o q n hb hx=>?_,fun b o q n hb hx=>?_,F.un.free,fun b o q hx=>?_,F.un.fD,F.un.jk,F.un.jI⟩
  .have e1:=F.un.keep b o q n hb hx
   exact kb b o (F.old b o o q hx hb e1)
  .obtain⟨sl,e1⟩:=F.un.slot b o q n hb hx
   obtain⟨_,o1,e2,nf⟩:=F.ff.mem hb;rw[e1]at e2;cases e2;obtain⟨sl',e3⟩:=sm b _ e1 nf;exact⟨sl',e3⟩
  .obtain⟨o1,e1⟩:=F.un.there b o q hx
   by_cases hb:b∈fo fr
   .obtain⟨_,o2,e2,nf⟩:=F.ff.mem hb
    rw[e1]at e2;cases e2;obtain⟨sl',e3⟩:=sm b _ e1 nf;exact⟨_,e3⟩
   .exact⟨o1,kb b o1 (F.old b o o1 q hx hb e1)⟩
 aX:=fun a o q=>(F.aX a o q).kg (fun b u hb z=>by
   rcases hb with rfl|hb
   .exact kb b u (F.vX b _ u q z)
   .exact kb b u (F.vX b _ u hb z)) (fun _ z=>z) fun _ _ z=>z
 kb:=kb
 en:=F.en
 ff:=ff
 tr:=tr
 old:=fun b o o' q hx hb z=>by
  obtain⟨o1,e1⟩:=F.un.there b o q hx;have e2:=F.old b o o1 q hx hb e1;have e3:=kb b o1 e2;rw[z]at e3;cases e3;exact e2
 vX:=fun b u o' q z=>by
  obtain⟨o1,e1⟩:=(F.aX b u q).here;have e2:=F.vX b u o1 q e1;have e3:=kb b o1 e2;rw[z]at e3;cases e3;exact e2
 p7:=F.p7
 lo:=lo
theorem gk.out {X:Cx}{pins:List (PY×Obj)}{σ:St}{s:PZ}(I:Inv X pins σ H s)(hch:∀b∈ch,b∈X.ex\/X.s₀.heap.objs.size<=b)(F:gk P w X.stack ch H s.heap e cls a0 fl B H' h' bb):gk P w X.outer X.ex X.H₀ X.s₀.heap e cls a0 fl B H' h' bb:=by
 have nch:∀b o,X.s₀.heap.get? b=some o->b∉X.ex->b∉ch:=fun b o q hx hc=>(hch b hc).elim hx fun z=>absurd (PL (Qd.lt_size q) z) (Nat.lt_irrefl _);have ns:∀b o,X.s₀.heap.get? b=some o->b∉fo X.outer->b∉fo X.stack:=fun b o q hb z=>by
  rcases List.mem_cons.mp (I.kC b z)with r|r
  .subst r
   exact absurd (PL (Qd.lt_size q) I.ok.above) (Nat.lt_irrefl _)
  .exact hb r
 have so:∀b∈fo X.outer,b∈fo X.stack:=fun b z=>by
  rcases I.ok.Dm with hst|⟨hst,_⟩
  .rw[hst];exact z
  .rw[hst]
   unfold fo at z⊢;rw[List.filterMap_cons]
   split
   .exact z
   .exact Pu _ z
 refine⟨⟨fun b o q n hb hx=>?_,fun b o q n hb hx=>?_,fun b o q n hx=>?_,fun b o q hx=>?_,fun b xs q=>F.un.fD b xs (I.base.fD b xs q),fun b o u q=>F.un.jk b o u (I.base.jk b o u q),fun b ps q=>?_⟩,F.aX,F.kb,F.en,?_,F.tr,fun b o o' q hx hb z=>?_,F.vX,fun b hb=>F.p7 b (so b hb),F.lo⟩
 .exact F.un.keep b o (I.base.keep b o q n hb hx) (I.base.free b o q n hx) (ns b o q hb) (nch b o q hx)
 .obtain⟨sl,e1⟩:=I.base.slot b o q n hb hx
  obtain⟨sl',e2⟩:=F.un.any e1 (I.base.free b o q n hx) (nch b o q hx);exact⟨sl',e2⟩
 .obtain⟨o1,e1⟩:=I.base.there b o q hx
  exact F.un.free b o1 e1 (I.base.free b o q n hx) (nch b o q hx)
 .obtain⟨o1,e1⟩:=I.base.there b o q hx
  exact F.un.there b o1 e1 (nch b o q hx)
 .obtain⟨m1,e1⟩:=I.base.jI b ps q
  obtain⟨m2,e2⟩:=F.un.jI b _ e1;exact⟨m1++m2,by rw[e2,Array.append_assoc]⟩
 .have f:=F.ff
  rcases I.ok.Dm with hst|⟨hst,_⟩
  .rw[hst]at f;exact f
  .rw[hst]at f;exact f.2.2
 .obtain⟨o1,e1⟩:=I.base.there b o q hx
  exact F.old b o1 o' e1 (nch b o q hx) (ns b o q hb) z
theorem qi{B':Qd}(k:∀b,B.get? b=none->B'.get? b=none):∀{l:List Env},h.FunFrames B l->h.FunFrames B' l
 |[],_=>trivial
 |env::l,x=>by
  obtain⟨hk,⟨L,o,hf,hn,ho,hd⟩,hr⟩:=x;exact⟨hk,⟨L,o,hf,k L hn,ho,hd⟩,qi k hr⟩
theorem rS{C:PY}(gt:∀b,b≠C->h''.get? b=h'.get? b):∀{l:List Env},C∉fo l->h'.FunFrames B l->h''.FunFrames B l
 |[],_,_=>trivial
 |env::l,nC,x=>by
  obtain⟨hk,⟨L,o,hf,hn,ho,hd⟩,hr⟩:=x;have nL:L≠C/\C∉fo l:=by
   unfold fo at nC⊢;rw[List.filterMap_cons,hf]at nC;exact⟨fun z=>nC (by rw[z];exact Pt),fun z=>nC (Pu _ z)⟩
  exact⟨hk,⟨L,o,hf,hn,(gt L nL.1).trans ho,hd⟩,rS gt nL.2 hr⟩
theorem gk.but {C:PY}(F:gk P w fr ch H h e cls a0 fl B H' h' bb)(hs:Qd.SameBut C h' h'')(hC:h.objs.size<=C)(hH:H' C=none)(nC:C∉fo fr)(oC:∃o,h'.get? C=some o/\∀vs,o.data≠.fields vs):gk P w fr ch H h e cls a0 fl (W.hideAll B [C]) H' h'' bb:=by
 have ne:∀b o,h.get? b=some o->b≠C:=fun b o q z=>by subst z;exact absurd (PL (Qd.lt_size q) hC) (Nat.lt_irrefl _)
 have nt:∀b u,H' b=some u->b≠C:=fun b u q z=>by rw[z,hH]at q;cases q
 have nn:∀b,B.get? b=none->(W.hideAll B [C]).get? b=none:=fun b z=>by
  cases q:(W.hideAll B [C]).get? b with
  |none=>rfl
  |some o=>rw[W.of_hideAll _ q]at z;cases z
 have nf:∀b o,(∃vs,o.data= .fields vs)->h'.get? b=some o->b≠C:=fun b o ⟨vs,hv⟩ q z=>by
  obtain⟨o',h1,h2⟩:=oC;rw[z,h1]at q;cases q;exact h2 vs hv
 have gt:∀b,b≠C->h''.get? b=h'.get? b:=hs.2;refine⟨⟨fun b o q n hb hx=>?_,fun b o q n hb hx=>?_,F.un.free,fun b o q hx=>?_,F.un.fD,F.un.jk,F.un.jI⟩,fun a o q=>(F.aX a o q).kg (fun b u hb z=>?_) (fun _ z=>z) fun _ _ z=>z,fun b o q=>?_,nn e F.en,?_,?_,fun b o o' q hx hb z=>?_,fun b u o' q z=>?_,F.p7,?_⟩
 .rw[gt b (ne b o q)];exact F.un.keep b o q n hb hx
 .rw[gt b (ne b o q)];exact F.un.slot b o q n hb hx
 .rw[gt b (ne b o q)];exact F.un.there b o q hx
 .have:b≠C:=by
   rcases hb with rfl|hb
   .exact nt b _ q
   .exact nt b _ hb
  rw[gt b this];exact z
 .have hb:b≠C:=fun z=>by rw[z,W.hideAll_none [C] (List.mem_singleton.mpr rfl)]at q;cases q
  rw[gt b hb];exact F.kb b o (W.of_hideAll _ q)
 .have f1:=rS gt nC F.ff
  exact qi nn f1
 .obtain⟨oe,ws,T,oT,ts,g1,g2,g4,g5,g6,g7,g8,g9,g10⟩:=F.tr
  exact⟨oe,ws,T,oT,ts,(gt e (nf e oe ⟨_,g4⟩ g1)).trans g1,g2,g4,g5,nn T g6,g7,(gt T (nf T oT ⟨_,g9⟩ g8)).trans g8,g9,g10⟩
 .rw[gt b (ne b o q)]at z
  exact W.hideAll_get _ (F.old b o o' q hx hb z) fun hm=>ne b o q (List.mem_singleton.mp hm)
 .rw[gt b (nt b u q)]at z
  exact W.hideAll_get _ (F.vX b u o' q z) fun hm=>nt b u q (List.mem_singleton.mp hm)
 .obtain⟨o,vs,cc,h1,h2,h3,hcb⟩:=F.lo
  exact⟨o,vs,cc,(gt e (nf e o ⟨_,h2⟩ h1)).trans h1,h2,h3,hcb⟩
end
section
variable{M:Model}{A:P5}{E:PX->PZ->Prop}{s:PZ}{P:P0}{w:P4}{env:Env}{outer:List Env}{L:PY}{fr:List Env}{ch:List PY}{H H':Hp}{h:Qd}{e:PY}{cls a0 fl:PX}{B:Qd}{bb:Option PY}
theorem vO{o:Option PY}{Q:Unit->PZ->Prop}(F:gk P w fr ch H h e cls a0 fl B H' s.heap bb)
  (k:∀h',gk P w fr ch H h e cls a0 (o.elim PX.none fun f=>rawInt f) B H' h' bb->s.heap.UpToSlots h'->Q () {s with heap:=h'}):Qf M A (setFlight (.ref e) o) Q E s:=by
 obtain⟨oo,vs,cc,h1,h2,h3,hcb⟩:=F.lo;obtain⟨oe,ws,T,oT,ts,g1,g2,g4,g5,g6,g7,g8,g9,g10⟩:=F.tr;rw[h1]at g1;cases g1;rw[h2]at g4;cases g4;have sz:3<ts.size:=(Array.getElem?_eq_some_iff.mp g10).1;have oth:∀b,b≠T->(s.heap.update T (Obj.mapFields (·.setIfInBounds 3 (o.elim PX.none fun f=>rawInt f)))).get? b=s.heap.get? b:=fun b hb=>Qd.get?_update_other _ _ (Ne.symm hb);have noT:∀b u,s.heap.get? b=some u->(∀ws,u.data≠.fields ws)->b≠T:=fun b u hb hnf q=>by
  rw[q,g8]at hb;cases hb;exact hnf ts g9
 have e':=(oth e (Ne.symm g7)).trans h1;have sm:s.heap.UpToSlots (s.heap.update T (Obj.mapFields (·.setIfInBounds 3 (o.elim PX.none fun f=>rawInt f)))):=fun b u hb hnf=>⟨u.slots,(oth b (noT b u hb hnf)).trans hb⟩;unfold setFlight;refine P8 (wpAny_field h1 h2 g5 ?_);rw[if_pos (by simp)];refine wpAny_setField g8 g9 sz (k _ (F.move (fun b u hb=>(oth b fun q=>by rw[q,g6]at hb;cases hb).trans (F.kb b u hb)) (F.ff.of_keeps fun b u hb hnf=>⟨u,(oth b (noT b u hb hnf)).trans hb,rfl⟩) ?_ sm ⟨oo,vs,cc,e',h2,h3,hcb⟩) sm);exact⟨oo,vs,T,_,_,e',g2,h2,g5,g6,g7,Qd.get?_update_self _ g8 (Obj.isFreed_of_fields (Obj.data_mapFields g9 _)),Obj.data_mapFields g9 _,by simp[sz]⟩
theorem yE{Q:Unit->PZ->Prop}(fr:A.frames=some (env::outer))(ef:env.frame=some L)(F:gk P w (env::outer) ch H h e cls a0 fl B H' s.heap bb)
  (k:∀h' fl',gk P w (env::outer) ch H h e cls a0 fl' B H' h' bb->s.heap.UpToSlots h'->Q () {s with heap:=h'}):Qf M A (noteFrame (.ref e) env) Q E s:=by
 obtain⟨oo,vs,cc,h1,h2,h3,hcb⟩:=F.lo;obtain⟨oe,ws,T,oT,ts,g1,⟨g2,g3⟩,g4,g5,g6,g7,g8,g9,g10⟩:=F.tr;rw[h1]at g1;cases g1;rw[h2]at g4;cases g4;subst g2;unfold noteFrame;simp only[ef];refine P8 (wpAny_field h1 h2 g5 ?_);rw[if_pos (by simp)];refine P8 (wpAny_field g8 g9 g10 ?_);by_cases c:(fl==rawInt L)=true
 .rw[if_pos c]
  exact P9 (k s.heap fl F (Qd.UpToSlots.refl _))
 rw[if_neg c];refine P8 (wpAny_setField g8 g9 (Array.getElem?_eq_some_iff.mp g10).1 ?_);have oth:∀b,b≠T->(s.heap.update T (Obj.mapFields (·.setIfInBounds 3 PX.none))).get? b=s.heap.get? b:=fun b hb=>Qd.get?_update_other _ _ (Ne.symm hb);have noT:∀b u,s.heap.get? b=some u->(∀ws,u.data≠.fields ws)->b≠T:=fun b u hb hnf q=>by
  rw[q,g8]at hb;cases hb;exact hnf ts g9
 refine jy fr (F.ff.of_keeps fun b u hb hnf=>⟨u,(oth b (noT b u hb hnf)).trans hb,rfl⟩) ef ((oth e (Ne.symm g7)).trans h1) (fun b u hb=>(oth b fun q=>by rw[q,g6]at hb;cases hb).trans (F.kb b u hb)) F.en h2 g3 h3 hcb fun h' ⟨x1,x2,x3,x4⟩ l'=>?_;have sm:s.heap.UpToSlots h':=fun b u hb hnf=>x4 b u ((oth b (noT b u hb hnf)).trans hb) hnf;exact k h' _ (F.move x1 x2 x3 sm l') sm
theorem Fd{α:Type}{what:String}{cenv:Env}{Q:α->PZ->Prop}(F:gk P w fr ch H h e cls a0 fl B H' s.heap bb)
  (k:∀h' fl',gk P w fr ch H h e cls a0 fl' B H' h' bb->E (.ref e) {s with heap:=h'}):Qf M A (PySem.passOn what (.ref e) cenv:Sem α) Q E s:=by
 obtain⟨oo,vs,cc,h1,h2,h3,hcb⟩:=id F.lo;obtain⟨oe,ws,T,oT,ts,g1,g2,g4,g5,g6,g7,g8,g9,g10⟩:=id F.tr;rw[h1]at g1;cases g1;rw[h2]at g4;cases g4;unfold PySem.passOn;refine P8 (wpAny_field h1 h2 g5 ?_);rw[if_neg (by simp)];refine P8 (vO F fun h' F' _=>?_);exact wpAny_throw (k h' _ F')
end
def iD(X:Cx)(E:XK):Prop:=∀(pins:List (PY×Obj))(σ:St)(H:Hp)(s:PZ)(ch:List PY)(e:PY)(cls a0 fl:PX)(B:Qd)(H':Hp)(bb:Option PY)(s':PZ),Inv X pins σ H s->(∀b∈ch,(b∈X.ex\/X.s₀.heap.objs.size<=b)/\b≠X.env.locals)->
 s'.os=s.os->AllBare s'.gens->gk X.prog X.w X.stack ch H s.heap e cls a0 fl B H' s'.heap bb->E cls bb H'->X.xe (.ref e) s'
theorem iD.passes {X:Cx}{E:XK}(p:iD X E):Passes (j4 X.prog X.w) X E:=fun pins σ H s ev s' I h=>by
 obtain⟨e,cls,a0,B,H',bb,rfl,os,bare,F,q⟩:=h;exact p pins σ H s [] e cls a0 _ B H' bb s' I (fun b hb=>nomatch hb) os bare F.O4 q
section
variable{P:P0}{w:P4}{K:W.Frag}{mg:Str->Option PX}{base:Qd}{N:List Str}{qual:Str}{scope:Scope}{f:PY}{cdv:PX}{A:P5}{outer:List Env}{s:PZ}{H:Hp}{E:XK}
theorem oX:iD (zZ P w K mg base N qual scope f cdv A outer s H E) E:=by
 intro pins σ H₁ s₁ ch e cls a0 fl B H' bb s' I hch os bare F q;show Qf _ _ (leaving _ (.ref e)) _ _ s';unfold leaving;refine P8 (yE I.ok.frames rfl F fun g fl' F1 _=>?_);refine vO (s:={s' with heap:=g}) F1 fun h'' F2 _=>?_;exact⟨e,cls,a0,B,H',bb,rfl,os.trans I.os,bare,(gk.out I (fun b hb=>(hch b hb).1) F2).back,q⟩
end
def xV(X:Cx):Prop:=∃(mx:Env)(outer0:List Env)(L:PY),X.stack=mx::outer0/\mx.frame=some L/\X.env.frame=some L
theorem tf{P:P0}{w:P4}{K:W.Frag}{mg:Str->Option PX}{base:Qd}{N:List Str}{qual:Str}{scope:Scope}{f:PY}{cdv:PX}{A:P5}{outer:List Env}{s:PZ}{H:Hp}{E:XK}:xV (zZ P w K mg base N qual scope f cdv A outer s H E):=⟨_,_,_,rfl,rfl,rfl⟩
def oJ(E:XK)(X:Cx)(N:List Str)(scope:Scope)(C:PY)(fp:List PY)(s:PZ)(H:Hp):Cx:=
 {qV X N scope C fp s H with xe:=fun ev s'=>∃(e:PY)(cls a0 fl:PX)(B:Qd)(H':Hp)(bb:Option PY),ev= .ref e/\s'.os=s.os/\AllBare s'.gens/\gk X.prog X.w X.stack fp H s.heap e cls a0 fl B H' s'.heap bb/\(∃m,s'.heap.Ns C m)/\H' C=none/\C∉fo X.stack/\E cls bb H'}
section
variable{E:XK}{X:Cx}{N:List Str}{scope:Scope}{C:PY}{fp:List PY}{s:PZ}{H:Hp}
theorem pq:iD (oJ E X N scope C fp s H) E:=by
 intro pins σ H3 s3 ch e cls a0 fl B H' bb s' I hch os bare F q;obtain⟨m,hn,_⟩:=id I.loc;have nC:C∉fo X.stack:=fun z=>by
  obtain⟨_,o,ho,_⟩:=I.ok.jc.mem z;exact absurd (PL (Qd.lt_size ho) I.ok.above) (Nat.lt_irrefl _)
 have nch:C∉ch:=fun z=>(hch C z).2 rfl;obtain⟨o,es,ep,ho,r⟩:=hn;have hC':=F.un.keep C o ho I.free nC nch;exact⟨e,cls,a0,fl,B,H',bb,rfl,os.trans I.os,bare,gk.out I (fun b hb=>(hch b hb).1) F,⟨m,o,es,ep,hC',r⟩,F.un.free C o ho I.free nch,nC,q⟩
theorem Mq(t:xV X):xV (oJ E X N scope C fp s H):=by
 obtain⟨mx,outer0,L,h1,h2,h3⟩:=t;exact⟨mx,outer0,L,h1,h2,h3⟩
theorem NQ{pins:List (PY×Obj)}{σ:St}{H1:Hp}{s1:PZ}(I:Inv (qV X N scope C fp s H) pins σ H1 s1):Inv (oJ E X N scope C fp s H) pins σ H1 s1:=
 ⟨⟨I.ok.mod,I.ok.kind,I.ok.glob,I.ok.blt,I.ok.above,I.ok.inj,I.ok.has,I.ok.DZ,I.ok.hd,I.ok.frames,I.ok.Dm,I.ok.HZ,I.ok.bs,I.ok.z8,I.ok.qx,I.ok.rN,I.ok.jc,I.ok.p7⟩,I.os,I.bare,I.base,I.loc,I.cell,I.free,I.dZ,I.pin,I.aX,I.len⟩
theorem N7{pins:List (PY×Obj)}{σ:St}{H1:Hp}{s1:PZ}(I:Inv (oJ E X N scope C fp s H) pins σ H1 s1):Inv (qV X N scope C fp s H) pins σ H1 s1:=
 ⟨⟨I.ok.mod,I.ok.kind,I.ok.glob,I.ok.blt,I.ok.above,I.ok.inj,I.ok.has,I.ok.DZ,I.ok.hd,I.ok.frames,I.ok.Dm,I.ok.HZ,I.ok.bs,I.ok.z8,I.ok.qx,I.ok.rN,I.ok.jc,I.ok.p7⟩,I.os,I.bare,I.base,I.loc,I.cell,I.free,I.dZ,I.pin,I.aX,I.len⟩
end
section
variable{prog:P0}{w:P4}{A:P5}{R:Result->PZ->Prop}{s:PZ}
theorem uc{elt target iter:Expr}{ifs:List Expr}{scope:Scope}{pos:Pos}{it acc:PX}{env:Env}(EE:PX->PZ->Prop)(hE:∀x s',EE x s'->notedBy (model prog w) A env (fun e s'=>R (.error e) s') x s')(I:Nat->PZ->Prop)
  (turn:∀n s,I n s->Qf (model prog w) A (pyNext it) (fun r s₁=>match r with
   |none=>R (.ok .next) s₁
   |some v=>Qf (model prog w) A (letOwnedTupleGo target it v) (fun _ s₁=>Qf (model prog w) A (assign target env v) (fun _ s₂=>
     Qf (model prog w) A (forIn ifs true fun c r=>if r=true then do let ok←isTrue c env (eval c env);pure (ForInStep.yield ok)else pure (ForInStep.yield r)) (fun ok s₃=>
      if ok=true then Qf (model prog w) A (eval elt env) (fun x s₄=>
       Qf (model prog w) A (call (.builtin "list.append") [acc,x]) (fun _ s₅=>∃m,m<n/\I m s₅) EE s₄) EE s₃
      else∃m,m<n/\I m s₃) EE s₂) EE s₁) EE s₁) EE s)
  (n:Nat) (h:I n s):
  codeAny (model prog w) A (.compLoop (.ListComp elt [⟨target,iter,ifs,0⟩] scope pos) 0 it acc env) R s:=by
 refine codeAny_loop rfl I (fun n s hI=>?_) n h;show Qf _ A ((compTurn (.ListComp elt [⟨target,iter,ifs,0⟩] scope pos) 0 it acc env).onRaise (fun x=>do noteFrame x env;theTreesLotGoes x)) _ _ s;refine wpAny_noted ?_;rw[compTurn_list];refine P8 (wpAny_standAt (P8 (Qa (turn n s hI) (fun r s₁ h₁=>?_) fun x s' h'=>hE x s' h')))
 cases r with
 |none=>exact P9 h₁
 |some v=>
  refine P8 (Qa h₁ (fun _ s₁ h₁=>?_) fun x s' h'=>hE x s' h');refine P8 (Qa h₁ (fun _ s₂ h₂=>P8 (Qa h₂ (fun ok s₃ h₃=>?_) fun x s' h'=>hE x s' h')) fun x s' h'=>hE x s' h')
  cases ok with
  |false=>exact P9 ⟨rfl,h₃⟩
  |true=>
   refine P8 (P8 (Qa h₃ (fun x s₄ h₄=>P8 (Qa h₄ (fun _ s₅ h₅=>?_) fun x s' h'=>hE x s' h')) fun x s' h'=>hE x s' h'));exact P9 (P9 ⟨rfl,h₅⟩)
end
section
variable{X:Cx}{scope:Scope}{N:List Str}{ix:List (Option Nat)}{elt tg iter:Expr}{ifs:List Expr}{g:TG}{tc:TT}{te:TE}{pos:Pos}
theorem qd{pins:List (PY×Obj)}{σ:St}{s2:PZ}{Q:VK}{itv:PX}{RR:PX->PY->Result->PZ->Prop}{E:PX->PZ->Prop}(c:fw X scope N ix)(hc:X.calm=true){EX:XK}
  (hg:∀C fp s H,PG (oJ EX X N scope C fp s H) tg g) (ht:∀C fp s H,IU (oJ EX X N scope C fp s H) ifs tc) (he:∀C fp s H,PE (oJ EX X N scope C fp s H) elt te)
  (h2:Nl X pins σ tg (jg ix g tc te σ Q) itv s2)
  (hX:∀(D C:PY)(fp:List PY)(H2:Hp)(x:PX)(s':PZ),Inv X pins σ H2 s2->(∀b∈fp,kj X pins H2 b)->s2.heap.objs.size<=C->(oJ EX X N scope C fp s2 H2).xe x s'->notedBy (model X.prog X.w) X.A (oJ EX X N scope C fp s2 H2).env (fun e s'=>RR (.ref D) C (.error e) s') x s')
  (hR:∀(D C:PY)(s':PZ)(H':Hp)(m:Str->Option PX),Inv X pins σ H' s'->s'.heap.Ns C m->H' C=none->X.s₀.heap.objs.size<=C->(∀p∈X.pn++pins,p.1≠C)->C≠X.env.locals->(∀x c,X.env.cells.lookup x=some c->c≠C)->Q (.ref D) H'->RR (.ref D) C (.ok .next) s'):
  Qf (model X.prog X.w) X.A (newList []) (fun acc s₃=>Qf (model X.prog X.w) X.A (newFunctionEnv scope X.env.globals (eu X.env.cells scope.names []) [] X.env.qual none .none (some X.env)) (fun cenv s₄=>
   codeAny (model X.prog X.w) X.A (.compStart (.ListComp elt [⟨tg,iter,ifs,0⟩] scope pos) 0 itv acc {cenv with scope:=relabel scope X.env}) (RR acc cenv.locals) s₄) E s₃) E s2:=by
 obtain⟨it,fp,tn,J,H2,rfl,I2,T,st2,f2,W,⟨m0,w0⟩,turn⟩:=h2;refine wpAny_newObj_type (wpAny_newFunctionEnv c.w4 (by intro y hy;simp at hy) (fun h₁ hns₁ hsb₁=>?_) c.kind);dsimp only at hns₁ hsb₁⊢;generalize hH2:s2.heap.push {cls:= .type "list",dict:=none,data:= .seq ([]:List PX).toArray}=G2 at hns₁ hsb₁⊢;have hCs:G2.objs.size=s2.heap.objs.size+1:=by rw[←hH2,Qd.size_push]
 generalize hCe:G2.objs.size=C at hns₁ hsb₁ hCs⊢;generalize hDe:s2.heap.objs.size=D at hCs⊢;have ltC:∀b,@LT.lt Nat _ b D->b≠C:=fun b hb=>PM (by rw[hCs];exact Nat.lt_succ_of_lt hb);have ltS:∀b o,s2.heap.get? b=some o->@LT.lt Nat _ b D:=fun b o e=>by rw[←hDe];exact Qd.lt_size e
 have hDC:D≠C:=PM (by rw[hCs];exact Nat.lt_succ_self _);have old:∀b o,s2.heap.get? b=some o->h₁.get? b=some o:=fun b o e=>hsb₁.extBut b o (ltC b (ltS b o e)) (Qd.get?_push_of_some _ (hH2▸Qd.get?_push_of_some _ e));have hoD:h₁.get? D=some {cls:= .type "list",dict:=none,data:= .seq ([]:List PX).toArray}:=by
  refine hsb₁.extBut _ _ hDC (Qd.get?_push_of_some _ ?_);rw[←hH2,←hDe];exact Qd.get?_push_size _ rfl
 have I4:Inv (oJ EX X N scope C fp s2 H2) (pins++[(D,{cls:= .type "list",data:= .seq ([]:List PX).toArray})]) (eN ix σ) H2 {s2 with heap:=h₁,toks:=s2.toks+([]:List (Str×PX)).length}:=
  NQ<|c.enter I2 f2 (T.obj _ _ st2) (by rw[hCs,hDe]) hDe.symm old hns₁ hoD fun v z=>by cases z
 have st4:tn 0 h₁:=T.keep _ _ _ st2 fun b _ o e=>old b o e;have pinD:∀p∈X.pn++pins,p.1≠D:=fun p hp=>PM (ltS _ _ (I2.pin p hp).1);have pinC:∀p∈X.pn++pins,p.1≠C:=fun p hp=>ltC _ (ltS _ _ (I2.pin p hp).1);have celD:∀x d,X.env.cells.lookup x=some d->@LT.lt Nat _ d D:=fun x d e=>by
  obtain⟨v,o,ho,_⟩:=I2.cell x d e;exact ltS d o ho
 have fpD:∀b∈fp,@LT.lt Nat _ b D:=fun b hb=>by
  obtain⟨o,e,_⟩:=T.obj _ _ st2 b hb;exact ltS b o e
 have sub:∀x d,(eu X.env.cells scope.names []).lookup x=some d->X.env.cells.lookup x=some d:=fun x d e=>by
  rcases df e with z|z
  .simp at z
  .exact z
 have stat:∀{H':Hp}{oD:Obj},(∀b∈fp,H' b=none)->∀b∈fp,kj (oJ EX X N scope C fp s2 H2) (pins++[(D,oD)]) H' b:=fun{H' oD} hn b hb=>by
  obtain⟨f0,f1,f2,f3,f4,f5⟩:=f2 b hb;refine⟨hn b hb,ltC b (fpD b hb),fun z=>?_,.inl hb,fun x d e=>f4 x d (sub x d e),fun p hp=>?_⟩
  .rcases List.mem_cons.mp (I2.kC b z)with e|e
   .exact f1 e
   .exact f2 e
  .have hp:p∈X.pn++(pins++[(D,oD)]):=hp
   rw[←PF]at hp;rcases List.mem_append.mp hp with z|z
   .exact f5 p z
   .have e:p=(D,oD):=by simpa using z
    subst e;exact Nat.ne_of_gt (fpD b hb)
 have loop:∀s3:PZ,s3={s2 with heap:=h₁,toks:=s2.toks+([]:List (Str×PX)).length}->
   codeAny (model X.prog X.w) X.A (.compLoop (.ListComp elt [⟨tg,iter,ifs,0⟩] scope pos) 0 (.ref it) (.ref D) (oJ EX X N scope C fp s2 H2).env) (RR (.ref D) C) s3:=by
  rintro s3 rfl;refine uc (oJ EX X N scope C fp s2 H2).xe (fun x s' h'=>hX D C fp H2 x s' I2 f2 (by rw[hDe,hCs];exact Nat.le_succ _) h') (fun n s'=>∃i σ' H' ys its k,Inv (oJ EX X N scope C fp s2 H2) (pins++[(D,{cls:= .type "list",data:= .seq (List.toArray its) k})]) σ' H' s'/\tn i s'.heap/\(∀b∈fp,H' b=none)/\Vals ys its/\W i n ys σ' H') ?_ m0
   ⟨0,_,H2,[],[],_,I4,st4,fun b hb=>(f2 b hb).1,.nil,w0⟩
  rintro n s3 ⟨i,σ3,H3,ys,its,k,I3,st3,fr3,rv,w3⟩;rcases turn i n ys σ3 H3 w3 with⟨stop,hz,qn⟩|⟨go,hz,step⟩
  .refine bf (T.done (oJ EX X N scope C fp s2 H2) rfl rfl rfl hc i _ s3 σ3 H3 _ I3 (stat fr3) st3 stop) fun r s4 ⟨hr,I4⟩=>?_
   subst hr;have hDn:H3 D=none:=(I3.pin (D,_) (Px _ (Px _ Pt))).2.1;obtain⟨m4,hn4,_⟩:=id I4.loc;refine hR D C s4 _ m4 (c.leave I2 f2 (by rw[hCs,hDe]) hDe.symm (N7 I4) rv hz) hn4 ?_ ?_ pinC ?_ (fun x d e=>ltC d (celD x d e)) (qn D hDn)
   .rw[ao hDC.symm];exact I4.free
   .refine PN I2.sz ?_
    rw[hDe,hCs];exact Nat.le_succ _
   .refine Nat.ne_of_gt (PL I2.lt ?_)
    rw[hDe,hCs];exact Nat.le_succ _
  .refine bf (T.item (oJ EX X N scope C fp s2 H2) rfl rfl rfl hc i _ s3 σ3 H3 _ I3 (stat fr3) st3 go) fun r s4 ⟨u,hr,h4⟩=>?_
   subst hr;refine bf h4 fun _ s5 ⟨x,H5,I5,r5,y5,st5,fr5⟩=>?_;have I5':=I5.pinned (stat fr5) (T.obj _ _ st5);refine bf (hg C fp s2 H2 _ s5 σ3 H5 x u _ I5' r5 (step x H5 y5)) fun _ s6 ⟨σ6,H6,I6,q6⟩=>?_;refine bf (ht C fp s2 H2 _ s6 σ6 H6 _ I6 q6) fun ok s7 ⟨H7,I7,q7⟩=>?_;have keep:∀{s':PZ}{σ':St}{H':Hp},Inv (oJ EX X N scope C fp s2 H2) ((pins++[(D,{cls:= .type "list",data:= .seq its.toArray k})])++o8 fp s5.heap) σ' H' s'->tn (i+1) s'.heap/\∀b∈fp,H' b=none:=fun{s' σ' H'} I'=>by
    refine⟨T.keep _ _ _ st5 fun b hb o e=>(I'.pin (b,o) (Px _ (Px _ (fC hb e)))).1,fun b hb=>?_⟩;obtain⟨o,e,d⟩:=T.obj _ _ st5 b hb;exact(I'.pin (b,o) (Px _ (Px _ (fC hb e)))).2.1
   cases ok with
   |false=>
    rw[if_neg PR];rw[if_neg PR]at q7;obtain⟨m',hm,w7⟩:=q7;obtain⟨k1,k2⟩:=keep I7;exact⟨m',hm,i+1,σ6,H7,ys,its,k,I7.eB,k1,k2,rv,w7⟩
   |true=>
    rw[if_pos rfl];rw[if_pos rfl]at q7;refine bf (he C fp s2 H2 _ s7 σ6 H7 _ I7 q7) fun y s8 ⟨v,H8,I8,r8,m',hm,w8⟩=>?_;obtain⟨k1,k2⟩:=keep I8;have pD:=I8.pin (D,_) (Px _ (Py _ (Px _ Pt)));have I8u:=I8.eB;have I8v:Inv (oJ EX X N scope C fp s2 H2) pins σ6 H8 s8:=I8u.eB;have len:=rv.length;refine wpAny_list_append_plain (items:=its.toArray) (hsz:=by simp;lia) ⟨k,pD.1⟩ fun h9 hl9 hs9=>?_;obtain⟨k9,e9⟩:=hl9;have I9:Inv (oJ EX X N scope C fp s2 H2) pins σ6 H8 {s8 with heap:=h9}:=by
     refine I8v.turned (t':=s8.toks) (it:=D) (fun b o hb e=>hs9.extBut b o hb e) pD.2.1 hDC (.inr ?_) (fun x d e=>PM (celD x d (sub x d e))) fun p hp=>?_
     .show s2.heap.objs.size<=D
      rw[hDe];exact PK _
     .exact pinD p hp
    have e9':h9.get? D=some {cls:= .type "list",data:= .seq (its++[y]).toArray k9}:=by
     rw[e9];simp
    refine⟨m',hm,i+1,σ6,H8,ys++[v],its++[y],k9,I9.qT fun p hp=>?_,T.keep _ _ _ k1 fun b hb o e=>hs9.extBut b o (PM (fpD b hb)) e,k2,rv.append (.cons r8 .nil),w8⟩;rcases List.mem_append.mp hp with z|z
    .exact I9.pin p (Px _ z)
    .have e:p=(D,{cls:= .type "list",data:= .seq (its++[y]).toArray k9}):=by simpa using z
     subst e;exact⟨e9',pD.2.1,pD.2.2.1,pD.2.2.2.1,fun v z=>by cases z⟩
 exact codeAny_compStart_list (loop _ rfl) (T.self _ 0 _ _ _ st4 (loop _ rfl))
theorem rL{e:PX}{env env':Env}(h:env'.frame=env.frame):noteFrame e env'=noteFrame e env:=by
 unfold noteFrame PySem.frameOf;rw[h]
theorem yY{pins:List (PY×Obj)}{σ:St}{s2:PZ}{EX:XK}{use:Option (PX->Sem Unit)}{QQ:PX->PZ->Prop}(tp:xV X)(pc:iD X EX)(D C:PY)(fp:List PY)(H2:Hp)(x:PX)(s':PZ)(I2:Inv X pins σ H2 s2)(f2:∀b∈fp,kj X pins H2 b)(hC:s2.heap.objs.size<=C)
  (h:(oJ EX X N scope C fp s2 H2).xe x s'):notedBy (model X.prog X.w) X.A (oJ EX X N scope C fp s2 H2).env (fun e s'=>compPost (model X.prog X.w) X.A X.xe use QQ (.ref D) C (.error e) s') x s':=by
 obtain⟨mx,outer0,L,h1,h2,h3⟩:=tp;obtain⟨e,cls,a0,fl,B,H',bb,rfl,os,bare,F,⟨m,hn⟩,hH,nC,q⟩:=h;unfold notedBy;rw[rL (env:=mx) (env':=(oJ EX X N scope C fp s2 H2).env) (show X.env.frame=mx.frame from h3.trans h2.symm)];have fr:=I2.ok.frames;rw[h1]at fr;have F':=F;rw[h1]at F';refine yE fr h2 F' fun h' fl' F1 sm=>?_;have hn':=sm.ns hn;refine⟨m,hn',fun h3 hs cenv hcl=>?_⟩;obtain⟨o,es,ep,ho,hd,_⟩:=hn';rw[←h1]at F1;have F3:=F1.but hs hC hH nC ⟨o,ho,fun vs z=>by rw[hd]at z;cases z⟩;refine Fd (s:={s' with heap:=h3}) F3 fun h4 fl4 F4=>?_;exact pc pins σ H2 s2 fp e cls a0 fl4 _ H' bb {s' with heap:=h4} I2 (fun b hb=>⟨(f2 b hb).2.2.2.1,(f2 b hb).2.1⟩) os bare F4 q
variable{wi:TI}
theorem yX{EX:XK}(tp:xV X)(pc:iD X EX)(c:fw X scope N ix)(hc:X.calm=true)(hi:PI X tg iter wi)(hg:∀C fp s H,PG (oJ EX X N scope C fp s H) tg g)(ht:∀C fp s H,IU (oJ EX X N scope C fp s H) ifs tc)(he:∀C fp s H,PE (oJ EX X N scope C fp s H) elt te)
  (hs:∀x,foldedSetIterable iter X.env x=pure x:=by intro _;rfl):PE X (.ListComp elt [⟨tg,iter,ifs,0⟩] scope pos) (yB ix wi g tc te):=by
 intro pins s σ H Q I h;rw[eval_ListComp];have hcl:∀y∈scope.names,y.2=Qh.free->∃d,X.env.cells.lookup y.1=some d:=fun y hy e=>I.ok.has _ (c.fr y hy e);refine wpAny_comprehension_free (use:=none) rfl hs (fW hcl) c.kind c.names (bf (hi pins s σ H _ I h) fun v s1 h1=>bf h1 fun itv s2 h2=>?_);refine qd (RR:=fun acc C=>compPost (model X.prog X.w) X.A X.xe none (EP X pins σ Q) acc C) c hc hg ht he h2 (fun D C fp H2 x s' I2 f2 hC h'=>yY tp pc D C fp H2 x s' I2 f2 hC h') ?_;intro D C s' H' m I' hn hC hz hp hL hcells q;exact⟨m,hn,fun h' hs'=>⟨.ref D,H',I'.turned (t':=s'.toks) (fun b o hb e=>hs'.extBut b o hb e) hC hL (.inr hz) hcells hp,rfl,q⟩⟩
theorem nR{EX:XK}{i:Nat}{x:Str}{px spos:Pos}(tp:xV X)(pc:iD X EX)(hN:X.N.Nodup)(hx0:X.N[i]?=some x)(hx:X.env.scope.names.lookup x=some .local)(c:fw X scope N ix)(hc:X.calm=true)(hi:PI X tg iter wi)(hg:∀C fp s H,PG (oJ EX X N scope C fp s H) tg g)(ht:∀C fp s H,IU (oJ EX X N scope C fp s H) ifs tc)(he:∀C fp s H,PE (oJ EX X N scope C fp s H) elt te)
  (hsw:swapsWith (.ListComp elt [⟨tg,iter,ifs,0⟩] scope pos) (some (.Name x px)) spos.line X.env=pure true:=by rfl)
  (hs:∀x,foldedSetIterable iter X.env x=pure x:=by intro _;rfl):PS X (.Assign [.Name x px] (.ListComp elt [⟨tg,iter,ifs,0⟩] scope pos) spos) (Ae (yB ix wi g tc te) (cT i)):=by
 intro pins s σ H D0 I h;rw[exec_Assign_Name_used _ _ _ _ hsw];refine P8 (wpAny_standAt (P8 ?_));show Qf _ _ (do let _←comprehension (.ListComp elt [⟨tg,iter,ifs,0⟩] scope pos) scope X.env _ (newList []) false (eval iter X.env) (some (assign (.Name x px) X.env))) _ _ s;have hcl:∀y∈scope.names,y.2=Qh.free->∃d,X.env.cells.lookup y.1=some d:=fun y hy e=>I.ok.has _ (c.fr y hy e);refine P8 (Qa (wpAny_comprehension_free (use:=some (assign (.Name x px) X.env)) (Q:=fun _ s'=>SP X pins D0 .next s') rfl hs (fW hcl) c.kind c.names
  (bf (hi pins s σ H _ I h) fun v s1 h1=>bf h1 fun itv s2 h2=>?_)) (fun _ s' hq=>P9 (P9 hq)) fun _ _ e=>e)
 refine qd (RR:=fun acc C=>compPost (model X.prog X.w) X.A X.xe (some (assign (.Name x px) X.env)) (fun _ s'=>SP X pins D0 .next s') acc C) c hc hg ht he h2 (fun D C fp H2 x s' I2 f2 hC h'=>yY tp pc D C fp H2 x s' I2 f2 hC h') ?_;intro D C s' H' m I' hn hC hz hp hL hcells q;show Qf _ _ (assign (.Name x px) X.env (.ref D)) _ _ _;refine wpAny_assign_Name (oO (v:= .ref D) I' hN hx0 (.inl hx) rfl (fun s'' I'' hsb=>?_) (.inr hx));obtain⟨a,sb,ha⟩:=hsb;have haC:a≠C:=by
  rcases ha with e|e
  .rw[e];exact hL.symm
  .exact hcells x a e
 refine⟨m,hn.sameBut sb haC.symm,fun h' hs'=>⟨_,H',I''.turned (t':=s''.toks) (fun b o hb e=>hs'.extBut b o hb e) hC hL (.inr hz) hcells hp,q⟩⟩
end
end L2
namespace Sw
open PySem L2
def NZ:PyData->Bool
 | .str _=>true
 |_=>false
theorem Eg(K:W.Frag){H:Hp}{P:PY->Prop}{v:V}{d:PyData}(h:DT H P v d):W.kitOne K (.type (Lz d)) (.type "str")=some (NZ d):=by
 cases h with
 |cE=>exact aM K (show dF "NoneType" "str" =some false by decide+kernel)
 |bl b=>exact aM K (show dF "bool" "str" =some false by decide+kernel)
 |int i=>exact aM K (show dF "int" "str" =some false by decide+kernel)
 |str x=>exact aM K (show dF "str" "str" =some true by decide+kernel)
 |lst h p r=>exact aM K (show dF "list" "str" =some false by decide+kernel)
 |tup h p r=>exact aM K (show dF "tuple" "str" =some false by decide+kernel)
def E4(C:PY):Sp:=fun vs H Q E=>∃(x:Str),vs=[.str x]/\x.length<=100000/\¬j3 x/\E (.ref C) none H
def EV(C:PY):Sp:=fun vs H Q E=>∃(v:V)(P:PY->Prop)(d:PyData),vs=[v]/\DT H P v d/\(∀x,d≠.str x)/\E (.ref C) none H
structure Ej(mg:Str->Option PX)(K:W.Frag)(u:PX)(C:PY):Prop extends Lw mg K u where
 aK:mg "NoText" =some (.ref C)
 bp:jo K C
section
variable{P:P0}{w:P4}{K:W.Frag}{mg:Str->Option PX}{base:Qd}{u:PX}{C:PY}
theorem HH{f:PY}{fd:Qc}(F:dU K "read_number" "read_number" (top 81) f fd)(T:Ej mg K u C):aQ P w K mg base (j4 P w) 1 f fd ["word"] (E4 C):=by
 refine F.DG kZ (fun vs H Q E h=>?_) (fun cdv A outer s H vs Q E hr h=>?_)
 .obtain⟨i,rfl,_⟩:=h
  rfl
 .obtain⟨x,rfl,xl,nn,k⟩:=h
  refine⟨_,(ag (aN (PW.pt (fu (dm (dq (om (K:=K) rfl PySem.F.plainAttrs_str PySem.F.slot_str_isascii PySem.F.type_str_isascii sV (pv 0)))) (fu (dm (dq (om (K:=K) rfl PySem.F.plainAttrs_str PySem.F.slot_str_isdigit PySem.F.type_str_isdigit sk (pv 0)))) (dG (aw qo (ar cI rfl T.bX (by decide+kernel) (aa (pv 0) ae)) (de rfl T.ig T.ie) (aB _)))))) (ah (cb n6 T.bp rfl rfl T.aK (aa ak ae))) ax)
   (ag (aN (PW.pt (pH (aw eC (pv 0) ak (aB _)) (lN (dq (aP (K:=K) rfl PySem.F.plainAttrs_str PySem.F.slot_str_startswith PySem.F.type_str_startswith uG (pv 0) (aa ak ae)))))) (ah (cb n6 T.bp rfl rfl T.aK (aa ak ae))) ax)
   (ah (ay (aY mF rfl T.Bt (by decide+kernel) (aa (pv 0) ae)))))),?_⟩
  have big:(10000000:Nat)<=P6:=by decide
  have no:(1:Nat)<=P6/\E (.ref C) none H:=⟨by lia,k⟩;refine⟨_,rfl,rfl,_,rfl,rfl,_,rfl,cg (fun c=>no) (fun c1=>?_)⟩;refine⟨_,rfl,rfl,_,rfl,rfl,_,rfl,cg (fun c=>no) (fun c2=>?_)⟩;refine⟨_,rfl,_,rfl,by lia,_,_,rfl,rfl,_,rfl,cg (fun c=>no) (fun c3=>?_)⟩;have c1:Txt.isascii x=true:=by simpa using c1
  have c2:Txt.isdigit x=true:=by simpa using c2
  have c3:x.length<=9:=by
   have:¬(x.length:Int)>9:=by simpa using c3
   lia
  refine⟨_,rfl,rfl,_,rfl,?_⟩;refine cg (fun _=>?_) (fun c4=>?_)
  .refine⟨_,rfl,rfl,_,_,rfl,rfl,_,rfl,cg (fun c=>no) (fun c5=>?_)⟩
   exact absurd (Ec c1 c2 c3 (.inr (by simpa using c5))) nn
  .refine absurd (Ec c1 c2 c3 (.inl ?_)) nn
   simpa using c4
theorem GV{f:PY}{fd:Qc}(F:dU K "check_text" "check_text" (top 80) f fd)(T:Ej mg K u C):aQ P w K mg base (j4 P w) 1 f fd ["thing"] (EV C):=by
 refine F.DG mJ (fun vs H Q E h=>?_) (fun cdv A outer s H vs Q E hr h=>?_)
 .obtain⟨v,_,d,rfl,_⟩:=h
  rfl
 .obtain⟨v,P',d,rfl,hd,ns,k⟩:=h
  refine⟨_,(ah (aN (dm (dq (ar (hV (K:=K) rfl) rfl T.aH (by decide+kernel) (aa (pv 0) (aa (jG (v:= .ty "str") rfl T.di (by decide+kernel) rfl) ae))))) (ah (cb n6 T.bp rfl rfl T.aK (aa ak ae))) ax)),?_⟩;refine⟨_,rfl,_,_,"str",_,rfl,hd.ty,Eg K hd,_,rfl,?_⟩;have no:(1:Nat)<=P6/\E (.ref C) none H:=⟨by decide,k⟩
  cases hd with
  |str x=>exact absurd rfl (ns x)
  |_=>exact zA no
def vC(C:PY):Sp:=fun vs H Q E=>Aw vs H Q E\/E4 C vs H Q E
def AX(C:PY):Sp:=fun vs H Q E=>Ai vs H Q E\/EV C vs H Q E
theorem xi{f:PY}{fd:Qc}(F:dU K "read_number" "read_number" (top 81) f fd)(T:Ej mg K u C):aQ P w K mg base (j4 P w) 1 f fd ["word"] (vC C):=(Gj F T.toLw).lift.or (HH F T)
theorem Ci{f:PY}{fd:Qc}(F:dU K "check_text" "check_text" (top 80) f fd)(T:Ej mg K u C):aQ P w K mg base (j4 P w) 1 f fd ["thing"] (AX C):=(BQ F T.toLw).lift.or (GV F T)
def lg(n:Int)(d:PyData)(row:List (Int×Int)):Prop:=d= .str (kf row)/\Good n row/\row.length<=60
def sW(C:PY):Sp:=fun vs H Q E=>∃(n:Int)(v:V)(P:PY->Prop)(d:PyData),vs=[.int n,v]/\DT H P v d/\(∀x,d= .str x->x.length<=990)/\(∀row,¬lg n d row)/\∀H',ai H H'->E (.ref C) none H'
structure MP(P:P0)(w:P4)(K:W.Frag)(mg:Str->Option PX)(base:Qd)(C:PY):Prop extends T1 mg K where
 bY:eI P w K mg base "check_text" 1 ["thing"] (AX C)
 bu:eI P w K mg base "read_number" 1 ["word"] (vC C)
 kG:FnAt P w K mg base "is_row" 6 ["n","thing"] qU
 aK:mg "NoText" =some (.ref C)
 bp:jo K C
theorem Cn{n:Int}:∀{Ls:List (List Int)},(Ls.map fun L=>PyData.tuple (L.map .int)).all (tZ n)=true->∃row:List (Int×Int),Ls=row.map (fun e=>[e.1,e.2])/\Good n row
 |[],_=>⟨[],rfl,fun e h=>absurd h PB⟩
 |L::Ls,h=>by
  rw[Pm,List.all_cons,Bool.and_eq_true]at h;obtain⟨row,e,g⟩:=Cn h.2;have h1:=h.1
  match L,h1 with
  |[a,b],h1=>
   have h1:((decide (1<=a/\a<=n)&&decide (1<=b/\b<=n))&&decide (a<b))=true:=h1;simp only[Bool.and_eq_true,decide_eq_true_eq]at h1;refine⟨(a,b)::row,by rw[e];rfl,fun e he=>?_⟩;rcases List.mem_cons.mp he with rfl|he
   .dsimp only;lia
   .exact g e he
theorem words_of{ws:List Str}:∀{row:List (Int×Int)},ws.map (fun z=>Txt.split z (Pd "-"))=(row.map fun e=>[e.1,e.2]).map (fun L=>L.map aF)->ws=row.map gA:=by
 induction ws with
 |nil=>intro row h;cases row with
  |nil=>rfl
  |cons _ _=>cases h
 |cons z ws ih=>intro row h;cases row with
  |nil=>cases h
  |cons e row=>
   rw[Pm,Pm,Pm]at h;injection h with h1 h2
   rw[Pm,ih h2,zy (a:=e.1) (b:=e.2) h1]
theorem za{f:PY}{fd:Qc}(F:dU K "read_row" "read_row" (top 85) f fd)(T:MP P w K mg base C):aQ P w K mg base (j4 P w) 7 f fd ["n","text"] (sW C):=by
 refine F.DG iB (fun vs H Q E h=>?_) (fun cdv A outer s H vs Q E hr h=>?_)
 .obtain⟨n,v,_,d,rfl,_⟩:=h
  rfl
 .obtain⟨n,v,P',d,rfl,hd,hlen,nr,k⟩:=h
  refine⟨_,(ag (cj (bW T.bY j8 (hr.mono (by decide)) rfl (aa (pv 1) ae)))
   (ag (aN (aw bR (pv 1) ak (aB _)) (ah (ay (bH ae))) ax)
   (ag (nR (N:=(["pair"]:List Str)) (ix:=([none]:List (Option Nat))) (i:=2) tf oX iB.nd rfl rfl (aW rfl rfl) rfl (aV (K:=K) rfl (aP (K:=K) rfl PySem.F.plainAttrs_str PySem.F.slot_str_split PySem.F.type_str_split ck (pv 1) (aa ak ae))) (fun _ _ _ _=>(aA (i:=0) (show List.Nodup (["pair"]:List Str)from by decide+kernel) rfl (Or.inl rfl))) (fun _ _ _ _=>bq) (fun _ _ _ _=>(aY (cz (K:=K) rfl) rfl T.gT (by decide+kernel) (aa (yX (N:=(["word"]:List Str)) (ix:=([none]:List (Option Nat))) (Mq tf) pq (aW rfl rfl) rfl (aV (K:=K) rfl (aP (K:=K) rfl PySem.F.plainAttrs_str PySem.F.slot_str_split PySem.F.type_str_split ck (pv 0) (aa ak ae))) (fun _ _ _ _=>(aA (i:=0) (show List.Nodup (["word"]:List Str)from by decide+kernel) rfl (Or.inl rfl))) (fun _ _ _ _=>bq) (fun _ _ _ _=>(bW T.bu (iD.passes pq) (hr.mono (by decide)) rfl (aa (pv 0) ae)))) ae))))
   (ag (aN (dm (dq (aq T.kG (hr.mono (by first|decide|lia)) rfl (aa (pv 0) (aa (pv 2) ae))))) (ah (cb n6 T.bp rfl rfl T.aK (aa ak ae))) ax)
   (ah (ay (pv 2))))))),?_⟩
  have big:(10000000:Nat)<=P6:=by decide
  by_cases hst:∃x,d= .str x
  case neg=>exact⟨_,rfl,.inr ⟨_,_,_,rfl,hd,fun x z=>hst ⟨x,z⟩,k H (ai.refl _)⟩⟩
  obtain⟨x,rfl⟩:=hst;cases hd;have xl:=hlen x rfl;refine⟨_,rfl,.inl ⟨_,rfl,?_⟩⟩;refine⟨_,rfl,rfl,_,rfl,?_⟩;refine pB (decide_eq_false (by intro z;injection z with z;exact nr [] ⟨by rw[z];rfl,fun e h=>absurd h PB,PQ _⟩)) ?_;refine⟨_,rfl,rfl,_,_,rfl,rfl,by decide+kernel,by lia,fun l1 f1=>⟨l1,rfl,⟨_,aI.of af⟩,?_⟩⟩;have wl:=split_le x (Pd " ");have wp:∀z∈Txt.split x (Pd " "),z.length<=x.length:=fun z hz=>bO hz;have fin:∀row,Txt.split x (Pd " ")=row.map gA->¬(Good n row/\row.length<=60):=fun row e z=>nr row ⟨by rw[vG e],z.1,z.2⟩;generalize Txt.split x (Pd " ")=ws at wl wp fin⊢;have s1:ai H (upd H l1 (.lst (ws.map V.str))):=ai.new f1;have h1:upd H l1 (.lst (ws.map V.str)) l1=some (.lst (ws.map V.str)):=af;generalize upd H l1 (.lst (ws.map V.str))=H1 at s1 h1⊢;have ll:(ws.map V.str).length=ws.length:=by rw[Pe]
  refine iC (K:=K) (a:=l1) (xs:=ws.map V.str) (k:=0) (fun i ys σ' H'=>(∃v0,σ'=[v0])/\ai H1 H'/\∃Ls:List (List Int),oK H' (fun _=>True) ys (Ls.map fun L=>PyData.tuple (L.map .int))/\(ws.take i).map (fun z=>Txt.split z (Pd "-"))=Ls.map (fun L=>L.map aF)) (by lia) ⟨⟨none,rfl⟩,ai.refl _,[],.nil,rfl⟩ (fun i ys σ' H' _ q=>aI.of (q.2.1 _ _ h1)) (fun i ys σ' H' q=>?_) ?_ ?_
  .obtain⟨_,_,Ls,e1,e2⟩:=q
   have e1:=e1.length;have e2:=congrArg List.length e2;rw[Pe,Pe,Pn]at e2;rw[Pe]at e1;lia
  .rintro i ys σ' H2 z R hx ⟨⟨v0,rfl⟩,s2,Ls,x2,eL⟩ done
   obtain⟨wd,hw,rfl⟩:∃wd,ws[i]?=some wd/\V.str wd=z:=by
    rw[Pf]at hx
    cases e:ws[i]? with
    |none=>rw[e]at hx;cases hx
    |some e'=>rw[e]at hx;exact⟨e',rfl,PU hx⟩
   have wdl:=wp wd (Pr hw);refine⟨_,rfl,rfl,_,_,rfl,rfl,by decide+kernel,by lia,fun l2 f2=>⟨l2,rfl,⟨_,aI.of af⟩,?_⟩⟩;have pl:=split_le wd (Pd "-");have pp:∀z∈Txt.split wd (Pd "-"),z.length<=wd.length:=fun z hz=>bO hz;have tk:(ws.take (i+1)).map (fun z=>Txt.split z (Pd "-"))=(ws.take i).map (fun z=>Txt.split z (Pd "-"))++[Txt.split wd (Pd "-")]:=by rw[PJ,hw];simp
   generalize Txt.split wd (Pd "-")=ps at pl pp tk⊢;have s3:ai H2 (upd H2 l2 (.lst (ps.map V.str))):=ai.new f2;have h3:upd H2 l2 (.lst (ps.map V.str)) l2=some (.lst (ps.map V.str)):=af;generalize upd H2 l2 (.lst (ps.map V.str))=H3 at s3 h3⊢;refine iC (K:=K) (a:=l2) (xs:=ps.map V.str) (k:=0) (fun j ys' σ'' H'=>(∃v0,σ''=[v0])/\H'=H3/\∃L:List Int,ys'=L.map V.int/\ps.take j=L.map aF) (by rw[Pe];lia) ⟨⟨none,rfl⟩,rfl,[],rfl,rfl⟩ (fun j ys' σ'' H' _ q=>by rw[q.2.1];exact aI.of h3) (fun j ys' σ'' H' q=>?_) ?_ ?_
   .obtain⟨_,_,L,e1,e2⟩:=q
    have e2:=congrArg List.length e2;rw[Pe,Pn]at e2;rw[e1,Pe];lia
   .rintro j ys' σ'' H' x' R' hx' ⟨⟨v0,rfl⟩,rfl,L,rfl,eP⟩ done'
    obtain⟨p,hp,rfl⟩:∃p,ps[j]?=some p/\V.str p=x':=by
     rw[Pf]at hx'
     cases e:ps[j]? with
     |none=>rw[e]at hx';cases hx'
     |some e'=>rw[e]at hx';exact⟨e',rfl,PU hx'⟩
    by_cases hn:j3 p
    .obtain⟨a,rfl,a0,a9⟩:=hn
     refine⟨_,rfl,.inl ⟨a,rfl,a0,a9,done' _ _ _ ⟨⟨_,rfl⟩,rfl,L++[a],by rw[Pj];rfl,?_⟩⟩⟩;rw[PJ,hp,eP,Pj];rfl
    .have:=pp p (Pr hp)
     exact⟨_,rfl,.inr ⟨p,rfl,by lia,hn,k _ (s1.trans (s2.trans s3))⟩⟩
   .rintro ys' σ'' H' q ⟨⟨v0,rfl⟩,e0,L,rfl,eP⟩ fq
    have e0:=e0.symm;subst e0;rw[Pw (by rw[Pe];exact PK _)]at eP;refine⟨q,_,rfl,.inl ⟨aI.of af,fun t ft=>?_⟩⟩;have s4:ai H3 (upd H3 q (.lst (L.map V.int))):=ai.new fq;have s5:ai (upd H3 q (.lst (L.map V.int))) (upd (upd H3 q (.lst (L.map V.int))) t (.tup (L.map V.int))):=ai.new ft;have s6:=s3.trans (s4.trans s5);refine done _ _ _ ⟨⟨_,rfl⟩,s2.trans s6,Ls++[L],?_,?_⟩
    .rw[Pj]
     exact(x2.keep fun a o _ q=>s6 a o q).snoc (.tup af trivial (oK.ints L))
    .rw[tk,eL,eP,Pj]
     rfl
  .rintro ys σ' H2 q ⟨⟨v0,rfl⟩,s2,Ls,x2,eL⟩ fq
   rw[Pw (by lia)]at eL;have s3:ai H2 (upd H2 q (.lst ys)):=ai.new fq;have x3:=x2.keep fun a o _ q=>s3 a o q;have s13:=s1.trans (s2.trans s3);have h3:upd H2 q (.lst ys) q=some (.lst ys):=af;generalize upd H2 q (.lst ys)=H3 at s3 x3 s13 h3⊢;have eLl:=congrArg List.length eL;rw[Pe,Pe]at eLl;refine⟨_,rfl,_,rfl,.ref q,(fun _=>True),.list (Ls.map fun L=>PyData.tuple (L.map .int)),n,rfl,.lst h3 trivial x3,fun ds e=>?_,fun H4 s4=>⟨_,rfl,cg (fun c=>?_) (fun c=>?_)⟩⟩
   .injection e with e
    rw[←e,Pe];lia
   .exact⟨(by show 1<=P6;lia),k _ (s13.trans s4)⟩
   .exfalso
    have c:rj n (.list (Ls.map fun L=>PyData.tuple (L.map .int)))=true:=by simpa using c
    unfold rj at c;rw[Bool.and_eq_true,Pe]at c;obtain⟨row,rfl,g⟩:=Cn c.2;refine fin row (words_of eL) ⟨g,?_⟩;have:=of_decide_eq_true c.1;rw[Pe]at this;exact this
def A0(C:PY):Sp:=fun vs H Q E=>uO vs H Q E\/sW C vs H Q E
end
end Sw
namespace L2
open PySem PySem.Spec PyProof.Rows
section
variable{prog:P0}{w:P4}{A:P5}{E:PX->PZ->Prop}{s:PZ}
theorem ER{it t:PY}{i:Nat}{items:Array PX}{x:PX}{Q:PX->PZ->Prop}(st:s.heap.IsTupleIter it t i)(ht:s.heap.IsTuple t items)(hx:items[i]?=some x)
  (k:∀h',h'.IsTupleIter it t (i+1)->Qd.SameBut it s.heap h'->Q x {s with heap:=h'}):Qf (model prog w) A (Qi.SmallTypes.nextOf (.ref it)) Q E s:=by
 obtain⟨o,h1,h2,h3⟩:=id st;obtain⟨ol,g1,_,n,g2⟩:=ht;unfold Qi.SmallTypes.nextOf;refine P8 (wpAny_callSpecial?_slot (name:=Pd "__next__") st.typeIs F.slot_tuple_iterator_next (wpAny_call_entry F.slot_tuple_iterator_next st.typeIs F.entry_tuple_iterator_next ?_ (F.args_tuple_iterator_next_1 _)));show Qf _ _ (field (.ref it) 0>>=_) _ _ s;refine P8 (wpAny_field h1 h3 (x:= .ref t) rfl ?_);show Qf _ _ (if(PX.ref t==PX.none)=true then _ else _) _ _ s;rw[if_neg (show¬((PX.ref t==PX.none)=true)from PR)];show Qf _ _ (field (.ref it) 1>>=_) _ _ s;refine P8 (wpAny_field h1 h3 (x:= .int i 0) rfl ?_);show Qf _ _ (seqItems? (.ref t)>>=_) _ _ s;refine P8 (wpAny_seqItems g1 g2 ?_);simp only[Int.toNat_natCast,hx];refine P8 (wpAny_setField h1 h3 (by simp) (P9 ⟨x,rfl,P9 (k _ ?_ (Qd.SameBut.update ..))⟩));exact⟨_,Qd.get?_update_self _ h1 (Obj.isFreed_of_fields (Obj.data_mapFields h3 _)),(Obj.cls_mapFields ..).trans h2,by rw[Obj.data_mapFields h3];simp[rawInt]⟩
theorem C7{it t:PY}{i:Nat}{items:Array PX}{Q:PX->PZ->Prop}(hh:A.handled=none)(st:s.heap.IsTupleIter it t i)(ht:s.heap.IsTuple t items)(hx:items[i]?=none)
  (k:∀h' e,Qd.ExtBut it s.heap h'->(∃o,h'.get? e=some o/\o.cls= .type "StopIteration")->E (.ref e) {s with heap:=h'}):Qf (model prog w) A (Qi.SmallTypes.nextOf (.ref it)) Q E s:=by
 obtain⟨o,h1,h2,h3⟩:=id st;obtain⟨ol,g1,_,n,g2⟩:=ht;unfold Qi.SmallTypes.nextOf;refine P8 (wpAny_callSpecial?_slot (name:=Pd "__next__") st.typeIs F.slot_tuple_iterator_next (wpAny_call_entry F.slot_tuple_iterator_next st.typeIs F.entry_tuple_iterator_next ?_ (F.args_tuple_iterator_next_1 _)));show Qf _ _ (field (.ref it) 0>>=_) _ _ s;refine P8 (wpAny_field h1 h3 (x:= .ref t) rfl ?_);show Qf _ _ (if(PX.ref t==PX.none)=true then _ else _) _ _ s;rw[if_neg (show¬((PX.ref t==PX.none)=true)from PR)];show Qf _ _ (field (.ref it) 1>>=_) _ _ s;refine P8 (wpAny_field h1 h3 (x:= .int i 0) rfl ?_);show Qf _ _ (seqItems? (.ref t)>>=_) _ _ s;refine P8 (wpAny_seqItems g1 g2 ?_);simp only[Int.toNat_natCast,hx];refine P8 (wpAny_rule (P8 (wpAny_setField h1 h3 (by simp) ?_)));show Qf _ _ (newExc (.type "StopIteration") []>>=_) _ _ _;refine P8 ?_;simp only[newExc,newTuple];refine P8 (wpAny_newObj_type ?_ (by size_fits));refine P8 (m:=firstArgMember _ _) (wpAny_of_eq (a:=PX.none) (by first|rfl|(simp only[firstArgMember];rfl)) ?_);refine wpAny_newObj_type ?_ (by size_fits);simp only[raiseNew];refine P8 (wpAny_handled ?_)
 first|rw[show A.in1.handled=none from hh]|rw[hh]
 refine P8 (P9 (wpAny_throw ?_));exact k _ _ (((Qd.SameBut.update ..).extBut.push _).push _) ⟨_,Qd.get?_push_size _ rfl,rfl⟩
theorem DL(hh:A.handled=none){it t:PY}(items:Array PX)(hne:t≠it):Draws prog w A it [it,t] items.size (fun i v=>items[i]?=some v) (fun i h=>h.IsTupleIter it t i/\h.IsTuple t items)where
 live:=fun i h st=>by obtain⟨⟨o,e,_⟩,_⟩:=st;exact⟨o,e⟩
 frame:=fun i h h' st k=>⟨st.1.at fun o e=>k it (by simp) o e,by
  obtain⟨o,e,r⟩:=st.2;exact⟨o,k t (by simp) o e,r⟩⟩
 item:=fun i s Q E hi st hQ=>ER st.1 st.2 (Array.getElem?_eq_getElem hi) fun h' st' sb=>hQ _ h' s.toks (Array.getElem?_eq_getElem hi) ⟨st',st.2.extBut sb.extBut hne⟩ sb
 done:=fun s Q E st hE=>C7 hh st.1 st.2 (Array.getElem?_eq_none (PK _)) hE
structure vJ(z TI TO i1 i2:PY)(f1 f2:List PY):Prop where
 TIz:TI≠z
 TOz:TO≠z
 TITO:TI≠TO
 z1:z∉f1
 z2:z∉f2
 O1:TO∉f1
 O2:TO∉f2
 m1:i1∈f1
 m2:i2∈f2
 i12:i1∉f2
 O9:i2∉f1
 I1:TI≠i1
 I2:TI≠i2
variable{n1 n2:Nat}{P1 P2:Nat->PX->Prop}{S1 S2:Nat->Qd->Prop}{z TI TO i1 i2:PY}{f1 f2:List PY}
theorem CD{k1 k2:Nat}{a b:PX}{Q:PX->PZ->Prop}(D1:∀A':P5,A'.handled=A.handled->Draws prog w A' i1 f1 n1 P1 S1)(D2:∀A':P5,A'.handled=A.handled->Draws prog w A' i2 f2 n2 P2 S2)(D:vJ z TI TO i1 i2 f1 f2)
  (hz:IsZip s.heap z TI TO .none) (hTI:IsPair s.heap TI (.ref i1) (.ref i2)) (hTO:IsPair s.heap TO a b) (h1:S1 k1 s.heap) (h2:S2 k2 s.heap) (l1:k1<n1) (l2:k2<n2)
  (hQ:∀x y h' tk,P1 k1 x->P2 k2 y->IsZip h' z TI TO (rawInt s.heap.objs.size)->IsPair h' TO x y->S1 (k1+1) h'->S2 (k2+1) h'->IsPair h' s.heap.objs.size x y->h'.objs.size=s.heap.objs.size+1->
   (∀c o,c≠z->c≠TO->c≠i1->c≠i2->s.heap.get? c=some o->h'.get? c=some o)->Q (.ref s.heap.objs.size) {s with heap:=h',toks:=tk}):
  Qf (model prog w) A (Qi.«zip.__next__» ⟨[.ref z],[]⟩) (fun fin s'=>∃v,fin= .done (.ret v)/\Q v s') E s:=by
 have iz1:i1≠z:=fun e=>D.z1 (e▸D.m1);have iz2:i2≠z:=fun e=>D.z2 (e▸D.m2);have io1:i1≠TO:=fun e=>D.O1 (e▸D.m1);have io2:i2≠TO:=fun e=>D.O2 (e▸D.m2);have i12:i1≠i2:=fun e=>D.i12 (e▸D.m2);have fr1:∀{k b h h'},b∉f1->Qd.ExtBut b h h'->S1 k h->S1 k h':=fun hb x st=>(D1 A rfl).frame _ _ _ st fun c hc o e=>x c o (fun q=>hb (q▸hc)) e;have fr2:∀{k b h h'},b∉f2->Qd.ExtBut b h h'->S2 k h->S2 k h':=fun hb x st=>(D2 A rfl).frame _ _ _ st fun c hc o e=>x c o (fun q=>hb (q▸hc)) e;show Qf _ _ (field (.ref z) 2>>=_) _ _ _;refine P8 (wpAny_field hz rfl (x:= .bool false) rfl ?_);show Qf _ _ (field (.ref z) 3>>=_) _ _ _;refine P8 (wpAny_field hz rfl (x:= .ref TI) rfl ?_);refine P8 (wpAny_seqItems hTI rfl ?_);show Qf _ _ (Qi.SmallTypes.ownedTupleIsFree (.ref z)>>=_) _ _ _;refine P8 ?_;unfold Qi.SmallTypes.ownedTupleIsFree;refine P8 (wpAny_field hz rfl (x:= .none) rfl (P9 ?_));simp only[if_true];refine P8 (wpAny_rule ?_);refine P8 (wpAny_field hz rfl (x:= .ref TO) rfl ?_);refine P8 (wpAny_setField_rec hz (by simp) fun g1 hz1 x1=>?_);replace hz1:IsZip g1 z TI TO .ellipsis:=hz1;have hTO1:IsPair g1 TO a b:=x1.extBut _ _ D.TOz hTO;have h11:=fr1 D.z1 x1.extBut h1;have h21:=fr2 D.z2 x1.extBut h2;refine P8 ?_;simp only[List.zipIdx_cons,List.zipIdx_nil,List.forIn_cons,List.forIn_nil];refine P8 (P8 (wpAny_onRaise ?_));show Qf _ _ (Qi.SmallTypes.nextOf (.ref i1)>>=_) _ _ _;refine P8 ((D1 _ rfl).item k1 _ _ _ l1 h11 fun x g2 t2 px h12 x2=>P9 ?_);have hTO2:IsPair g2 TO a b:=x2.extBut _ _ (Ne.symm io1) hTO1;have h22:=fr2 D.i12 x2.extBut h21;refine P8 (wpAny_seqItems hTO2 rfl ?_);refine P8 (wpAny_updateSeq_pair hTO2 fun g3 hTO3 x3=>?_);replace hTO3:IsPair g3 TO x b:=hTO3;refine P8 (wpAny_letGo (P9 ?_));have h13:=fr1 D.O1 x3.extBut h12;have h23:=fr2 D.O2 x3.extBut h22;refine P8 (P8 (wpAny_onRaise ?_));show Qf _ _ (Qi.SmallTypes.nextOf (.ref i2)>>=_) _ _ _;refine P8 ((D2 _ rfl).item k2 _ _ _ l2 h23 fun y g4 t4 py h24 x4=>P9 ?_);have hTO4:IsPair g4 TO x b:=x4.extBut _ _ (Ne.symm io2) hTO3;have h14:=fr1 D.O9 x4.extBut h13;refine P8 (wpAny_seqItems hTO4 rfl ?_);refine P8 (wpAny_updateSeq_pair hTO4 fun g5 hTO5 x5=>?_);replace hTO5:IsPair g5 TO x y:=hTO5;have h15:=fr1 D.O1 x5.extBut h14;have h25:=fr2 D.O2 x5.extBut h24;refine P8 (wpAny_letGo (P9 (P9 ?_)));refine P8 (wpAny_seqItems hTO5 rfl ?_);refine P8 (wpAny_newTuple ?_);have hsz:g5.objs.size=s.heap.objs.size:=by rw[x5.1,x4.1,x3.1,x2.1,x1.1]
 have hz5:IsZip g5 z TI TO .ellipsis:=x5.extBut _ _ (Ne.symm D.TOz) (x4.extBut _ _ (Ne.symm iz2) (x3.extBut _ _ (Ne.symm D.TOz) (x2.extBut _ _ (Ne.symm iz1) hz1)));have hk5:∀c o,c≠z->c≠TO->c≠i1->c≠i2->s.heap.get? c=some o->g5.get? c=some o:=fun c o c1 c2 c3 c4 e=>
  x5.extBut _ _ c2 (x4.extBut _ _ c4 (x3.extBut _ _ c2 (x2.extBut _ _ c3 (x1.extBut _ _ c1 e))))
 have zlt:z<g5.objs.size:=Qd.lt_size hz5;show Qf _ _ (Qi.SmallTypes.ownedTupleHandOut (.ref z) (.ref g5.objs.size)>>=_) _ _ _;refine P8 ?_;unfold Qi.SmallTypes.ownedTupleHandOut;have hz6:IsZip (g5.push {cls:= .type "tuple",data:= .seq #[x,y]}) z TI TO .ellipsis:=Qd.get?_push_of_some _ hz5;refine P8 (wpAny_setField_rec hz6 (by simp) fun g7 hz7 x7=>?_);replace hz7:IsZip g7 z TI TO (rawInt g5.objs.size):=hz7;refine wpAny_setField_rec hz7 (by simp) fun g8 hz8 x8=>?_;replace hz8:IsZip g8 z TI TO (rawInt g5.objs.size):=hz8;have up:∀c o,c≠z->g5.get? c=some o->g8.get? c=some o:=fun c o c1 e=>x8.extBut _ _ c1 (x7.extBut _ _ c1 (Qd.get?_push_of_some _ e));have hT8:IsPair g8 g5.objs.size x y:=x8.extBut _ _ (Nat.ne_of_gt zlt) (x7.extBut _ _ (Nat.ne_of_gt zlt) (Qd.get?_push_size _ rfl));have sz8:g8.objs.size=g5.objs.size+1:=by rw[x8.1,x7.1,Qd.size_push]
 rw[hsz]at hz8 hT8 sz8;refine P9 ⟨_,rfl,?_⟩;show Q (.ref g5.objs.size) _;rw[hsz];exact hQ x y g8 t4 px py hz8 (up _ _ D.TOz hTO5) ((D1 A rfl).frame _ _ _ h15 fun c hc o e=>up c o (fun q=>D.z1 (q▸hc)) e) ((D2 A rfl).frame _ _ _ h25 fun c hc o e=>up c o (fun q=>D.z2 (q▸hc)) e) hT8 sz8 fun c o c1 c2 c3 c4 e=>up c o c1 (hk5 c o c1 c2 c3 c4 e)
theorem Gf{k:Nat}{a b:PX}{Q:Fin->PZ->Prop}(D1:∀A':P5,A'.handled=A.handled->Draws prog w A' i1 f1 n1 P1 S1)(D2:∀A':P5,A'.handled=A.handled->Draws prog w A' i2 f2 n2 P2 S2)(D:vJ z TI TO i1 i2 f1 f2)
  (hz:IsZip s.heap z TI TO .none) (hTI:IsPair s.heap TI (.ref i1) (.ref i2)) (hTO:IsPair s.heap TO a b) (h1:S1 k s.heap) (h2:S2 k s.heap) (hk:k=min n1 n2)
  (hE:∀h' e tk,(∀c o,c≠z->c≠TO->c≠i1->c≠i2->s.heap.get? c=some o->h'.get? c=some o)->(∃o,h'.get? e=some o/\o.cls= .type "StopIteration")->E (.ref e) {s with heap:=h',toks:=tk}):
  Qf (model prog w) A (Qi.«zip.__next__» ⟨[.ref z],[]⟩) Q E s:=by
 have iz1:i1≠z:=fun e=>D.z1 (e▸D.m1);have iz2:i2≠z:=fun e=>D.z2 (e▸D.m2);have io1:i1≠TO:=fun e=>D.O1 (e▸D.m1);have fr1:∀{k b h h'},b∉f1->Qd.ExtBut b h h'->S1 k h->S1 k h':=fun hb x st=>(D1 A rfl).frame _ _ _ st fun c hc o e=>x c o (fun q=>hb (q▸hc)) e;have fr2:∀{k b h h'},b∉f2->Qd.ExtBut b h h'->S2 k h->S2 k h':=fun hb x st=>(D2 A rfl).frame _ _ _ st fun c hc o e=>x c o (fun q=>hb (q▸hc)) e;show Qf _ _ (field (.ref z) 2>>=_) _ _ _;refine P8 (wpAny_field hz rfl (x:= .bool false) rfl ?_);show Qf _ _ (field (.ref z) 3>>=_) _ _ _;refine P8 (wpAny_field hz rfl (x:= .ref TI) rfl ?_);refine P8 (wpAny_seqItems hTI rfl ?_);show Qf _ _ (Qi.SmallTypes.ownedTupleIsFree (.ref z)>>=_) _ _ _;refine P8 ?_;unfold Qi.SmallTypes.ownedTupleIsFree;refine P8 (wpAny_field hz rfl (x:= .none) rfl (P9 ?_));simp only[if_true];refine P8 (wpAny_rule ?_);refine P8 (wpAny_field hz rfl (x:= .ref TO) rfl ?_);refine P8 (wpAny_setField_rec hz (by simp) fun g1 hz1 x1=>?_);replace hz1:IsZip g1 z TI TO .ellipsis:=hz1;have hTO1:IsPair g1 TO a b:=x1.extBut _ _ D.TOz hTO;have h11:=fr1 D.z1 x1.extBut h1;have h21:=fr2 D.z2 x1.extBut h2;refine P8 ?_;simp only[List.zipIdx_cons,List.zipIdx_nil,List.forIn_cons,List.forIn_nil];refine P8 (P8 (wpAny_onRaise ?_));show Qf _ _ (Qi.SmallTypes.nextOf (.ref i1)>>=_) _ _ _;by_cases c:n1<=n2
 .have e1:k=n1:=by lia
  subst e1;refine P8 ((D1 _ rfl).done _ _ _ h11 fun g2 e x2 he=>?_);obtain⟨oe,e1,e2⟩:=he;have hz2:IsZip g2 z TI TO .ellipsis:=x2 _ _ (Ne.symm iz1) hz1;have hez:e≠z:=fun q=>by subst q;rw[hz2]at e1;cases e1;simp at e2
  refine wpAny_setField_rec hz2 (by simp) fun g3 _ x3=>hE g3 e _ (fun c o c1 _ c3 _ q=>x3.extBut _ _ c1 (x2 _ _ c3 (x1.extBut _ _ c1 q))) ⟨oe,x3.extBut _ _ hez e1,e2⟩
 .have e2:k=n2:=by lia
  subst e2;refine P8 ((D1 _ rfl).item k _ _ _ (by lia) h11 fun x g2 t2 px h12 x2=>P9 ?_);have hTO2:IsPair g2 TO a b:=x2.extBut _ _ (Ne.symm io1) hTO1;have h22:=fr2 D.i12 x2.extBut h21;refine P8 (wpAny_seqItems hTO2 rfl ?_);refine P8 (wpAny_updateSeq_pair hTO2 fun g3 hTO3 x3=>?_);refine P8 (wpAny_letGo (P9 ?_));have h23:=fr2 D.O2 x3.extBut h22;refine P8 (P8 (wpAny_onRaise ?_));show Qf _ _ (Qi.SmallTypes.nextOf (.ref i2)>>=_) _ _ _;refine P8 ((D2 _ rfl).done _ _ _ h23 fun g4 e x4 he=>?_);obtain⟨oe,e1,e2⟩:=he;have hz4:IsZip g4 z TI TO .ellipsis:=x4 _ _ (Ne.symm iz2) (x3.extBut _ _ (Ne.symm D.TOz) (x2.extBut _ _ (Ne.symm iz1) hz1));have hez:e≠z:=fun q=>by subst q;rw[hz4]at e1;cases e1;simp at e2
  refine wpAny_setField_rec hz4 (by simp) fun g5 _ x5=>hE g5 e _ (fun c o c1 c2 c3 c4 q=>x5.extBut _ _ c1 (x4 _ _ c4 (x3.extBut _ _ c2 (x2.extBut _ _ c3 (x1.extBut _ _ c1 q))))) ⟨oe,x5.extBut _ _ hez e1,e2⟩
end
structure Src(P:P0)(w:P4)(K:W.Frag)(base it:PY)(xs:List V)(T:Nat->Qd->Prop)(G:Hp->Prop):Prop where
 obj:∀i h,T i h->∃o,h.get? it=some o/\∀v,o.data≠.cell v
 keep:∀i h h',T i h->(∀o,h.get? it=some o->h'.get? it=some o)->T i h'
 dr:∀(X:Cx),X.prog=P->X.w=w->X.K=K->∀(pins:List (PY×Obj))(σ:St)(H:Hp)(s:PZ),Inv X pins σ H s->G H->∃(f:List PY)(PP:Nat->PX->Prop)(S:Nat->Qd->Prop),it∈f/\(∀c∈f,c=it\/@LT.lt Nat _ c base)/\
  (∀i,T i s.heap->S i s.heap)/\(∀i h,S i h->T i h)/\(∀i u,PP i u->∃v,xs[i]?=some v/\RelV v u)/\∀A:P5,A.handled=none->Draws P w A it f xs.length PP S
theorem src_list{P:P0}{w:P4}{K:W.Frag}{base it a:PY}{xs:List V}(h1: @LE.le Nat _ base it)(h2: @LT.lt Nat _ a base):Src P w K base it xs (fun i h=>h.IsListIter it a i) (fun H=>aI K H a xs)where
 obj:=fun i h st=>by
  obtain⟨o,e,_,d⟩:=st;exact⟨o,e,fun v z=>by rw[d]at z;cases z⟩
 keep:=fun i h h' st k=>st.at k
 dr:=by
  intro X hP hw hK pins σ H s I g;subst hP hw hK;obtain⟨its,rv,pl,_⟩:=I.list g;have hne:a≠it:=fun e=>by subst e;exact absurd (PL h2 h1) (Nat.lt_irrefl _)
  refine⟨[it,a],fun i v=>its.toArray[i]?=some v,fun i h=>h.IsListIter it a i/\h.IsList a its.toArray,by simp,fun c hc=>?_,fun i st=>⟨st,pl.isList⟩,fun i h st=>st.1,fun i u hu=>?_,fun A hh=>?_⟩
  .simp only[Po,PB,or_false]at hc
   exact hc.imp id fun e=>by rw[e];exact h2
  .have hu:its[i]?=some u:=by simpa using hu
   have hi:i<xs.length:=by
    have:=rv.length;have:=(List.getElem?_eq_some_iff.mp hu).1;lia
   obtain⟨u',hu',r⟩:=rv.get (Ph hi);rw[hu]at hu';cases hu';exact⟨_,Ph hi,r⟩
  .have D:=Draws.list (prog:=X.prog) (w:=X.w) hh it a hne its.toArray
   rw[show its.toArray.size=xs.length by simp[rv.length]]at D;exact D
theorem GR{P:P0}{w:P4}{K:W.Frag}{base it a:PY}{xs:List V}(h1: @LE.le Nat _ base it)(h2: @LT.lt Nat _ a base):Src P w K base it xs (fun i h=>h.IsTupleIter it a i) (fun H=>gL K H a xs)where
 obj:=fun i h st=>by
  obtain⟨o,e,_,d⟩:=st;exact⟨o,e,fun v z=>by rw[d]at z;cases z⟩
 keep:=fun i h h' st k=>st.at k
 dr:=by
  intro X hP hw hK pins σ H s I g;subst hP hw hK;obtain⟨its,rv,pl,_⟩:=I.tuple g;have hne:a≠it:=fun e=>by subst e;exact absurd (PL h2 h1) (Nat.lt_irrefl _)
  refine⟨[it,a],fun i v=>its.toArray[i]?=some v,fun i h=>h.IsTupleIter it a i/\h.IsTuple a its.toArray,by simp,fun c hc=>?_,fun i st=>⟨st,pl⟩,fun i h st=>st.1,fun i u hu=>?_,fun A hh=>?_⟩
  .simp only[Po,PB,or_false]at hc
   exact hc.imp id fun e=>by rw[e];exact h2
  .have hu:its[i]?=some u:=by simpa using hu
   have hi:i<xs.length:=by
    have:=rv.length;have:=(List.getElem?_eq_some_iff.mp hu).1;lia
   obtain⟨u',hu',r⟩:=rv.get (Ph hi);rw[hu]at hu';cases hu';exact⟨_,Ph hi,r⟩
  .have D:=DL (prog:=X.prog) (w:=X.w) hh its.toArray hne
   rw[show its.toArray.size=xs.length by simp[rv.length]]at D;exact D
def Fh(xs ys:List V)(G1 G2:Hp->Prop):It:=
 ⟨fun i H=>i<min xs.length ys.length/\G1 H/\G2 H,fun i H x H'=>∃t v u,H t=none/\x= .ref t/\xs[i]?=some v/\ys[i]?=some u/\H'=upd H t (.tup [v,u]),fun i H=>i=min xs.length ys.length/\G1 H/\G2 H⟩
theorem Br{P:P0}{w:P4}{K:W.Frag}{elts:List Expr}{k:Nat}{pos:Pos}{base z TI TO i1 i2:PY}{xs ys:List V}{T1 T2:Nat->Qd->Prop}{G1 G2:Hp->Prop}(s1:Src P w K base i1 xs T1 G1)(s2:Src P w K base i2 ys T2 G2)
  (nd:[z,TI,TO,i1,i2].Nodup) (ge:∀c∈[z,TI,TO,i1,i2],@LE.le Nat _ base c):
  Turn P w K (.Tuple elts k pos) (Fh xs ys G1 G2) [z,TI,TO,i1,i2] z (fun i h=>IsZip h z TI TO .none/\IsPair h TI (.ref i1) (.ref i2)/\(∃x y,IsPair h TO x y)/\T1 i h/\T2 i h)where
 mem:=by simp
 obj:=fun i h st c hc=>by
  obtain⟨hz,hTI,⟨x,y,hTO⟩,h1,h2⟩:=st;simp only[Po,PB,or_false]at hc;rcases hc with rfl|rfl|rfl|rfl|rfl
  .exact⟨_,hz,fun v z=>by cases z⟩
  .exact⟨_,hTI,fun v z=>by cases z⟩
  .exact⟨_,hTO,fun v z=>by cases z⟩
  .exact s1.obj _ _ h1
  .exact s2.obj _ _ h2
 keep:=fun i h h' st kk=>by
  obtain⟨hz,hTI,⟨x,y,hTO⟩,h1,h2⟩:=st;exact⟨kk z (by simp) _ hz,kk TI (by simp) _ hTI,⟨x,y,kk TO (by simp) _ hTO⟩,s1.keep _ _ _ h1 fun o q=>kk i1 (by simp) o q,s2.keep _ _ _ h2 fun o q=>kk i2 (by simp) o q⟩
 item:=by
  intro X hP hw hK hc i pins s σ H E I hf st hg;obtain⟨hi,hq1,hq2⟩:=hg;obtain⟨f1,P1,S1,m1,b1,a1,c1,r1,D1⟩:=s1.dr X hP hw hK pins σ H s I hq1;obtain⟨f2,P2,S2,m2,b2,a2,c2,r2,D2⟩:=s2.dr X hP hw hK pins σ H s I hq2;obtain⟨hz,hTI,⟨q1,q2,hTO⟩,h1,h2⟩:=st;simp only[List.nodup_cons,Po,PB,or_false,not_or,List.nodup_nil,and_true,not_false_eq_true]at nd;have no1:∀c∈[z,TI,TO,i1,i2],c≠i1->c∉f1:=fun c hc hne hm=>(b1 c hm).elim hne fun l=>absurd (PL l (ge c hc)) (Nat.lt_irrefl _);have no2:∀c∈[z,TI,TO,i1,i2],c≠i2->c∉f2:=fun c hc hne hm=>(b2 c hm).elim hne fun l=>absurd (PL l (ge c hc)) (Nat.lt_irrefl _);have ap:vJ z TI TO i1 i2 f1 f2:=⟨fun e=>nd.1.1 e.symm,fun e=>nd.1.2.1 e.symm,nd.2.1.1,no1 z (by simp) nd.1.2.2.1,no2 z (by simp) nd.1.2.2.2,no1 TO (by simp) nd.2.2.1.1,no2 TO (by simp) nd.2.2.1.2,m1,m2,no2 i1 (by simp) nd.2.2.2,no1 i2 (by simp) (fun e=>nd.2.2.2 e.symm),nd.2.1.2.1,nd.2.1.2.2⟩;have hhan:X.A.handled=none:=I.ok.hd hc;have hT:s.TypeIs (.ref z) "zip" :=⟨_,hz,rfl⟩;unfold pyNext;subst hP hw;refine P8 (wpAny_attempt (wpAny_callSpecial?_slot (name:=Pd "__next__") hT F.slot_zip_next (wpAny_call_entry F.slot_zip_next hT F.entry_zip_next (CD (fun A' e=>D1 A' (e.trans hhan)) (fun A' e=>D2 A' (e.trans hhan)) ap hz hTI hTO (a1 _ h1) (a2 _ h2) (by lia) (by lia) fun x y h' tk px py hz' hTO' h1' h2' hpT hsz hk=>?_) (F.args_zip_next_1 _))));refine P9 ⟨_,rfl,?_⟩;obtain⟨v1,e1,rv1⟩:=r1 _ _ px;obtain⟨v2,e2,rv2⟩:=r2 _ _ py;refine wpAny_letOwnedTupleGo_zip hz' fun h'' hz2 sb=>?_;have lt:∀{c o},s.heap.get? c=some o->c≠s.heap.objs.size:=fun e=>PM (Qd.lt_size e);have iz1:i1≠z:=fun e=>nd.1.2.2.1 e.symm;have iz2:i2≠z:=fun e=>nd.1.2.2.2 e.symm;have kk:∀c o,c∉[z,TI,TO,i1,i2]->s.heap.get? c=some o->h''.get? c=some o:=fun c o hc e=>by
   simp only[Po,PB,or_false,not_or]at hc;exact sb.extBut _ _ hc.1 (hk c o hc.1 hc.2.2.1 hc.2.2.2.1 hc.2.2.2.2 e)
  have I1:Inv X pins σ H {s with heap:=h'',toks:=tk}:=I.qQ (fp:=[z,TI,TO,i1,i2]) (fun b o hb q=>kk b o hb q) hf;have fT:kj X pins H s.heap.objs.size:=I.qy (PK _) (I.aX.fresh (PK _));have hT'':IsTup h'' s.heap.objs.size #[x,y]:=⟨_,sb.extBut _ _ (fun e=>lt hz e.symm) hpT,rfl,_,rfl⟩;have hTI2:IsPair h'' TI (.ref i1) (.ref i2):=sb.extBut _ _ (fun e=>nd.1.1 e.symm) (hk TI _ (fun e=>nd.1.1 e.symm) nd.2.1.1 nd.2.1.2.1 nd.2.1.2.2 hTI);refine⟨.ref s.heap.objs.size,upd H s.heap.objs.size (.tup [v1,v2]),I1.xS fT ⟨(by show 2<=P6;decide),[x,y],.cons rv1 (.cons rv2 .nil),hT''⟩,rfl,⟨_,v1,v2,fT.1,rfl,e1,e2,rfl⟩,⟨hz2,hTI2,⟨x,y,sb.extBut _ _ (fun e=>nd.1.2.1 e.symm) hTO'⟩,s1.keep _ _ _ (c1 _ _ h1') fun o e=>sb.extBut _ _ iz1 e,s2.keep _ _ _ (c2 _ _ h2') fun o e=>sb.extBut _ _ iz2 e⟩,fun c hc=>?_⟩;have hcT:c≠s.heap.objs.size:=by
   have hcc:=hc;simp only[Po,PB,or_false]at hcc;rcases hcc with e|e|e|e|e
   .rw[e];exact lt hz
   .rw[e];exact lt hTI
   .rw[e];exact lt hTO
   .obtain⟨o,q,_⟩:=s1.obj _ _ h1;rw[e];exact lt q
   .obtain⟨o,q,_⟩:=s2.obj _ _ h2;rw[e];exact lt q
  rw[ao hcT];exact(hf c hc).1
 done:=by
  intro X hP hw hK hc i pins s σ H E I hf st hg;obtain⟨hi,hq1,hq2⟩:=hg;obtain⟨f1,P1,S1,m1,b1,a1,c1,r1,D1⟩:=s1.dr X hP hw hK pins σ H s I hq1;obtain⟨f2,P2,S2,m2,b2,a2,c2,r2,D2⟩:=s2.dr X hP hw hK pins σ H s I hq2;obtain⟨hz,hTI,⟨q1,q2,hTO⟩,h1,h2⟩:=st;simp only[List.nodup_cons,Po,PB,or_false,not_or,List.nodup_nil,and_true,not_false_eq_true]at nd;have no1:∀c∈[z,TI,TO,i1,i2],c≠i1->c∉f1:=fun c hc hne hm=>(b1 c hm).elim hne fun l=>absurd (PL l (ge c hc)) (Nat.lt_irrefl _);have no2:∀c∈[z,TI,TO,i1,i2],c≠i2->c∉f2:=fun c hc hne hm=>(b2 c hm).elim hne fun l=>absurd (PL l (ge c hc)) (Nat.lt_irrefl _);have ap:vJ z TI TO i1 i2 f1 f2:=⟨fun e=>nd.1.1 e.symm,fun e=>nd.1.2.1 e.symm,nd.2.1.1,no1 z (by simp) nd.1.2.2.1,no2 z (by simp) nd.1.2.2.2,no1 TO (by simp) nd.2.2.1.1,no2 TO (by simp) nd.2.2.1.2,m1,m2,no2 i1 (by simp) nd.2.2.2,no1 i2 (by simp) (fun e=>nd.2.2.2 e.symm),nd.2.1.2.1,nd.2.1.2.2⟩;have hhan:X.A.handled=none:=I.ok.hd hc;have hT:s.TypeIs (.ref z) "zip" :=⟨_,hz,rfl⟩;unfold pyNext;subst hP hw;refine P8 (wpAny_attempt (wpAny_callSpecial?_slot (name:=Pd "__next__") hT F.slot_zip_next (wpAny_call_entry F.slot_zip_next hT F.entry_zip_next (Gf (fun A' e=>D1 A' (e.trans hhan)) (fun A' e=>D2 A' (e.trans hhan)) ap hz hTI hTO (a1 _ h1) (a2 _ h2) hi fun h' e tk hk he=>?_) (F.args_zip_next_1 _))));obtain⟨o,ho,hcl⟩:=he;refine P8 (wpAny_isInstance (T:= "StopIteration") (b:=true) ⟨o,ho,hcl⟩ isSubtype_stop ?_);exact P9 ⟨rfl,I.qQ (fp:=[z,TI,TO,i1,i2]) (fun b o hb q=>by
   simp only[Po,PB,or_false,not_or]at hb;exact hk b o hb.1 hb.2.2.1 hb.2.2.2.1 hb.2.2.2.2 q) hf⟩
 self:=fun A i s Q E st hQ=>wpAny_pyIter_zip st.1 hQ
theorem I0(n:Nat):[n+4,n+2,n+3,n,n+1].Nodup:=by
 simp only[List.nodup_cons,Po,PB,or_false,not_or,List.nodup_nil,and_true,not_false_eq_true];lia
section
variable{prog:P0}{w:P4}{A:P5}{E:PX->PZ->Prop}{s:PZ}
theorem wH(l1 l2:PY)(xs ys:Array PX):
  Meets (Qi.«zip.__new__» ⟨[.type "zip",.ref l1,.ref l2],[]⟩) (fun _ R s=>s.heap.IsTuple l1 xs/\s.heap.IsList l2 ys/\
   R (.ok (.ret (.ref (s.heap.objs.size+4)))) {s with heap:=((((s.heap.push {cls:= .type "tuple_iterator",data:= .fields #[.ref l1,.int 0 0]}).push {cls:= .type "list_iterator",data:= .fields #[.ref l2,.int 0 0]}).push {cls:= .type "tuple",data:= .seq #[.ref s.heap.objs.size,.ref (s.heap.objs.size+1)]}).push {cls:= .type "tuple",data:= .seq #[.none,.none]}).push {cls:= .type "zip",data:= .fields #[.none,.bool false,.bool false,.ref (s.heap.objs.size+2),.ref (s.heap.objs.size+3)]}}):=
 .of_wp fun prog w A R s h=>by
  obtain⟨hp,g,d,tk,os⟩:=s;obtain⟨hl1,hl2,h⟩:=h;have hsub:=sub_zip;have hL1:Qd.IsTuple (PZ.heap ⟨hp,g,d,tk,os⟩) l1 xs:=hl1;have hL2:Qd.IsList (PZ.heap ⟨hp.push {cls:= .type "tuple_iterator",data:= .fields #[.ref l1,.int 0 0]},g,d,tk,os⟩) l2 ys:=Qd.IsList.push hl2 _;simp only[Qd.size_push]at h
  wp_walk using wpAny_pyIter_tuple hL1,wpAny_pyIter_list hL2
  simp only[Qd.size_push,Nat.add_assoc];exact⟨_,rfl,h⟩
end
section
variable{prog:P0}{w:P4}{A:P5}{E:PX->PZ->Prop}{s:PZ}
theorem xZ{l1 l2:PY}{xs ys:Array PX}{Q:PX->PZ->Prop}(hl1:s.heap.IsTuple l1 xs)(hl2:s.heap.IsList l2 ys)
  (h:∀h',IsZip h' (s.heap.objs.size+4) (s.heap.objs.size+2) (s.heap.objs.size+3) .none->IsPair h' (s.heap.objs.size+2) (.ref s.heap.objs.size) (.ref (s.heap.objs.size+1))->
   IsPair h' (s.heap.objs.size+3) .none .none->h'.IsTupleIter s.heap.objs.size l1 0->h'.IsListIter (s.heap.objs.size+1) l2 0->
   (∀c o,s.heap.get? c=some o->h'.get? c=some o)->Q (.ref (s.heap.objs.size+4)) {s with heap:=h'}):
  Qf (model prog w) A (call (.type "zip") [.ref l1,.ref l2]) Q E s:=by
 refine callType_new F.called_zip (by decide) (F.typeCall_zip_2 _ _) (F.newCall_zip_2 _ _) (fun obj=>F.args_object_init_3 obj _ _) F.entry_zip_new
  (wH l1 l2 xs ys) ⟨hl1,hl2,?_⟩
 have up:∀(h:Qd)(o:Obj) c x,h.get? c=some x->(h.push o).get? c=some x:=fun h o c x e=>Qd.get?_push_of_some _ e;have at0:∀(h:Qd)(o:Obj)(n:Nat),h.objs.size=n->o.isFreed=false->(h.push o).get? n=some o:=fun h o n e f=>by rw[←e];exact Qd.get?_push_size _ f
 generalize hg:((((s.heap.push {cls:= .type "tuple_iterator",data:= .fields #[.ref l1,.int 0 0]}).push {cls:= .type "list_iterator",data:= .fields #[.ref l2,.int 0 0]}).push {cls:= .type "tuple",data:= .seq #[.ref s.heap.objs.size,.ref (s.heap.objs.size+1)]}).push {cls:= .type "tuple",data:= .seq #[.none,.none]}).push {cls:= .type "zip",data:= .fields #[.none,.bool false,.bool false,.ref (s.heap.objs.size+2),.ref (s.heap.objs.size+3)]}=g;have z4:IsZip g (s.heap.objs.size+4) (s.heap.objs.size+2) (s.heap.objs.size+3) .none:=by
  rw[←hg];exact at0 _ _ _ (by simp only[Qd.size_push]) rfl
 have z3:IsPair g (s.heap.objs.size+3) .none .none:=by
  rw[←hg];exact up _ _ _ _ (at0 _ _ _ (by simp only[Qd.size_push]) rfl)
 have z2:IsPair g (s.heap.objs.size+2) (.ref s.heap.objs.size) (.ref (s.heap.objs.size+1)):=by
  rw[←hg];exact up _ _ _ _ (up _ _ _ _ (at0 _ _ _ (by simp only[Qd.size_push]) rfl))
 have z1:g.IsListIter (s.heap.objs.size+1) l2 0:=by
  rw[←hg];exact⟨_,up _ _ _ _ (up _ _ _ _ (up _ _ _ _ (at0 _ _ _ (by simp only[Qd.size_push]) rfl))),rfl,rfl⟩
 have z0:g.IsTupleIter s.heap.objs.size l1 0:=by
  rw[←hg];exact⟨_,up _ _ _ _ (up _ _ _ _ (up _ _ _ _ (up _ _ _ _ (at0 _ _ _ rfl rfl)))),rfl,rfl⟩
 have kk:∀c o,s.heap.get? c=some o->g.get? c=some o:=fun c o e=>by
  rw[←hg];exact up _ _ _ _ (up _ _ _ _ (up _ _ _ _ (up _ _ _ _ (up _ _ _ _ e))))
 exact⟨⟨_,z4,rfl⟩,h _ z4 z2 z3 z0 z1 kk⟩
end
def Mp(K:W.Frag)(ta:TA):TI:=fun σ H R=>ta σ H fun vs H1=>∃(a b:PY)(xs ys:List V),vs=[.ref a,.ref b]/\gL K H1 a xs/\aI K H1 b ys/\R (Fh xs ys (fun H=>gL K H a xs) (fun H=>aI K H b ys)) H1
theorem Cb{X:Cx}{K:W.Frag}{e e2:Expr}{ta:TA}{p pos:Pos}{kk:Nat}{elts:List Expr}{tp:Pos}(hK:X.K=K)(hg:Gl X "zip")(hm:X.mg "zip" =none)(ha:PA X [e,e2] ta)
  (hs:Qb [e,e2] X.env=(false,eval e X.env)::Qb [e2] X.env:=by rfl) (hpl:(Qe pos (Qb [e2] X.env)).any (·.1)=false:=by rfl):
  PI X (.Tuple elts kk tp) (.Call (.Name "zip" p) [e,e2] [] pos) (Mp K ta):=by
 subst hK;intro pins s σ H R I h;refine Call_ (kL I hg hm (by decide+kernel:bootBuiltins "zip" =some (.type "zip")) (PyProof.Rows.callWith_type1 (bf (ha pos pins s σ H _ I h) fun us s2 ⟨vs,H2,I2,r1,a,b,xs,ys,e1,hq1,hq2,hR⟩=>?_) hs hpl) (by decide+kernel) (by decide+kernel));subst e1;obtain⟨u,u2,rfl,ru,ru2⟩:=vals2 r1;cases ru;cases ru2;obtain⟨its,rv,pl,_⟩:=I2.tuple hq1;obtain⟨jts,rv2,pl2,_⟩:=I2.list hq2;refine xZ (show s2.heap.IsTuple a its.toArray from pl) pl2.isList fun h' z0 t0 o0 i10 i20 k0=>?_;have lta: @LT.lt Nat _ a s2.heap.objs.size:=by obtain⟨o,e,_⟩:=pl;exact Qd.lt_size e
 have ltb: @LT.lt Nat _ b s2.heap.objs.size:=by obtain⟨o,n,e,_⟩:=pl2;exact Qd.lt_size e
 refine wpAny_pyIter_zip z0 ?_;have le:∀c∈[s2.heap.objs.size+4,s2.heap.objs.size+2,s2.heap.objs.size+3,s2.heap.objs.size,s2.heap.objs.size+1],@LE.le Nat _ s2.heap.objs.size c:=fun c hc=>by
  simp only[Po,PB,or_false]at hc;rcases hc with e|e|e|e|e<;>rw[e]
  .exact Nat.le_add_right _ _
  .exact Nat.le_add_right _ _
  .exact Nat.le_add_right _ _
  .exact PK _
  .exact Nat.le_add_right _ _
 exact⟨s2.heap.objs.size+4,[s2.heap.objs.size+4,s2.heap.objs.size+2,s2.heap.objs.size+3,s2.heap.objs.size,s2.heap.objs.size+1],_,_,H2,rfl,I2.kept (t':=s2.toks) k0,
  Br (GR (le _ (by simp)) lta) (src_list (le _ (by simp)) ltb) (I0 _) le,⟨z0,t0,⟨_,_,o0⟩,i10,i20⟩,fun c hc=>I2.qy (le c hc) (I2.aX.fresh (le c hc)),hR⟩
open PySem PySem.Spec PyProof.Rows PySem.SeqAt
inductive qk(pr:Params):List DictEntry->List (Str×PY)->Prop
 |nil:qk pr [] []
 |cons {x:Str} {b:PY} {t:Tok} {es:List DictEntry} {ps:List (Str×PY)}:qk pr es ps->qk pr ({hash:=PyData.keyHash pr x,key:= .str x t,val:= .ref b}::es) ((x,b)::ps)
structure KTab(K:W.Frag)(pr:Params)(a:PY)(ps:List (Str×PY)):Prop where
 sys:(a==sysModules)=false
 nd:(ps.map (·.1)).Nodup
 ex:∃(es:List DictEntry)(ep:Nat),K.lookup a=some {cls:= .type "dict",data:= .dict es.toArray ep}/\qk pr es ps
def HV(ps:List (Str×PY)):List (Key×V):=ps.map fun p=>(Sum.inr p.1,V.ref p.2)
def tabOf(ps:List (Str×PY))(k:Str):Option PY:=(ps.find? fun p=>p.1=k).map (·.2)
theorem wW(ps:List (Str×PY))(k:Str):cQ (HV ps) (Sum.inr k:Key)=(tabOf ps k).map V.ref:=by
 unfold HV tabOf cQ
 induction ps with
 |nil=>rfl
 |cons p t ih=>
  rw[Pm,List.find?_cons,List.find?_cons];by_cases h:p.1=k
  .have:decide ((Sum.inr p.1:Key)=Sum.inr k)=true:=decide_eq_true (by rw[h])
   simp only[this,h,decide_true];rfl
  .have:decide ((Sum.inr p.1:Key)=Sum.inr k)=false:=decide_eq_false fun z=>h (Sum.inr.inj z)
   simp only[this,decide_eq_false h];exact ih
theorem Hg(ps:List (Str×PY))(k:Str):(tabOf ps k).isSome=decide (k∈ps.map (·.1)):=by
 unfold tabOf;rw[Option.isSome_map]
 induction ps with
 |nil=>rfl
 |cons p t ih=>
  rw[List.find?_cons];by_cases h:p.1=k
  .simp[h]
  .rw[decide_eq_false h]
   show(t.find? _).isSome=_;rw[ih,Pm,Bool.eq_iff_iff,decide_eq_true_eq,decide_eq_true_eq,Po];exact⟨.inr,fun z=>z.resolve_left fun z=>h z.symm⟩
section
variable{X:Cx}{K:W.Frag}
theorem qk.go {pr:Params}{P:P0}{w:P4}(hp:w.params=pr):∀{es:List DictEntry}{ps:List (Str×PY)},qk pr es ps->∃vs:List (Key×PX),KV (HV ps) vs/\(∀e∈es,∃k,(bB P w).is k e.key=true/\e.hash=(bB P w).hash k)/\Pairs (bB P w) es vs/\vs.map (·.1)=ps.map fun p=>Sum.inr p.1
 |_,_,.nil=>⟨[],.nil,by simp,.nil,rfl⟩
 |_,_,.cons (x:=x) (b:=b) (t:=t) r=>by
  obtain⟨vs,h1,h2,h3,h4⟩:=qk.go (P:=P) hp r;have hi:(bB P w).is (Sum.inr x) (PX.str x t)=true:=by
   show PX.isStrOf x (PX.str x t)=true;simp[PX.isStrOf]
  refine⟨(Sum.inr x,.ref b)::vs,?_,?_,.cons hi rfl h3,by rw[Pm,h4];rfl⟩
  .exact Paired.cons ⟨rfl,rfl⟩ h1
  .intro e he
   rcases List.mem_cons.mp he with rfl|he
   .refine⟨Sum.inr x,hi,?_⟩
    subst hp;rfl
   .exact h2 e he
theorem KTab.dict {pins:List (PY×Obj)}{σ:St}{H:Hp}{s:PZ}{a:PY}{ps:List (Str×PY)}(k:KTab X.K X.w.params a ps)(I:Inv X pins σ H s):∃vs:List (Key×PX),KV (HV ps) vs/\s.heap.DictOf (bB X.prog X.w) a vs:=by
 obtain⟨es,ep,hl,ht⟩:=k.ex;obtain⟨vs,h1,h2,h3,h4⟩:=qk.go (P:=X.prog) (w:=X.w) rfl ht;refine⟨vs,h1,_,es.toArray,ep,I.jD a _ hl,⟨rfl,rfl,rfl⟩,rfl,fun e he=>h2 e (by simpa using he),by simpa using h3,?_⟩;rw[h4];have:=k.nd;rw[show(ps.map fun p=>(Sum.inr p.1:Key))=(ps.map (·.1)).map Sum.inr by rw[Pp];rfl];exact this.map _ fun x y h e=>h (Sum.inr.inj e)
def HP(a:PY)(ps:List (Str×PY))(ty td:TE):TE:=fun σ H Q=>ty σ H fun y H1=>td σ H1 fun x H2=>∃k,x= .ref a/\y= .str k/\Q (.bl (!(tabOf ps k).isSome)) H2
theorem DM{i o:Expr}{ty td:TE}{a:PY}{ps:List (Str×PY)}(kt:KTab X.K X.w.params a ps)(hi:PE X i ty)(ho:PE X o td):PC X .NotIn i o (HP a ps ty td):=by
 intro pins s σ H Q I h;refine bf (hi pins s σ H _ I h) fun iv s1 ⟨y,H1,I1,ry,q1⟩=>bf (ho pins s1 σ H1 _ I1 q1) fun u s2 ⟨x,H2,I2,rx,k,ex,ey,q2⟩=>?_;subst ex;subst ey;obtain rfl:u=PX.ref a:=rx;obtain⟨vs,rel,dd⟩:=kt.dict I2;refine wpAny_notIn_of (mO (k:=Sum.inr k) ry) kt.sys dd.mapOf ?_;rw[←(rel.val (Sum.inr k)).hJ,wW,Option.isSome_map];exact⟨.bl _,H2,I2.tok _,rfl,q2⟩
def K8(a:PY)(ps:List (Str×PY))(ty td:TE):TE:=fun σ H Q=>ty σ H fun y H1=>td σ H1 fun x H2=>∃k,x= .ref a/\y= .str k/\Q (.bl (tabOf ps k).isSome) H2
theorem Fq{i o:Expr}{ty td:TE}{a:PY}{ps:List (Str×PY)}(kt:KTab X.K X.w.params a ps)(hi:PE X i ty)(ho:PE X o td):PC X .In i o (K8 a ps ty td):=by
 intro pins s σ H Q I h;refine bf (hi pins s σ H _ I h) fun iv s1 ⟨y,H1,I1,ry,q1⟩=>bf (ho pins s1 σ H1 _ I1 q1) fun u s2 ⟨x,H2,I2,rx,k,ex,ey,q2⟩=>?_;subst ex;subst ey;obtain rfl:u=PX.ref a:=rx;obtain⟨vs,rel,dd⟩:=kt.dict I2;refine wpAny_in_of (mO (k:=Sum.inr k) ry) kt.sys dd.mapOf ?_;rw[←(rel.val (Sum.inr k)).hJ,wW,Option.isSome_map];exact⟨.bl _,H2,I2.tok _,rfl,q2⟩
def Ie(a:PY)(ps:List (Str×PY))(td ty:TE):TE:=fun σ H Q=>td σ H fun x H1=>ty σ H1 fun y H2=>∃k b,x= .ref a/\y= .str k/\tabOf ps k=some b/\Q (.ref b) H2
theorem oZ{i o:Expr}{ty td:TE}{a:PY}{pos:Pos}{ps:List (Str×PY)}(kt:KTab X.K X.w.params a ps)(ho:PE X o td)(hi:PE X i ty)(hs:K9 i):PE X (.Subscript o i pos) (Ie a ps td ty):=by
 intro pins s σ H Q I h;refine B4 PySem.F.slot_dict_getitem.lookup hs (bf (ho pins s σ H _ I h) fun u s1 ⟨x,H1,I1,rx,q1⟩=>bf (hi pins s1 σ H1 _ I1 q1) fun iv s2 ⟨y,H2,I2,ry,k,b,ex,ey,g,q2⟩=>?_);subst ex;subst ey;obtain rfl:u=PX.ref a:=rx;obtain⟨vs,rel,dd⟩:=kt.dict I2;obtain⟨w',hw,rw'⟩:=ji.some_of (v:= .ref b) (o:=valueAt vs (Sum.inr k)) (by
  have e:=rel.val (Sum.inr k);rw[wW,g]at e;exact e)
 exact⟨dd.typeIs,wpAny_getItem_of (mO (k:=Sum.inr k) ry) dd.mapOf hw ⟨.ref b,H2,I2.tok _,rw',q2⟩⟩
end
theorem BR:∀{us:List PX}{xs:List Str},StrsAre us xs->Vals (xs.map V.str) us
 |_,_,.nil=> .nil
 |_,_,.cons x t r=> .cons ⟨t,rfl⟩ (BR r)
section
variable{prog:P0}{w:P4}{A:P5}{E:PX->PZ->Prop}
theorem yi{S:PZ}{T:String}{r d:PY}{n:Nat}{P:Nat->PX->Prop}{OK:Qd->Prop}{Q:List PX->PZ->Prop}(src:W.KdlSrc prog w T r d n P OK)(hh:A.handled=none)(aX:OK S.heap)(hz:n<=P6)
  (q:∀h' tk(acc:Array PX),(∀b o,S.heap.get? b=some o->h'.get? b=some o)->S.heap.objs.size<=h'.objs.size->ItemsOf P acc n->Q acc.toList {S with heap:=h',toks:=tk}):Qf (model prog w) A (collect (.ref r)) Q E S:=by
 have hS:(S.heap.push (seqObj "list" #[] 0)).get? S.heap.objs.size=some (seqObj "list" #[] 0):=Qd.get?_push_size _ rfl;have lt:=src.there _ aX;have ok:OK (S.heap.push (seqObj "list" #[] 0)):=src.keep _ _ aX fun b _ o e=>Qd.get?_push_of_some _ e;unfold collect;refine P8 (wpAny_runValue (codeAny_builtin entry_proto_collect' ?_));refine P8 (wpAny_newList (P9 ⟨Code.quiet_builtin _ (by decide+kernel),codeAny_builtin entry_list_iadd' ?_⟩));rw[P5.under_plainId (show plainId "list.__iadd__" =true by decide+kernel) _];refine W.kdl_extend (R:=fun r s'=>match r with
  | .ok (.ret v)=>Qf (model prog w) A (match v with
   | .ref a=>(do
    let o←load a
    match o.data with
    | .seq xs _=>pure xs.toList
    |_=>unsupported "internal:collect")
   |_=>unsupported "internal:collect") Q E s'
  | .ok _=>False
  | .error e=>E e s') (s:={S with heap:=S.heap.push (seqObj "list" #[] 0)}) src hh ok S.heap.objs.size (Nat.ne_of_gt lt.1) (Nat.ne_of_gt lt.2) (.ref S.heap.objs.size) 0 hS (fun h' tk acc c k1 k2 hit=>?_) hz
 refine P8 (wpAny_load k2 ?_);exact P9 (q h' tk acc (fun b o eb=>k1 b o (PM (Qd.lt_size eb)) (Qd.get?_push_of_some _ eb)) (Nat.le_of_lt (Qd.lt_size k2)) hit)
theorem wX{β:Type}{S:PZ}{us:List PX}{xs:List Str}{Q:β->PZ->Prop}{k:PX->Sem β}(h64:us.length<64)(hr:StrsAre us xs)
  (q:∀(out:List PX)(xs':List Str),StrsAre out xs'->xs'.Perm xs->sortedS xs'=true->∀h' n,(∀b o,S.heap.get? b=some o->h'.get? b=some o)->h'.get? S.heap.objs.size=some {cls:= .type "list",data:= .seq out.toArray n}->Qf (model prog w) A (k (.ref S.heap.objs.size)) Q E {S with heap:=h'}):
  Qf (model prog w) A (newList us>>=fun l=>holding [l] (call (.builtin "list.sort") [l])>>=fun _=>k l) Q E S:=by
 have hL:(S.heap.push (seqObj "list" us.toArray 0)).get? S.heap.objs.size=some (seqObj "list" us.toArray 0):=Qd.get?_push_size _ rfl;refine P8 (wpAny_newList ?_);refine P8 (wpAny_holding (wpAny_call_entry slot_list_sort ⟨_,hL,rfl⟩ entry_list_sort (list_sort_treeK (s:={S with heap:=S.heap.push (seqObj "list" us.toArray 0)}) strKind_oneLt hL hr.keysOf (fun v₁ v₂ rest e=>keyKind_strs (by rw[←e];exact hr)) h64 fun st' hp hs=>⟨_,rfl,?_⟩) (args_list_sort _)));obtain⟨xs',h1,h2,h3⟩:=sorted_out_str hr hp hs;obtain⟨e,he⟩:=sortedHeap_at (vs:=us) (out:=(arrOf st').map (·.2)) (n:=0) hL;refine q ((arrOf st').map (·.2)).toList xs' h1 h2 h3 _ e (fun b o hb=>?_) (by rw[Array.toArray_toList];exact he);have hlt:=Qd.lt_size hb;rw[sortedHeap_old (PM hlt) (by rw[size_push'];exact Nat.lt_succ_of_lt hlt)];exact Qd.get?_push_of_some _ hb
end
section
variable{X:Cx}{K:W.Frag}
def K6:List V->Hp->VK->Prop:=fun xs H Q=>∃(a:PY)(kvs:List (Key×V))(ks:List Str),xs=[.ref a]/\H a=some (.dK kvs)/\kvs.map (·.1)=ks.map Sum.inr/\kvs.length<64/\∀(l:PY)(ks':List Str),H l=none->ks'.Perm ks->sortedS ks'=true->Q (.ref l) (upd H l (.lst (ks'.map V.str)))
theorem nP(hc:X.calm=true):bZ X (.builtin "sorted") K6:=by
 intro pins s σ H xs us Q I r h;obtain⟨a,kvs,ks,rfl,ha,hk,hz,q⟩:=h;obtain⟨u,rfl,ru⟩:=vals1 r;cases ru;obtain⟨z,hd,vs,rel,dd⟩:=yx I.aX ha;have len:=rel.length;have big:(10000000:Nat)<=P6:=by decide
 obtain⟨ep,hat⟩:=dd.dictAt;have ek:vs.map (·.1)=ks.map Sum.inr:=by rw[←hk];exact rel.keys.symm
 refine Calls.call_function_entry kind_sorted plain_sorted entry_sorted (args_sorted1 _) ?_;unfold Qi.«sorted»;refine P8 (m:=checkCount "sorted" 1 1 _) (P9 ?_);refine P8 (yi (A:=X.A.in1) (W.kdl_dict (prog:=X.prog) (w:=X.w) (knd:=bB X.prog X.w) (d:=a) (kvs:=vs) (ep:=ep) hd) (I.ok.hd hc) hat (by lia) fun h' tk acc k1 le it=>?_);have sa:StrsAre acc.toList ks:=by
  have hl:acc.toList.length=ks.length:=by
   have e1:=congrArg List.length ek;simp only[Pe]at e1;rw[Array.length_toList,it.1,e1]
  have hj:∀(j:Nat)(v:PX),acc.toList[j]?=some v->∃(k:Str)(t:Tok),ks[j]?=some k/\v= .str k t:=fun j v hv=>by
   obtain⟨k,x,e1,e2⟩:=it.2 j v (by rw[←Array.getElem?_toList];exact hv);have e3:(vs.map (·.1))[j]?=some k:=by rw[Pf,e1];rfl
   rw[ek,Pf]at e3
   cases e4:ks[j]? with
   |none=>rw[e4]at e3;cases e3
   |some y=>
    rw[e4]at e3;cases e3;rcases bQ (show qc (Sum.inr y) v=true from e2)with⟨i,t,e5,e6⟩|⟨y',t,e5,e6⟩
    .exact nomatch e5
    .cases e5
     exact⟨_,t,rfl,e6⟩
  clear q hk ek ha it;revert hl hj;generalize acc.toList=l;intro hl hj
  induction l generalizing ks with
  |nil=>cases ks with
   |nil=>exact .nil
   |cons _ _=>cases hl
  |cons v l ih=>cases ks with
   |nil=>cases hl
   |cons k ks=>
    obtain⟨k',t,e1,e2⟩:=hj 0 v rfl;cases e1;subst e2;exact .cons k t (ih ks (by simpa using hl) fun j v hv=>hj (j+1) v hv)
 refine wX (S:={s with heap:=h',toks:=tk}) (by rw[Array.length_toList,it.1];lia) sa fun out ks' h1 h2 h3 h4 n k2 k3=>?_;refine P9 ⟨_,rfl,?_⟩;have pl:=h2.length_eq;have e1:=congrArg List.length hk;simp only[Pe]at e1;exact⟨.ref _,_,I.laid (o:= .lst (ks'.map V.str)) (t':=tk) (fun b ob e=>k2 _ _ (k1 _ _ e)) le ⟨by rw[Pe];lia,out,n,BR h1,k3⟩,rfl,q _ ks' (I.aX.fresh le) h2 h3⟩
end
def mem(s:Stmt)(j:Nat):Stmt:=match s with
 | .ClassDef _ _ _ body .. =>body.getD j (.Pass ⟨0,0,0,0⟩)
 |_=> .Pass ⟨0,0,0,0⟩
structure MethAt(P:P0)(w:P4)(K:W.Frag)(mg:Str->Option PX)(base:Qd)(CX:uJ)(C:PY)(m:Str)(k:Nat)(ps:List Str)(sp:Sp):Prop where
 cls:CH K C
 ex:∃(f:PY)(fd:Qc),Meth K C m f/\aQ P w K mg base CX k f fd ps sp/\Binds K fd ps []
structure FH(P:P0)(w:P4)(K:W.Frag)(mg:Str->Option PX)(base:Qd)(C:PY)(x:Str)(k:Nat)(ps:List Str)(sp:Sp):Prop where
 at_:mg x=some (.ref C)
 ex:∃(f:PY)(fd:Qc),Mk K C f/\aQ P w K mg base i4 k f fd ps sp/\Binds K fd ps []
section
variable{X:Cx}{K:W.Frag}{x m f:Str}{k:Nat}{C:PY}{ps:List Str}{sp:Sp}{e o value:Expr}{es:List Expr}{t:TA}{ta tv:TE}{p pos apos pos':Pos}
theorem jH(hK:X.K=K)(he:PE X e ta)(hb:attributeBase e f X.env (eval e X.env)=eval e X.env:=by rfl):PE X (.Attribute e f pos) (Mz K ta f):=by
 subst hK;exact J9 he hb
theorem BB(hK:X.K=K)(ha:PE X o ta)(hv:PE X value tv)(hs:swapsWith value (some (.Attribute o f pos')) pos.line X.env=pure false:=by rfl):PS X (.Assign [.Attribute o f pos'] value pos) (Me K ta tv f):=by
 subst hK;exact JX ha hv hs
theorem Dx{E:XK}{pl:Sem Bool}(F:MethAt X.prog X.w X.K X.mg X.base (j4 X.prog X.w) C m k ps sp)(hx:Passes (j4 X.prog X.w) X E)(hr:cB k X.A)(he:PE X o ta)(ha:PA X (e::es) t)
  (hst:Qb (e::es) X.env=(false,eval e X.env)::Qb es X.env:=by rfl) (hpl:(Qe pos (Qb es X.env)).any (·.1)=false:=by rfl)
  (ht:eval (.Call (.Attribute o m apos) (e::es) [] pos) X.env=(do
   let ov←eval o X.env
   standAt apos.atName
   let(f,first)←holding [ov] (getMethod ov m pl)
   callWith pos f first (Qe pos (Qb (e::es) X.env)) (backToKw pos (keywordEach [] X.env))):=by rfl):
  PE X (.Call (.Attribute o m apos) (e::es) [] pos) (Ja C m sp [] E ta t):=by
 obtain⟨f,fd,hm,F',hb⟩:=F.ex;exact Hz he F.cls hm F' hr hb .nil hx ha hst hpl ht
def Lb(C:PY)(m:Str)(sp:Sp)(Es:St->XK)(ta:TE)(t:TA):TE:=fun σ H Q=>ta σ H fun x H1=>∃a dx fs,x= .ref a/\H1 a=some (.ins C dx fs)/\fs.lookup m=none/\t σ H1 fun vs H2=>sp (x::vs) H2 Q (Es σ)
theorem C4{pins:List (PY×Obj)}{Es:St->XK}{pl:Sem Bool}(F:MethAt X.prog X.w X.K X.mg X.base (j4 X.prog X.w) C m k ps sp)(hr:cB k X.A)(he:PE (Xt X pins Es) o ta)(ha:PA (Xt X pins Es) (e::es) t)
  (hst:Qb (e::es) X.env=(false,eval e X.env)::Qb es X.env:=by rfl) (hpl:(Qe pos (Qb es X.env)).any (·.1)=false:=by rfl)
  (ht:eval (.Call (.Attribute o m apos) (e::es) [] pos) X.env=(do
   let ov←eval o X.env
   standAt apos.atName
   let(f,first)←holding [ov] (getMethod ov m pl)
   callWith pos f first (Qe pos (Qb (e::es) X.env)) (backToKw pos (keywordEach [] X.env))):=by rfl):
  PE (Xt X pins Es) (.Call (.Attribute o m apos) (e::es) [] pos) (Lb C m sp Es ta t):=by
 obtain⟨g,fd,hm,F',hb⟩:=F.ex;have c:=F.cls;intro pins' s σ H Q I h;refine W.methodCall_KW (pl:=pl) (bf (he pins' s σ H _ I h) fun u s1 ⟨y,H1,I1,rx,a,dx,fs,ex,ea,l,q⟩=>?_) ht;subst ex;obtain rfl:u=PX.ref a:=rx;refine mW I1 ea c hm l ?_;refine W.callWith_K (first:=[.ref a]) (h₀:=X.base) I.ok.mod.AJ hm.kp (bf (ha pos pins' s1 σ H1 _ I1 q) fun us s2 ⟨vs,H2,I2,r,q2⟩=>⟨I2.jD,?_⟩) hst hpl;have r2:Vals (V.ref a::vs) (PX.ref a::us):= .cons rfl r;have hl:(PX.ref a::us).length=ps.length:=by rw[←r2.length];exact F'.len _ _ _ _ q2
 have bb:=hb s2 (PX.ref a::us) I2.jD (by rw[PD];exact hl);rw[PD]at bb;refine wpAny_call (codeAny_mono (F'.run X.A X.stack s2 H2 ⟨PX.ref a::us,[]⟩ (PX.ref a::us) (V.ref a::vs) Q (Es σ) hr I2.mx bb r2 q2) fun r s' hq=>?_)
 cases r with
 |error ev=>exact⟨σ,H2,s2,I2.ofT,hq⟩
 |ok fl=>
  cases fl with
  |ret u=>exact I2.after hq
  |next=>exact False.elim hq
  |brk=>exact False.elim hq
  |cont=>exact False.elim hq
def HB(i:Nat)(Fam:PY->Sp->Prop)(E:XK)(t:TA):TE:=fun σ H Q=>∃f sp,σ[i]?=some (some (.ref f))/\Fam f sp/\t σ H fun vs H1=>sp vs H1 Q E
theorem Eo(F:FH X.prog X.w X.K X.mg X.base C x k ps sp)(hr:cB (k+1) X.A)(hg:Gl X x)(ha:PA X (e::es) t)(hdb:(x==("__debug__" :Str))=false:=by decide+kernel)(he:Qb (e::es) X.env=(false,eval e X.env)::Qb es X.env:=by rfl)(hpl:(Qe pos (Qb es X.env)).any (·.1)=false:=by rfl):
  PE X (.Call (.Name x p) (e::es) [] pos) (Jm C sp [] E0 t):=by
 obtain⟨g,fd,M,F',hb⟩:=F.ex;exact HM M F' hr hg F.at_ hb .nil FV ha hdb he hpl
end
end L2
namespace Sw
open PySem L2
def dB(H:Hp)(v:V)(R:List (Int×Int)):Prop:=∃(l:PY)(es:List V),v= .ref l/\H l=some (.lst es)/\jm H es R
theorem dB.same {H H':Hp}{v:V}{R:List (Int×Int)}(h:dB H v R)(s:ai H H'):dB H' v R:=by
 obtain⟨l,es,e,h1,h2⟩:=h;exact⟨l,es,e,s _ _ h1,h2.keep fun b xs e=>s _ _ e⟩
abbrev Kept:=List (Str×List (Int×Int))
def rowOf(m:Kept)(x:Str):Option (List (Int×Int)):=(m.find? fun p=>p.1=x).map (·.2)
def bg(H:Hp)(kvs:List (Key×V))(m:Kept):Prop:=Paired (fun(p:Key×V)(q:Str×List (Int×Int))=>p.1=Sum.inr q.1/\dB H p.2 q.2) kvs m
theorem bg.same {H H':Hp}{kvs:List (Key×V)}{m:Kept}(h:bg H kvs m)(s:ai H H'):bg H' kvs m:=Paired.Ao h fun _ _ z=>⟨z.1,z.2.same s⟩
theorem bg.get {H:Hp}:∀{kvs:List (Key×V)}{m:Kept},bg H kvs m->∀x:Str,(rowOf m x=none/\cQ kvs (Sum.inr x:Key)=none)\/∃R v,rowOf m x=some R/\cQ kvs (Sum.inr x:Key)=some v/\dB H v R
 |_,_,.nil,x=> .inl ⟨rfl,rfl⟩
 |_,_,.cons (a:=p) (b:=q) (l₁:=kvs) (l₂:=m) h r,x=>by
  by_cases c:q.1=x
  .refine .inr ⟨q.2,p.2,?_,?_,h.2⟩
   .unfold rowOf
    rw[List.find?_cons_of_pos (by simpa using c)];rfl
   .unfold cQ
    rw[List.find?_cons_of_pos (by rw[h.1,c];simp)];rfl
  .have e1:rowOf (q::m) x=rowOf m x:=by
    unfold rowOf;rw[List.find?_cons_of_neg (by simpa using c)]
   have e2:cQ (p::kvs) (Sum.inr x:Key)=cQ kvs (Sum.inr x:Key):=by
    unfold cQ;rw[List.find?_cons_of_neg (by rw[h.1];simpa using c)]
   rw[e1,e2];exact bg.get r x
theorem bg.keys {H:Hp}:∀{kvs:List (Key×V)}{m:Kept},bg H kvs m->kvs.map (·.1)=(m.map (·.1)).map Sum.inr
 |_,_,.nil=>rfl
 |_,_,.cons h r=>by rw[Pm,Pm,Pm,h.1,bg.keys r]
structure Mu(fs:List (Str×V))(n:Int)(d:PY):Prop where
 len:fs.length<=10
 n_:fs.lookup ("n" :Str)=some (V.int n)
 kept:fs.lookup ("kept" :Str)=some (V.ref d)
 J8:fs.lookup ("row_of" :Str)=none
 say:fs.lookup ("say" :Str)=none
def cM(C:PY)(H:Hp)(a d:PY)(n:Int)(m:Kept):Prop:=∃(dx:PY)(fs:List (Str×V))(kvs:List (Key×V)),H a=some (HO.ins C dx fs)/\Mu fs n d/\H d=some (.dK kvs)/\d≠a/\bg H kvs m/\m.length<=1000
structure By(K:W.Frag)(C:PY):Prop where
 cls:CH K C
 KR:kr K C "n"
 jx:kr K C "kept"
def BF(C CN:PY):Sp:=fun vs H Q E=>∃(a d:PY)(x:Str)(n:Int)(m:Kept),vs=[.ref a,.str x]/\cM C H a d n m/\(rowOf m x=none->E (.ref CN) none H)/\∀R v,rowOf m x=some R->dB H v R->Q v H
structure Oj(mg:Str->Option PX)(K:W.Frag)(C CN:PY):Prop extends By K C where
 kS:mg "NoName" =some (.ref CN)
 zt:jo K CN
section
variable{P:P0}{w:P4}{K:W.Frag}{mg:Str->Option PX}{base:Qd}{C CN:PY}
theorem rA:aE ["self","name"] ["self","name"] (av (mem (top 114) 1)):=⟨rfl,rfl,rfl,by decide+kernel,rfl,by decide+kernel,by decide+kernel⟩
theorem Fc{f:PY}{fd:Qc}(F:dU K "row_of" "Desk.row_of" (mem (top 114) 1) f fd)(T:Oj mg K C CN):aQ P w K mg base (j4 P w) 1 f fd ["self","name"] (BF C CN):=by
 refine F.DG rA (fun vs H Q E h=>?_) (fun cdv A outer s H vs Q E hr h=>?_)
 .obtain⟨a,d,x,n,m,rfl,_⟩:=h
  rfl
 .obtain⟨a,d,x,n,m,rfl,hd,kN,kY⟩:=h
  have hu:=pZ hr;refine⟨_,(ag (aN (vK (uU hu (pv 1) (jH (K:=K) rfl (pv 0)))) (ah (cb n6 T.zt rfl rfl T.kS (aa ak ae))) ax)
   (ah (ay (n5 hu (jH (K:=K) rfl (pv 0)) (pv 1) (fun _ _=>rfl))))),?_⟩
  obtain⟨dx,fs,kvs,ha,hf,hkd,_,km,_⟩:=hd;have one:1<=P6:=by decide
  rcases km.get x with⟨e1,e2⟩|⟨R,v,e1,e2,e3⟩
  .have g:kU H d (kV (.inr x)) none:=by rw[←e2];exact kU.k hkd
   exact⟨_,rfl,_,rfl,a,C,dx,fs,_,rfl,ha,T.cls,T.jx,hf.kept,d,none,rfl,g,_,rfl,by
    simp only[Option.isSome_none,Bool.not_false,if_true];exact⟨one,kN e1⟩⟩
  .have g:kU H d (kV (.inr x)) (some v):=by rw[←e2];exact kU.k hkd
   exact⟨_,rfl,_,rfl,a,C,dx,fs,_,rfl,ha,T.cls,T.jx,hf.kept,d,some v,rfl,g,_,rfl,by
    dsimp only[Option.isSome_some,Bool.not_true];rw[if_neg (by decide)];exact⟨_,rfl,a,C,dx,fs,_,rfl,ha,T.cls,T.jx,hf.kept,_,rfl,d,v,rfl,g,kY R v e1 e3⟩⟩
theorem oV:aE ["self","n"] ["self","n"] (av (mem (top 114) 0)):=⟨rfl,rfl,rfl,by decide+kernel,rfl,by decide+kernel,by decide+kernel⟩
def E8(C:PY):Sp:=fun vs H Q _=>∃(a dx:PY)(n:Int),vs=[.ref a,.int n]/\H a=some (HO.ins C dx [])/\H dx=some (.own a)/\dx≠a/\∀d H',H d=none->d≠a->cM C H' a d n []->(∀b o,b≠a->H b=some o->H' b=some o)->Q .cE H'
theorem Ho{f:PY}{fd:Qc}(F:dU K "__init__" "Desk.__init__" (mem (top 114) 0) f fd)(T:By K C):aQ P w K mg base i4 1 f fd ["self","n"] (E8 C):=by
 refine F.ok oV (fun vs H Q E h=>?_) (fun cdv A outer s H vs Q E hr h=>?_)
 .obtain⟨a,dx,n,rfl,_⟩:=h
  rfl
 .obtain⟨a,dx,n,rfl,ha,hdx,ne,k⟩:=h
  have hu:=pZ hr;refine⟨_,(ag (BB (K:=K) rfl (pv 0) (pv 1))
   (ah (BB (K:=K) rfl (pv 0) xN))),?_⟩
  refine⟨_,rfl,_,rfl,a,C,dx,[],rfl,ha,T.cls,T.KR,(by decide:(0:Nat)<1000),fun d fd=>?_⟩;have da:d≠a:=fun e=>by rw[e,af]at fd;cases fd
  rw[ao da]at fd;have e1:upd (upd H a (HO.ins C dx (ke (Pd "n") (V.int n) []))) d (HO.dK []) a=some (HO.ins C dx (ke (Pd "n") (V.int n) [])):=by rw[ao (Ne.symm da),af]
  refine⟨_,rfl,a,C,dx,_,rfl,e1,T.cls,T.jx,(by decide:(1:Nat)<1000),?_⟩;refine k d _ fd da ⟨dx,_,[],af,⟨(by decide:(2:Nat)<=10),rfl,rfl,rfl,rfl⟩,by rw[ao da,af],da,.nil,PQ _⟩ fun b o hb e=>?_;have bd:b≠d:=fun z=>by rw[z,fd]at e;cases e
  rw[ao hb,ao bd,ao hb];exact e
end
end Sw
namespace L2
open PySem PySem.Spec PyProof.Rows
section
variable{M:Model}{A:P5}{α:Type}{t:Sem α}{Q:α->PZ->Prop}{E:PX->PZ->Prop}{s:PZ}
theorem j7(hn:0<s.toks)(h:Qf M A t Q E s):Qf M A t (fun a s'=>0<s'.toks/\Q a s') E s:=Qa (wpAny_toks_of (n:=1) hn h) (fun _ _ x=>x) fun _ _ x=>x.2
end
def QE(X:Cx)(e:Expr)(t:TE):Prop:=
 ∀(pins:List (PY×Obj))(s:PZ)(σ:St)(H:Hp)(Q:VK),0<s.toks->Inv X pins σ H s->t σ H Q->Qf (model X.prog X.w) X.A (eval e X.env) (EP X pins σ Q) X.xe s
def QA(X:Cx)(es:List Expr)(t:TA):Prop:=
 ∀(pos:Pos)(pins:List (PY×Obj))(s:PZ)(σ:St)(H:Hp)(Q:List V->Hp->Prop),0<s.toks->Inv X pins σ H s->t σ H Q->Qf (model X.prog X.w) X.A (spliced (Qe pos (Qb es X.env))) (AP X pins σ Q) X.xe s
def QS(X:Cx)(st:Stmt)(t:TS):Prop:=
 ∀(pins:List (PY×Obj))(s:PZ)(σ:St)(H:Hp)(D:Ends),0<s.toks->Inv X pins σ H s->t D σ H->Qf (model X.prog X.w) X.A (exec st X.env) (SP X pins D) X.xe s
def z5(X:Cx)(st:List Stmt)(t:TS):Prop:=
 ∀(pins:List (PY×Obj))(s:PZ)(σ:St)(H:Hp)(D:Ends),0<s.toks->Inv X pins σ H s->t D σ H->Qf (model X.prog X.w) X.A (execs st X.env) (SP X pins D) X.xe s
def LE(X:Cx)(e:Expr)(t:TE):Prop:=
 ∀(pins:List (PY×Obj))(s:PZ)(σ:St)(H:Hp)(Q:VK),Inv X pins σ H s->t σ H Q->Qf (model X.prog X.w) X.A (eval e X.env) (fun u s'=>0<s'.toks/\EP X pins σ Q u s') X.xe s
def LT(X:Cx)(e:Expr)(t:TT):Prop:=
 ∀(pins:List (PY×Obj))(s:PZ)(σ:St)(H:Hp)(Q:Bool->Hp->Prop),Inv X pins σ H s->t σ H Q->Qf (model X.prog X.w) X.A (isTrue e X.env (eval e X.env)) (fun b s'=>0<s'.toks/\TP X pins σ Q b s') X.xe s
def LS(X:Cx)(st:Stmt)(t:TS):Prop:=
 ∀(pins:List (PY×Obj))(s:PZ)(σ:St)(H:Hp)(D:Ends),Inv X pins σ H s->t D σ H->Qf (model X.prog X.w) X.A (exec st X.env) (fun f s'=>0<s'.toks/\SP X pins D f s') X.xe s
section
variable{X:Cx}{e a b:Expr}{es:List Expr}{st:Stmt}{rest:List Stmt}{te ta tb:TE}{tx:TA}{t u:TS}{pos:Pos}
theorem QE.of (h:PE X e te):QE X e te:=fun pins s σ H Q _ I q=>h pins s σ H Q I q
theorem QA.of (h:PA X es tx):QA X es tx:=fun pos pins s σ H Q _ I q=>h pos pins s σ H Q I q
theorem QS.of (h:PS X st t):QS X st t:=fun pins s σ H D _ I q=>h pins s σ H D I q
theorem z5.of (h:t5 X rest t):z5 X rest t:=fun pins s σ H D _ I q=>h pins s σ H D I q
theorem le_str{x j}:LE X (.Constant (.str x) j pos) (tC (.str x)):=fun _ s _ H _ I h=>Calls.Constant_str ⟨Nat.succ_pos _,.str x,H,I.tok _,⟨_,rfl⟩,h⟩
theorem le_int{i j}:LE X (.Constant (.int i) j pos) (tC (.int i)):=fun _ s _ H _ I h=>wpAny_Constant_int ⟨Nat.succ_pos _,.int i,H,I.tok _,⟨_,rfl⟩,h⟩
theorem Nb{r:R2}(hr:Li X r)(ha:PE X a ta)(hb:LE X b tb)(hs:BO b):LE X (.Subscript a b pos) (GK r ta tb):=by
 intro pins s σ H Q I h;refine Subscript_ ?_;refine bf (ha pins s σ H _ I h) fun v s1 ⟨x,H1,I1,r1,q1⟩=>?_;refine bf (hb pins s1 σ H1 _ I1 q1) fun u s2 ⟨tk,y,H2,I2,r2,q2⟩=>?_;exact j7 tk (hr a b pins s2 σ H2 x y v u Q I2 r1 r2 q2 (hs _ _))
theorem GO{op:CmpOp}{r:R2}(ho:kK X (compareOp op) r)(ha:PE X a ta)(hb:LE X b tb)(hm:behindInMarks op b=false):LT X (.Compare a [op] [b] pos) (B3 (GK r ta tb)):=by
 intro pins s σ H Q I h;refine wpAny_isTrue_Compare1 (bf (ha pins s σ H _ I h) fun v s1 ⟨x,H1,I1,r1,q1⟩=>bf (hb pins s1 σ H1 _ I1 q1) fun u s2 ⟨tk,y,H2,I2,r2,q2⟩=>
  bf (j7 tk (ho pins s2 σ H2 x y v u _ I2 r1 r2 q2)) fun c s3 ⟨tk3,z,H3,I3,r3,k,e,q3⟩=>?_) hm
 subst e;cases r3;exact wpAny_truthy_bool ⟨tk3,H3,I3,q3⟩
theorem MF{c:Expr}{x y:List Stmt}{tc:TT}(hc:LT X c tc)(ha:t5 X x t)(hb:t5 X y u):LS X (.If c x y pos) (Dr tc t u):=by
 intro pins s σ H D I h;refine wpAny_If (bf (hc pins s σ H _ I h) fun d s1 ⟨tk,H1,I1,q1⟩=>?_)
 cases d with
 |true=>exact j7 tk (ha pins s1 σ H1 D I1 q1)
 |false=>exact j7 tk (hb pins s1 σ H1 D I1 q1)
theorem JQ{i:Nat}{x:Str}{pos':Pos}(hN:X.N.Nodup)(hi:X.N[i]?=some x)(hx:Loc X.env.scope x)(he:LE X e te)(hs:swapsWith e (some (.Name x pos')) pos.line X.env=pure false:=by rfl)(hf:X.fn x=true\/X.env.scope.names.lookup x=some .local:=by first|exact .inl rfl|exact .inr rfl|assumption):
  LS X (.Assign [.Name x pos'] e pos) (Ae te (cT i)):=by
 intro pins s σ H D I h;refine wpAny_Assign_Name (bf (he pins s σ H _ I h) fun v s1 ⟨tk,y,H1,I1,r1,q1⟩=>?_) hs;exact j7 tk (kn I1 hN hi hx r1 (fun s2 I2=>⟨_,H1,I2,q1⟩) hf)
theorem uX(h1:LS X st t)(h2:z5 X rest u):t5 X (st::rest) (AY t u):=by
 intro pins s σ H D I h;refine wpAny_execs_cons (bf (h1 pins s σ H {D with nx:=u D} I h) fun f s1 ⟨tk,q⟩=>?_)
 cases f with
 |next=>
  obtain⟨σ',H',I',q⟩:=q;exact h2 pins s1 σ' H' D tk I' q
 |ret v=>exact q
 |brk=>exact q
 |cont=>exact q
theorem dz(h1:QS X st t)(h2:z5 X rest u):z5 X (st::rest) (AY t u):=by
 intro pins s σ H D tk I h;refine wpAny_execs_cons (bf (j7 tk (h1 pins s σ H {D with nx:=u D} tk I h)) fun f s1 ⟨tk1,q⟩=>?_)
 cases f with
 |next=>
  obtain⟨σ',H',I',q⟩:=q;exact h2 pins s1 σ' H' D tk1 I' q
 |ret v=>exact q
 |brk=>exact q
 |cont=>exact q
theorem qS(h1:QS X st t):z5 X [st] t:=by
 intro pins s σ H D tk I h;refine wpAny_execs_cons (bf (h1 pins s σ H D tk I h) fun f s1 q=>?_)
 cases f with
 |next=>exact wpAny_execs_nil q
 |ret v=>exact q
 |brk=>exact q
 |cont=>exact q
theorem w6(he:QE X e te):QS X (.Return (some e) pos) (FU te):=by
 intro pins s σ H D tk I h;exact wpAny_Return_some (bf (he pins s σ H _ tk I h) fun v s1 ⟨x,H1,I1,r1,q1⟩=>⟨x,σ,H1,I1,r1,q1⟩)
theorem Et{c:Expr}{x y:List Stmt}{tc:TT}(hc:PT X c tc)(ha:z5 X x t)(hb:z5 X y u):QS X (.If c x y pos) (Dr tc t u):=by
 intro pins s σ H D tk I h;refine wpAny_If (bf (j7 tk (hc pins s σ H _ I h)) fun d s1 ⟨tk1,H1,I1,q1⟩=>?_)
 cases d with
 |true=>exact ha pins s1 σ H1 D tk1 I1 q1
 |false=>exact hb pins s1 σ H1 D tk1 I1 q1
theorem JO{i:Nat}{x:Str}{pos':Pos}(hN:X.N.Nodup)(hi:X.N[i]?=some x)(hx:Loc X.env.scope x)(he:QE X e te)(hs:swapsWith e (some (.Name x pos')) pos.line X.env=pure false:=by rfl)(hf:X.fn x=true\/X.env.scope.names.lookup x=some .local:=by first|exact .inl rfl|exact .inr rfl|assumption):
  QS X (.Assign [.Name x pos'] e pos) (Ae te (cT i)):=by
 intro pins s σ H D tk I h;refine wpAny_Assign_Name (bf (he pins s σ H _ tk I h) fun v s1 ⟨y,H1,I1,r1,q1⟩=>?_) hs;exact kn I1 hN hi hx r1 (fun s2 I2=>⟨_,H1,I2,q1⟩) hf
theorem Af:QA X [] wt:=QA.of ae
theorem qR(ha:QE X e te)(hr:QA X es tx)(hs:Qb (e::es) X.env=(false,eval e X.env)::Qb es X.env:=by rfl):QA X (e::es) (qh te tx):=by
 intro pos pins s σ H Q tk I h;rw[hs];show Qf _ _ (spliced ((false,eval e X.env)::Qe pos (Qb es X.env))) _ _ s;refine Calls.spliced_cons (bf (j7 tk (ha pins s σ H _ tk I h)) fun u s1 ⟨tk1,x,H1,I1,r1,q1⟩=>?_);exact bf (hr pos pins s1 σ H1 _ tk1 I1 q1) fun us s2 ⟨xs,H2,I2,r2,q2⟩=>⟨x::xs,H2,I2,.cons r1 r2,q2⟩
def MT(y z:Str)(to:TE):TE:=fun σ H Q=>to σ H fun x H1=>∃t,x= .str t/\t.length<=100000/\Q (.str (Txt.replace t y z)) H1
theorem wQ{o:Expr}{y z:Str}{to:TE}{ky kz:Nat}{py pz apos cpos:Pos}(hyz:(y==z)=false)(hz:z.length<=100)(ho:QE X o to)(m:M2 X o "replace" apos (.Constant (.str y) ky py) (.Constant (.str z) kz pz) cpos):
  QE X (.Call (.Attribute o "replace" apos) [.Constant (.str y) ky py,.Constant (.str z) kz pz] [] cpos) (MT y z to):=by
 intro pins s σ H Q tk I h;refine wpAny_Call_method m.base m.LJ m.line PySem.F.plainAttrs_str PySem.F.slot_str_replace PySem.F.type_str_replace (bf (j7 tk (ho pins s σ H _ tk I h)) fun u s1 ⟨tk1,x,H1,I1,rx,t,ex,tl,q1⟩=>?_);subst ex;obtain⟨t0,rfl⟩:=rx;refine⟨typeIs_str _ _ _,by simp,?_⟩;rw[m.trees];refine Calls.callWith_builtin rfl (Calls.evalArgs_plain (Calls.spliced_cons (Calls.Constant_str (Calls.spliced_cons (Calls.Constant_str (Calls.spliced_nil ?_))))));refine SC.replace (Nat.ne_of_gt tk1) (by exact Nat.succ_ne_zero _) (by exact(Nat.succ_ne_self _).symm) hyz ?_ (fun t' k=>⟨.str _,H1,(I1.tok _),⟨_,rfl⟩,q1⟩);have:(t.length+1)*z.length<=100001*100:=Nat.mul_le_mul (by lia) hz;lia
end
structure j5(P:P0)(w:P4)(K:W.Frag)(mg:Str->Option PX)(base:Qd)(CX:uJ)(k:Nat)(f:PY)(fd:Qc)(ps:List Str)(sp:Sp):Prop where
 len:∀vs H Q E,sp vs H Q E->vs.length=ps.length
 run:∀(A:P5)(outer:List Env)(s:PZ)(H:Hp)(args:Args)(us:List PX)(vs:List V)(Q:VK)(E:XK),0<s.toks->cB k A->y7 P w K mg base A outer s H->BindsTo s fd args (ps.zip us)->Vals vs us->sp vs H Q E->
  codeAny (model P w) A (.call (.ref f) args) (CR CX outer P w H s Q E) s
theorem aQ.toQ {P:P0}{w:P4}{K:W.Frag}{mg:Str->Option PX}{base:Qd}{CX:uJ}{k:Nat}{f:PY}{fd:Qc}{ps:List Str}{sp:Sp}(F:aQ P w K mg base CX k f fd ps sp):j5 P w K mg base CX k f fd ps sp:=
 ⟨F.len,fun A outer s H args us vs Q E _=>F.run A outer s H args us vs Q E⟩
theorem j5.mono {P:P0}{w:P4}{K:W.Frag}{mg:Str->Option PX}{base:Qd}{CX:uJ}{j k:Nat}{f:PY}{fd:Qc}{ps:List Str}{sp:Sp}(F:j5 P w K mg base CX j f fd ps sp)(h:j<=k):
  j5 P w K mg base CX k f fd ps sp:=⟨F.len,fun A outer s H args us vs Q E tk hr=>F.run A outer s H args us vs Q E tk (hr.mono h)⟩
theorem J4{CX:uJ}{P:P0}{w:P4}{K:W.Frag}{mg:Str->Option PX}{base:Qd}{k:Nat}{f:PY}{name qual:Str}{params:Arguments}{body:List Stmt}{scope:Scope}{dV kV doc pm cdv ct oc:PX}{an od:Option PY}
  {osl:Array (Option PX)} {N ps:List Str} {sp:Sp} (lk:K.lookup f=some ⟨oc,od,.func (W.fnOf name qual params body scope dV kV doc pm an cdv ct),osl⟩) (hcd:W.codeIn K cdv qual=true) (S:aE N ps scope)
  (len:∀vs H Q E,sp vs H Q E->vs.length=ps.length)
  (hbody:∀(A:P5)(outer:List Env)(s:PZ)(H:Hp)(vs:List V)(Q:VK)(E:XK),cB k (A.deeper (envOfC qual scope s.heap.objs.size f cdv))->sp vs H Q E->
   ∃t,z5 (tX CX P w K mg base N qual scope f cdv A outer s H E) body t/\t {nx:=fun _ H'=>Q .cE H',rt:=Q} (start N vs) H):
  j5 P w K mg base CX (k+1) f (W.fnOf name qual params body scope dV kV doc pm an cdv ct) ps sp:=by
 refine⟨len,fun A outer s H args us vs Q E tk hr e0 hb r hsp=>?_⟩;have hl:=len _ _ _ _ hsp;have KX:K.In s.heap:=e0.mod.AJ.keeps fun b o e=>(e0.bs b o e).1;have lim:s.heap.NoLimit:=e0.mod.nolimit.keeps fun b o e=>(e0.bs b o e).1;have hkind:∀y∈ps.zip us,scope.names.lookup y.1=some .local\/(scope.names.lookup y.1=some .cell/\((cellsFrom (s.heap.objs.size+1) scope.names []).lookup y.1).isSome=true):=fun⟨n,v⟩ hy=>by
  rcases S.par n (List.of_mem_zip hy).1 with q|q
  .exact .inl q
  .exact .inr ⟨q,W.cellsFrom_some _ _ _ (.inl q)⟩
 refine codeAny_call_function hr.depth (KX _ _ lk) rfl S.co S.gen rfl (W.codeRec_of KX hcd) (hb _ _ _ _ ?_);refine wpAny_with_toks (n:=1) tk ?_;refine wpAny_newFunctionEnv_cells S.kind hkind fun env he s1 x tk1=>?_;subst he;refine⟨lim.keeps x.toInCall.keep,codeAny_func ?_⟩;obtain⟨t,ht,hq⟩:=hbody A outer s H vs Q E (hr.deeper _) hsp;have I:Inv (tX CX P w K mg base N qual scope f cdv A outer s H E) [] (start N vs) H s1:=va S hr.hd e0 hl r x;refine Qa (ht [] s1 (start N vs) H _ tk1 I hq) (fun fl s' hs=>?_) fun e s' hs=>hs;have fin:∀{σ':St}{H':Hp}{v:V}{u:PX},Inv (tX CX P w K mg base N qual scope f cdv A outer s H E) [] σ' H' s'->RelV v u->Q v H'->CE outer P w H s Q u s':=
  fun{σ' H' v u} J rv q=>⟨v,H',J.os,J.bare,J.base,J.aX,rv,q⟩
 cases fl with
 |ret u=>
  obtain⟨v,σ',H',J,rv,q⟩:=hs;exact fin J rv q
 |next=>
  obtain⟨σ',H',J,q⟩:=hs;exact fin (v:=V.cE) (u:=PX.none) J rfl q
 |brk=>
  obtain⟨_,_,_,q⟩:=hs;exact False.elim q
 |cont=>
  obtain⟨_,_,_,q⟩:=hs;exact False.elim q
section
variable{P:P0}{w:P4}{K:W.Frag}{mg:Str->Option PX}{base:Qd}
theorem dU.Oz {x qual:Str}{st:Stmt}{f:PY}{fd:Qc}{N ps:List Str}{k:Nat}{sp:Sp}(F:dU K x qual st f fd)(S:aE N ps (av st))(len:∀vs H Q E,sp vs H Q E->vs.length=ps.length)
  (hbody:∀(cdv:PX)(A:P5)(outer:List Env)(s:PZ)(H:Hp)(vs:List V)(Q:VK)(E:XK),cB k (A.deeper (envOfC qual (av st) s.heap.objs.size f cdv))->sp vs H Q E->
   ∃t,z5 (zZ P w K mg base N qual (av st) f cdv A outer s H E) (dE st) t/\t {nx:=fun _ H'=>Q .cE H',rt:=Q} (start N vs) H):j5 P w K mg base (j4 P w) (k+1) f fd ps sp:=by
 obtain⟨oc,od,kV,doc,pm,an,cdv,ct,osl,rfl,lk,hcd⟩:=F.ex;exact J4 lk hcd S len fun A outer s H vs Q E hr hsp=>hbody cdv A outer s H vs Q E hr hsp
end
structure E6(P:P0)(w:P4)(K:W.Frag)(mg:Str->Option PX)(base:Qd)(x:Str)(k:Nat)(ps:List Str)(sp:Sp):Prop where
 ex:∃(f:PY)(fd:Qc),j5 P w K mg base (j4 P w) k f fd ps sp/\mg x=some (.ref f)/\W.keepIn K (.ref f)=true/\Binds K fd ps []
theorem eI.toQ {P:P0}{w:P4}{K:W.Frag}{mg:Str->Option PX}{base:Qd}{x:Str}{k:Nat}{ps:List Str}{sp:Sp}(F:eI P w K mg base x k ps sp):E6 P w K mg base x k ps sp:=by
 obtain⟨f,fd,F,hm,hk,hb⟩:=F.ex;exact⟨⟨f,fd,F.toQ,hm,hk,hb⟩⟩
structure HE(P:P0)(w:P4)(K:W.Frag)(mg:Str->Option PX)(base:Qd)(k:Nat)(f:PY)(sp:Sp):Prop where
 ex:∃(fd:Qc)(ps:List Str),j5 P w K mg base (j4 P w) k f fd ps sp/\W.keepIn K (.ref f)=true/\Binds K fd ps []
section
variable{X:Cx}{CX:uJ}{k:Nat}{f C:PY}{fd:Qc}{ps:List Str}{sp:Sp}{E:XK}{x:Str}{p pos:Pos}{e:Expr}{es:List Expr}{t:TA}
theorem Cc{pins:List (PY×Obj)}{σ:St}{H:Hp}{s:PZ}{Q:VK}{us:List PX}{vs:List V}(F:j5 X.prog X.w X.K X.mg X.base CX k f fd ps sp)(hr:cB k X.A)(hb:Binds X.K fd ps [])(hx:Passes CX X E)
  (tk:0<s.toks) (I:Inv X pins σ H s) (r:Vals vs us) (h:sp vs H Q E):Qf (model X.prog X.w) X.A (call (.ref f) us) (EP X pins σ Q) X.xe s:=by
 have hl:us.length=ps.length:=by rw[←r.length];exact F.len _ _ _ _ h
 have bb:=hb s us I.jD (by rw[PD];exact hl);rw[PD]at bb;refine wpAny_call (codeAny_mono (F.run X.A X.stack s H ⟨us,[]⟩ us vs Q E tk hr I.mx bb r h) fun r s' hq=>?_)
 cases r with
 |error e=>exact hx pins σ H s e s' I hq
 |ok fl=>
  cases fl with
  |ret u=>exact I.after hq
  |next=>exact False.elim hq
  |brk=>exact False.elim hq
  |cont=>exact False.elim hq
theorem wu(F:E6 X.prog X.w X.K X.mg X.base x k ps sp)(hx:Passes (j4 X.prog X.w) X E)(hr:cB k X.A)(hg:Gl X x)(ha:QA X (e::es) t)(hdb:(x==("__debug__" :Str))=false:=by decide+kernel)(he:Qb (e::es) X.env=(false,eval e X.env)::Qb es X.env:=by rfl)(hpl:(Qe pos (Qb es X.env)).any (·.1)=false:=by rfl):
  QE X (.Call (.Name x p) (e::es) [] pos) (rf sp [] E t):=by
 obtain⟨f,fd,F,hm,hk,hb⟩:=F.ex;intro pins s σ H Q tk I h;refine wpAny_Call_Name_kw (fY I hg hm ?_ hdb);refine W.callWith_K (h₀:=X.base) I.ok.mod.AJ hk (bf (j7 tk (ha pos pins s σ H _ tk I h)) fun us s1 ⟨tk1,vs,H1,I1,r,q⟩=>⟨I1.jD,?_⟩) he hpl;have q:sp (vs++[]) H1 Q E:=q;rw[PD]at q;exact Cc F hr hb hx tk1 I1 r q
theorem FQ{i:Nat}{Fam:PY->Sp->Prop}(hF:∀f sp,Fam f sp->HE X.prog X.w X.K X.mg X.base k f sp)(hx:Passes (j4 X.prog X.w) X E)(hr:cB k X.A)(hN:X.N[i]?=some x)(hv:Nx X.env.scope x)(ha:PA X (e::es) t)
  (hdb:(x==("__debug__" :Str))=false:=by decide+kernel) (hcd:(x==("__classdict__" :Str))=false:=by decide+kernel) (he:Qb (e::es) X.env=(false,eval e X.env)::Qb es X.env:=by rfl) (hpl:(Qe pos (Qb es X.env)).any (·.1)=false:=by rfl):
  QE X (.Call (.Name x p) (e::es) [] pos) (HB i Fam E t):=by
 intro pins s σ H Q tk I h;obtain⟨f,sp,hs,hf,h⟩:=h;obtain⟨fd,ps,F,hk,hb⟩:=(hF f sp hf).ex;refine wpAny_Call_Name_kw (bf (j7 tk (F8 hN hv hdb hcd pins s σ H (fun v H1=>v= .ref f/\H1=H) I ⟨_,hs,rfl,rfl⟩)) fun u s1 ⟨tk1,y,H1,I1,r,ey,eH⟩=>?_);subst ey;subst eH;obtain rfl:u=PX.ref f:=r;refine W.callWith_K (h₀:=X.base) I1.ok.mod.AJ hk (bf (j7 tk1 (ha pos pins s1 σ _ _ I1 h)) fun us s2 ⟨tk2,vs,H2,I2,r,q⟩=>⟨I2.jD,?_⟩) he hpl;exact Cc F hr hb hx tk2 I2 r q
end
theorem AV{ix:List (Option Nat)}{g:TG}{te:TE}{σ:St}{Q:VK}{H:Hp}{G1 G2:Hp->Prop}{xs ys:List V}(Pv:Nat->List V->St->Hp->Prop)(hn:min xs.length ys.length<=1000000)(h0:Pv 0 [] (eN ix σ) H)
  (hl:∀i zs σ H,i<=min xs.length ys.length->Pv i zs σ H->G1 H/\G2 H) (hlen:∀i zs σ H,Pv i zs σ H->zs.length<=i)
  (hs:∀i zs σ H t v u(R:St->List V->Hp->Prop),xs[i]?=some v->ys[i]?=some u->Pv i zs σ H->H t=none->(∀σ2 ys2 H5,Pv (i+1) ys2 σ2 H5->R σ2 ys2 H5)->g (.ref t) σ (upd H t (.tup [v,u])) fun σ2 H3=>te σ2 H3 fun v H5=>R σ2 (zs++[v]) H5)
  (mg:∀x σ H R R',(∀σ2 H2,R σ2 H2->R' σ2 H2)->g x σ H R->g x σ H R')
  (hd:∀zs σ' H' p,Pv (min xs.length ys.length) zs σ' H'->H' p=none->Q (.ref p) (upd H' p (.lst zs))):jg ix g i7 te σ Q (Fh xs ys G1 G2) H:=by
 refine iF Pv hn h0 (fun i zs σ H hi p=>⟨hi,hl i zs σ H (Nat.le_of_lt hi) p⟩) (fun zs σ H p=>⟨rfl,hl _ zs σ H (PK _) p⟩) hlen (fun i zs σ H x H2 R hi p y r=>?_) hd;obtain⟨t,v,u,ht,rfl,hv,hu,rfl⟩:=y;refine mg _ _ _ _ _ (fun σ2 H3 q=>?_) (hs i zs σ H t v u R hv hu p ht r);unfold i7;simp only[if_true];exact q
theorem Ob{K:W.Frag}{k l:Nat}:∀x σ H R R',(∀σ2 H2,R σ2 H2->R' σ2 H2)->Ia K 2 (zr (cT k) (zr (cT l) Ld)) x σ H R->Ia K 2 (zr (cT k) (zr (cT l) Ld)) x σ H R':=by
 intro x σ H R R' hR h;obtain⟨a,xs,e1,h1,h2,v,r,e2,v2,r2,e3,e4,q⟩:=h;exact⟨a,xs,e1,h1,h2,v,r,e2,v2,r2,e3,e4,hR _ _ q⟩
theorem je{x:V}{xs:List V}:mv (x::xs) (some 1) none=xs:=by
 unfold mv HT.zX;simp
def fB{α β:Type}(f:α->Option β):List α->Option (List β)
 |[]=>some []
 |x::xs=>match f x with
  |none=>none
  |some y=>(fB f xs).map (y::·)
theorem vh{α β:Type}{f:α->Option β}:∀{l:List α}{ys:List β}{x:α}{y:β},fB f l=some ys->f x=some y->fB f (l++[x])=some (ys++[y])
 |[],ys,x,y,h,e=>by
  cases h;show(match f x with|none=>none|some y=>(fB f []).map (y::·))=_;rw[e];rfl
 |a::l,ys,x,y,h,e=>by
  unfold fB at h;rw[List.cons_append];unfold fB
  cases ea:f a with
  |none=>rw[ea]at h;cases h
  |some b=>
   rw[ea]at h;dsimp only at h⊢
   cases el:fB f l with
   |none=>rw[el]at h;cases h
   |some zs=>
    rw[el]at h;cases h;rw[vh el e];rfl
theorem jr{α β:Type}{f:α->Option β}:∀{l:List α}{i:Nat}{x:α},l[i]?=some x->f x=none->fB f l=none
 |[],i,x,h,_=>by simp at h
 |a::l,0,x,h,e=>by
  cases h;unfold fB;rw[e]
 |a::l,i+1,x,h,e=>by
  unfold fB;rw[jr (l:=l) (i:=i) (by simpa using h) e];cases f a<;>rfl
theorem pA{α β:Type}{f:α->Option β}{l:List α}{i:Nat}{x:α}{y:β}{ys:List β}(h:fB f (l.take i)=some ys)(hx:l[i]?=some x)(e:f x=some y):fB f (l.take (i+1))=some (ys++[y]):=by
 rw[List.take_add_one,hx];exact vh h e
theorem sI{α β:Type}{f:α->Option β}:∀{l:List α}{ys:List β},fB f l=some ys->∀{i:Nat}{x:α},l[i]?=some x->∃y,ys[i]?=some y/\f x=some y
 |[],ys,h,i,x,hx=>by simp at hx
 |a::l,ys,h,i,x,hx=>by
  unfold fB at h
  cases ea:f a with
  |none=>rw[ea]at h;cases h
  |some b=>
   rw[ea]at h;dsimp only at h
   cases el:fB f l with
   |none=>rw[el]at h;cases h
   |some zs=>
    rw[el]at h;cases h
    cases i with
    |zero=>cases hx;exact⟨b,rfl,ea⟩
    |succ i=>exact sI el (i:=i) (by simpa using hx)
theorem kc{p A B:Prop}[Decidable p](hp:p)(h:A):if p then A else B:=by rw[if_pos hp];exact h
theorem bI{p A B:Prop}[Decidable p](hp:¬p)(h:B):if p then A else B:=by rw[if_neg hp];exact h
theorem ip{xs:List Str}{i:Nat}{v:V}(h:(xs.map V.str)[i]?=some v):∃x,xs[i]?=some x/\v= .str x:=by
 rw[Pf]at h
 cases e:xs[i]? with
 |none=>rw[e]at h;cases h
 |some x=>rw[e]at h;exact⟨x,rfl,(PU h).symm⟩
section
variable{prog:P0}{w:P4}{A:P5}{E:PX->PZ->Prop}{s:PZ}{W:PY->List Int->Prop}
theorem Paired.at' {α β:Type}{F:α->β->Prop}:∀{l:List α}{m:List β}(i:Nat),Paired F l m->(∃a b,l[i]?=some a/\m[i]?=some b/\F a b)\/(l[i]?=none/\m[i]?=none)
 |_,_,i,.nil=> .inr ⟨by simp,by simp⟩
 |_,_,0,.cons r _=> .inl ⟨_,_,rfl,rfl,r⟩
 |_,_,i+1,.cons _ t=>by simpa using Paired.at' i t
theorem Paired.J0 {α β:Type}{F:α->β->Prop}:∀{l l':List α}{m m':List β},Paired F l m->Paired F l' m'->Paired F (l++l') (m++m')
 |_,_,_,_,.nil,y=>y
 |_,_,_,_,.cons r t,y=> .cons r (Paired.J0 t y)
end
theorem Paired.KW {α β:Type}{F:α->β->Prop}:∀{l:List α}{m:List β},Paired F l m->l.length=m.length
 |_,_,.nil=>rfl
 |_,_,.cons _ t=>by rw[Pl,Pl,Paired.KW t]
end L2
namespace Sw
open PySem L2
inductive Wd where
 |txt (x:Str)
 |num (k:Int)
 |row (R:List (Int×Int))
 |ord (xs:List Int)
def AO(H:Hp)(v:V):Wd->Prop
 | .txt x=>v= .str x
 | .num k=>v= .int k
 | .row R=>dB H v R
 | .ord xs=>∃t,v= .ref t/\H t=some (.tup (xs.map V.int))
theorem AO.same {H H':Hp}{v:V}{x:Wd}(h:AO H v x)(s:ai H H'):AO H' v x:=by
 cases x with
 |txt x=>exact h
 |num k=>exact h
 |row R=>exact dB.same h s
 |ord xs=>obtain⟨t,e,q⟩:=h;exact⟨t,e,s _ _ q⟩
def Ay(H:Hp)(vs:List V)(xs:List Wd):Prop:=Paired (fun v x=>AO H v x) vs xs
theorem Ay.same {H H':Hp}{vs:List V}{xs:List Wd}(h:Ay H vs xs)(s:ai H H'):Ay H' vs xs:=Paired.Ao h fun _ _ z=>z.same s
theorem Ay.len {H:Hp}{vs:List V}{xs:List Wd}(h:Ay H vs xs):vs.length=xs.length:=Paired.KW h
theorem Ay.snoc {H:Hp}{vs:List V}{xs:List Wd}{v:V}{x:Wd}(h:Ay H vs xs)(z:AO H v x):Ay H (vs++[v]) (xs++[x]):=Paired.J0 h (.cons z .nil)
inductive Out where
 |tM (c:PY)
 |ans (s:Str)
 |zo
 |put (x:Str) (R:List (Int×Int))
 |del (x:Str)
structure dX where
 yF:Str->Option (List Str)
 okd:Str->Bool
 GX:Int->Str->Str->Option Wd
 isA:Str->Bool
 ans:Str->Int->List Wd->Option (Except PY Str)
 IS:Str->List Wd->Option (Except PY (List (Int×Int)))
 CT:PY
 CN:PY
def xM(m:Kept)(d:Str)(x:Wd):Option Wd:=
 if d=Pd "name"then match x with
  | .txt s=>(rowOf m s).map Wd.row
  |_=>none
 else some x
def dX.out (L:dX)(n:Int)(m:Kept):List Str->Option Out
 |[]=>none
 |word::args=>match L.yF word with
  |none=>some (.tM L.CT)
  |some dues=>
   if dues.length≠args.length then some (.tM L.CT)else
   if dues.all L.okd=false then none else
   match fB (fun p:Str×Str=>L.GX n p.1 p.2) (dues.zip args)with
   |none=>some (.tM L.CT)
   |some read=>match fB (fun p:Str×Wd=>xM m p.1 p.2) (dues.zip read)with
    |none=>some (.tM L.CN)
    |some given=>
     if word=Pd "names"then some .zo else
     if L.isA word=true then match L.ans word n given with
      |none=>none
      |some (.ok s)=>some (.ans s)
      |some (.error c)=>some (.tM c)
     else match read with
      | .txt x::_=>if word=Pd "drop"then(rowOf m x).map fun _=> .del x else match L.IS word given with
       |none=>none
       |some (.ok R)=>some (.put x R)
       |some (.error c)=>some (.tM c)
      |_=>none
def yT(m:Kept)(x:Str)(R:List (Int×Int)):Kept:=if(m.any fun p=>decide (p.1=x))=true then m.map (fun p=>if p.1=x then(p.1,R)else p)else m++[(x,R)]
def xR(m:Kept)(x:Str):Kept:=m.filter fun p=>decide (p.1≠x)
theorem dB.Gn {H:Hp}{v:V}{R:List (Int×Int)}{d:PY}{kvs kvs':List (Key×V)}(h:dB H v R)(e:H d=some (.dK kvs)):dB (upd H d (.dK kvs')) v R:=by
 obtain⟨l,es,e1,h1,h2⟩:=h;have ne:∀b o,H b=some o->(∀q,o≠.dK q)->b≠d:=fun b o hb hn z=>by rw[z,e]at hb;cases hb;exact hn _ rfl
 refine⟨l,es,e1,by rw[ao (ne _ _ h1 fun q z=>nomatch z)];exact h1,h2.keep fun b xs hb=>by rw[ao (ne _ _ hb fun q z=>nomatch z)];exact hb⟩
theorem bg.Gn {H:Hp}{d:PY}{kvs kvs':List (Key×V)}{ks:List (Key×V)}{m:Kept}(h:bg H ks m)(e:H d=some (.dK kvs)):bg (upd H d (.dK kvs')) ks m:=Paired.Ao h fun _ _ z=>⟨z.1,z.2.Gn e⟩
theorem bg.any {H:Hp}{x:Str}:∀{kvs:List (Key×V)}{m:Kept},bg H kvs m->(kvs.any fun kv=>decide (kv.1=Sum.inr x))=m.any fun p=>decide (p.1=x)
 |_,_,.nil=>rfl
 |_,_,.cons h r=>by
  rw[List.any_cons,List.any_cons,bg.any r,h.1];congr 1;rw[Bool.eq_iff_iff,decide_eq_true_eq,decide_eq_true_eq];exact⟨fun z=>Sum.inr.inj z,fun z=>by rw[z]⟩
theorem bg.EM {H:Hp}{x:Str}{v:V}{R:List (Int×Int)}(hv:dB H v R):∀{kvs:List (Key×V)}{m:Kept},bg H kvs m->bg H (kvs.map fun kv=>if kv.1=Sum.inr x then(kv.1,v)else kv) (m.map fun p=>if p.1=x then(p.1,R)else p)
 |_,_,.nil=> .nil
 |_,_,.cons (a:=p) (b:=q) h r=>by
  rw[Pm,Pm];refine .cons ?_ (bg.EM hv r);by_cases c:q.1=x
  .rw[if_pos (by rw[h.1,c]),if_pos c]
   exact⟨h.1,hv⟩
  .rw[if_neg (by rw[h.1];exact fun z=>c (Sum.inr.inj z)),if_neg c]
   exact h
theorem bg.put {H:Hp}{x:Str}{v:V}{R:List (Int×Int)}{kvs:List (Key×V)}{m:Kept}(h:bg H kvs m)(hv:dB H v R):bg H (putK kvs (.inr x) v) (yT m x R):=by
 unfold putK yT;rw[h.any]
 split
 .exact h.EM hv
 .exact Paired.J0 h (.cons ⟨rfl,hv⟩ .nil)
theorem bg.drop {H:Hp}{x:Str}:∀{kvs:List (Key×V)}{m:Kept},bg H kvs m->bg H (nW kvs (.inr x)) (xR m x)
 |_,_,.nil=> .nil
 |_,_,.cons (a:=p) (b:=q) (l₁:=kvs) (l₂:=m) h r=>by
  unfold nW xR;rw[List.filter_cons,List.filter_cons];have ih:=bg.drop (x:=x) r;unfold nW xR at ih;by_cases c:q.1=x
  .rw[if_neg (by rw[h.1,c];simp),if_neg (by rw[c];simp)]
   exact ih
  .rw[if_pos (by rw[h.1];simpa using c),if_pos (by simpa using c)]
   exact .cons h ih
def o4(ws:List Str):Str:=if ws=[]then Pd "none"else Str.join (Pd ",") ws
def ML(L:dX):Sp:=fun vs H Q E=>∃(n:Int)(d w:Str),vs=[.int n,.str d,.str w]/\1<=n/\n<=12/\w.length<=990/\L.okd d=true/\(∀x,L.GX n d w=some x->∀v H',AO H' v x->ai H H'->Q v H')/\(L.GX n d w=none->∀b H',ai H H'->E (.ref L.CT) b H')
def LP(L:dX):Sp:=fun vs H Q E=>∃(word:Str)(l:PY)(us:List V)(xs:List Wd),vs=[.str word,.ref l]/\H l=some (.lst us)/\Ay H us xs/\((∃R,L.IS word xs=some (.ok R)/\∀v H',dB H' v R->ai H H'->Q v H')\/∃c,L.IS word xs=some (.error c)/\∀b H',ai H H'->E (.ref c) b H')
def yk(L:dX)(word:Str):Sp:=fun vs H Q E=>∃(n:Int)(l:PY)(us:List V)(xs:List Wd),vs=[.int n,.ref l]/\1<=n/\n<=12/\H l=some (.lst us)/\Ay H us xs/\((∃s,L.ans word n xs=some (.ok s)/\∀H',ai H H'->Q (.str s) H')\/∃c,L.ans word n xs=some (.error c)/\∀b H',ai H H'->E (.ref c) b H')
def Mn:Sp:=fun vs H Q _=>∃(l:PY)(ws:List Str),vs=[.ref l]/\H l=some (.lst (ws.map V.str))/\ws.length<=100/\(∀w∈ws,w.length<=990)/\Q (.str (o4 ws)) H
structure MW(K:W.Frag)(L:dX)(yF ans:List (Str×PY)):Prop where
 yF:∀w,(L.yF w=none/\tabOf yF w=none)\/∃xs b,L.yF w=some xs/\tabOf yF w=some b/\xs.length<=10/\∀H,gL K H b (xs.map V.str)
 ans:∀w,L.isA w=(tabOf ans w).isSome
 name:∀n w x,L.GX n (Pd "name") w=some x->∃s,x= .txt s
structure LI(P:P0)(w:P4)(K:W.Frag)(mg:Str->Option PX)(base:Qd)(C AD AA:PY)(yF ans:List (Str×PY))(L:dX):Prop extends By K C,T1 mg K where
 sN:mg "zip" =none
 gh:mg "sorted" =none
 aK:mg "NoText" =some (.ref L.CT)
 bp:jo K L.CT
 BK:mg "DUE" =some (.ref AD)
 BI:RelV (.ref AD) (.ref AD)
 BX:KTab K w.params AD yF
 pI:mg "ANSWERS" =some (.ref AA)
 oS:RelV (.ref AA) (.ref AA)
 pG:KTab K w.params AA ans
 tabs:MW K L yF ans
 mE:MethAt P w K mg base (j4 P w) C "row_of" 1 ["self","name"] (BF C L.CN)
 qm:eI P w K mg base "read_word" 9 ["n","due","word"] (ML L)
 uM:eI P w K mg base "row_due" 9 ["word","given"] (LP L)
 my:FnAt P w K mg base "with_commas" 1 ["words"] Mn
 Jg:∀f sp,(∃word,tabOf ans word=some f/\sp=yk L word)->HE P w K mg base 20 f sp
def JF(C:PY)(L:dX):Sp:=fun vs H Q E=>∃(a d:PY)(t:Str)(n:Int)(m:Kept)(o:Out),vs=[.ref a,.str t]/\t.length<=990/\1<=n/\n<=12/\m.length<=40/\(∀p∈m,p.1.length<=990)/\cM C H a d n m/\L.out n m (Txt.split t (Pd " "))=some o/\
 match o with
 | .tM c=>∀b H',ai H H'->E (.ref c) b H'
 | .ans s=>∀H',ai H H'->Q (.str s) H'
 | .zo=>∀ks:List Str,ks.Perm (m.map (·.1))->PyProof.Rows.sortedS ks=true->∀H',ai H H'->Q (.str (o4 ks)) H'
 | .put x R=>∀H',cM C H' a d n (yT m x R)->(∀b o,b≠d->H b=some o->H' b=some o)->Q (.str (Pd "ok")) H'
 | .del x=>∀H',cM C H' a d n (xR m x)->(∀b o,b≠d->H b=some o->H' b=some o)->Q (.str (Pd "ok")) H'
section
variable{P:P0}{w:P4}{K:W.Frag}{mg:Str->Option PX}{base:Qd}{C AD AA:PY}{yF ans:List (Str×PY)}{L:dX}
theorem cX:aE ["self","row","words","word","dues","read","given","answer"] ["self","row"] (av (mem (top 114) 2)):=⟨rfl,rfl,rfl,by decide+kernel,rfl,by decide+kernel,by decide+kernel⟩
theorem Kk{f:PY}{fd:Qc}(F:dU K "say" "Desk.say" (mem (top 114) 2) f fd)(T:LI P w K mg base C AD AA yF ans L):aQ P w K mg base (j4 P w) 30 f fd ["self","row"] (JF C L):=by
 refine F.DG cX (fun vs H Q E h=>?_) (fun cdv A outer s H vs Q E hr h=>?_)
 .obtain⟨a,d,t,n,m,o,rfl,_⟩:=h
  rfl
 .obtain⟨a,d,t,n,m,o,rfl,ht,n1,n2,hm,hmw,hd,ho,k⟩:=h
  have hu:=pZ hr;have big:(10000000:Nat)<=P6:=by decide
  refine⟨_,(ag (aC (i:=2) cX.nd rfl (Or.inl rfl) (aP (K:=K) rfl PySem.F.plainAttrs_str PySem.F.slot_str_split PySem.F.type_str_split ck (pv 1) (aa ak ae)))
   (uX (JQ (i:=3) cX.nd rfl (Or.inl rfl) (Nb (aJ (K:=K) rfl) (pv 2) le_int (fun _ _=>rfl)))
   (dz (QS.of (aN (PW.pt (fu (vK (DM T.BX (pv 3) (de rfl T.BK T.BI))) (dG (aw eC (ar (aZ (K:=K) rfl) rfl T.bX (by decide+kernel) (aa (oZ T.BX (de rfl T.BK T.BI) (pv 3) (fun _ _=>rfl)) ae)) (aG ku (ar (aZ (K:=K) rfl) rfl T.bX (by decide+kernel) (aa (pv 2) ae)) aj) (aB _))))) (ah (cb n6 T.bp rfl rfl T.aK (aa ak ae))) ax))
   (dz (QS.of (aC (i:=4) cX.nd rfl (Or.inl rfl) (oZ T.BX (de rfl T.BK T.BI) (pv 3) (fun _ _=>rfl))))
   (dz (QS.of (nR (N:=(["due","written","self"]:List Str)) (ix:=([none,none,some 0]:List (Option Nat))) (i:=5) tf oX cX.nd rfl rfl (aW rfl rfl) rfl (Cb (K:=K) rfl rfl T.sN (aa (pv 4) (aa (eR (r6 (K:=K) rfl) (pv 2) (eO aj) jv) ae))) (fun _ _ _ _=>(gV (K:=K) (n:=2) rfl rfl (bD (aA (i:=0) (show List.Nodup (["due","written","self"]:List Str)from by decide+kernel) rfl (Or.inl rfl)) (bD (aA (i:=1) (show List.Nodup (["due","written","self"]:List Str)from by decide+kernel) rfl (Or.inl rfl)) gS)))) (fun _ _ _ _=>bq) (fun _ _ _ _=>(bW T.qm (iD.passes pq) (hr.mono (by decide)) rfl (@aa _ _ _ _ _ (jH (K:=K) rfl (pv 2)) (@aa _ _ _ _ _ (pv 0) (@aa _ _ _ _ _ (pv 1) ae bA) bA) (by rfl))))))
   (dz (QS.of (nR (N:=(["due","value","self"]:List Str)) (ix:=([none,none,some 0]:List (Option Nat))) (i:=6) tf oX cX.nd rfl rfl (aW rfl rfl) rfl (Cb (K:=K) rfl rfl T.sN (aa (pv 4) (aa (pv 5) ae))) (fun _ _ _ _=>(gV (K:=K) (n:=2) rfl rfl (bD (aA (i:=0) (show List.Nodup (["due","value","self"]:List Str)from by decide+kernel) rfl (Or.inl rfl)) (bD (aA (i:=1) (show List.Nodup (["due","value","self"]:List Str)from by decide+kernel) rfl (Or.inl rfl)) gS)))) (fun _ _ _ _=>bq) (fun _ _ _ _=>(xY (aw bR (pv 0) ak (aB _)) (Dx T.mE (iD.passes pq) (hr.mono (by decide)) (pv 2) (aa (pv 1) ae)) (pv 1)))))
   (dz (QS.of (aN (aw bR (pv 3) ak (aB _)) (ah (ay (aq T.my (hr.mono (by first|decide|lia)) rfl (aa (ar (nP rfl) rfl T.gh (by decide+kernel) (aa (jH (K:=K) rfl (pv 0)) ae)) ae)))) ax))
   (dz (Et (vK (Fq T.pG (pv 3) (de rfl T.pI T.oS))) (dz (QS.of (aC (i:=7) cX.nd rfl (Or.inl rfl) (oZ T.pG (de rfl T.pI T.oS) (pv 3) (fun _ _=>rfl))))
   (qS (w6 (FQ (i:=7) T.Jg j8 (hr.mono (by decide)) rfl (by first|exact Or.inl rfl|exact Or.inr (Or.inl rfl)|exact Or.inr (Or.inr rfl)) (aa (jH (K:=K) rfl (pv 0)) (aa (pv 6) ae)))))) (z5.of ax))
   (z5.of (ag (aN (aw bR (pv 3) ak (aB _)) (ah (Hx (jH (K:=K) rfl (pv 0)) (bC (aJ (K:=K) rfl) (pv 5) aj (fun _ _=>rfl)))) (ah (mh hu (jH (K:=K) rfl (pv 0)) (bC (aJ (K:=K) rfl) (pv 5) aj (fun _ _=>rfl)) (bW T.uM j8 (hr.mono (by decide)) rfl (aa (pv 3) (aa (pv 6) ae))) rfl)))
   (ah (ay ak)))))))))))),?_⟩
  have wl:=split_le t (Pd " ");have wp:∀z∈Txt.split t (Pd " "),z.length<=t.length:=fun z hz=>bO hz;have wne:=dv t (Pd " ");refine⟨_,rfl,rfl,t,_,rfl,rfl,by decide+kernel,by lia,fun l1 f1=>?_⟩;have s1:ai H (upd H l1 (.lst ((Txt.split t (Pd " ")).map V.str))):=ai.new f1;have h1:upd H l1 (.lst ((Txt.split t (Pd " ")).map V.str)) l1=some (.lst ((Txt.split t (Pd " ")).map V.str)):=af;generalize upd H l1 (.lst ((Txt.split t (Pd " ")).map V.str))=H1 at s1 h1⊢;generalize Txt.split t (Pd " ")=ws at wl wp wne ho h1;obtain _|⟨word,args⟩:=ws
  .exact absurd rfl wne
  have one:1<=P6:=by decide
  have wl':args.length<=1000:=by rw[Pl]at wl;lia
  refine⟨_,rfl,l1,_,0,_,rfl,rfl,aI.of h1,bN (j:=0) rfl,?_⟩;refine⟨_,rfl,word,rfl,rfl,_,rfl,?_⟩;rcases T.tabs.yF word with⟨e1,e2⟩|⟨xs,b,e1,e2,xl,hb⟩
  .rw[e2]
   simp only[Option.isSome_none,Bool.not_false,if_true];unfold dX.out at ho;dsimp only at ho;rw[e1]at ho;cases ho;exact⟨one,k none H1 s1⟩
  unfold dX.out at ho;dsimp only at ho;rw[e1]at ho;dsimp only at ho;rw[e2];simp only[Option.isSome_some,Bool.not_true,if_false,Bool.false_eq_true];refine⟨_,rfl,word,b,rfl,rfl,e2,b,_,rfl,.inr (hb _),_,rfl,l1,_,rfl,.inl (aI.of h1),_,_,rfl,rfl,rfl,_,rfl,?_⟩;by_cases hl:xs.length=args.length
  case neg=>
   rw[if_pos hl]at ho;cases ho;rw[if_pos (by
    simp only[Pe,Pl,Bool.not_eq_true',decide_eq_false_iff_not,V.int.injEq];lia)]
   exact⟨one,k none H1 s1⟩
  rw[if_neg (fun z=>z hl)]at ho;have aX:xs.all L.okd=true:=by
   cases e:xs.all L.okd with
   |true=>rfl
   |false=>rw[if_pos e]at ho;cases ho
  rw[if_neg (by rw[aX];decide)]at ho;rw[if_neg (by
    simp only[Pe,Pl,Bool.not_eq_true',decide_eq_false_iff_not,V.int.injEq];lia)]
  refine⟨_,rfl,word,b,rfl,rfl,e2,?_⟩;refine⟨_,rfl,_,rfl,1,rfl,l1,_,rfl,aI.of h1,fun l2 f2=>⟨b,l2,xs.map V.str,args.map V.str,rfl,hb _,aI.of (by rw[af,Pm,je]),?_⟩⟩;have h2:upd H1 l2 (.lst (mv ((word::args).map V.str) (some 1) none)) l2=some (.lst (args.map V.str)):=by rw[af,Pm,je]
  have s2:ai H (upd H1 l2 (.lst (mv ((word::args).map V.str) (some 1) none))):=s1.trans (ai.new f2);generalize upd H1 l2 (.lst (mv ((word::args).map V.str) (some 1) none))=H2 at h2 s2⊢;obtain⟨dx,fs,kvs,ha,hf,hkd,dne,km,ml⟩:=id hd;refine AV (fun i zs σ' H'=>(∃v0 v1,σ'=[v0,v1,some (.ref a)])/\ai H2 H'/\∃ys,fB (fun p:Str×Str=>L.GX n p.1 p.2) ((xs.zip args).take i)=some ys/\Ay H' zs ys/\ys.length=i) (by simp only[Pe];lia) ⟨⟨none,none,rfl⟩,ai.refl _,[],rfl,.nil,rfl⟩ (fun i zs σ' H' _ ⟨_,sm,_⟩=>⟨hb _,aI.of (sm _ _ h2)⟩) (fun i zs σ' H' ⟨_,_,ys,_,wz,yl⟩=>by have:=wz.len;lia) (fun i zs σ' H' t' v u R hv hu ⟨⟨v0,v1,e3⟩,sm,ys,em,wz,yl⟩ ft r=>?_) Ob (fun zs σ' H' l3 ⟨_,sm,ys,em,wz,yl⟩ f3=>?_)
  .subst e3
   obtain⟨dj,e4,rfl⟩:=ip hv;obtain⟨wj,e5,rfl⟩:=ip hu;have ez:(xs.zip args)[i]?=some (dj,wj):=by rw[List.getElem?_zip_eq_some];exact⟨e4,e5⟩
   have st:ai H' (upd H' t' (.tup [.str dj,.str wj])):=ai.new ft;have ha':=st _ _ (sm _ _ (s2 _ _ ha));have wlen:wj.length<=990:=PN (wp wj (Pu _ (Pr e5))) ht;refine⟨t',_,rfl,gL.of af,rfl,_,_,rfl,_,_,rfl,rfl,?_⟩;refine⟨_,rfl,a,C,dx,fs,_,rfl,ha',T.cls,T.KR,hf.n_,_,rfl,_,rfl,n,dj,wj,rfl,n1,n2,wlen,List.all_eq_true.mp aX dj (Pr e4),fun x ex v' H5 wv sv=>?_,fun en bb H5 sv=>?_⟩
   .exact r _ _ _ ⟨⟨_,_,rfl⟩,sm.trans (st.trans sv),ys++[x],pA em ez ex,(wz.same (st.trans sv)).snoc wv,by rw[Pg,yl];rfl⟩
   .rw[jr (f:=fun p:Str×Str=>L.GX n p.1 p.2) ez en]at ho
    cases ho;exact k bb H5 (s2.trans (sm.trans (st.trans sv)))
  rw[Pw (by simp only[List.length_zip,Pe];lia)]at em;have ee:=em;rw[em]at ho;dsimp only at ho;have yl2:ys.length=xs.length:=by rw[yl];simp only[Pe];lia
  have h3:upd H' l3 (.lst zs) l3=some (.lst zs):=af;have s3:ai H (upd H' l3 (.lst zs)):=s2.trans (sm.trans (ai.new f3));have wz3:Ay (upd H' l3 (.lst zs)) zs ys:=wz.same (ai.new f3);generalize upd H' l3 (.lst zs)=H3 at h3 s3 wz3⊢;clear wz em yl sm f3 h1 h2 s1 s2 f1 f2;refine⟨_,rfl,_,rfl,b,l3,xs.map V.str,zs,rfl,hb _,aI.of h3,?_⟩;refine AV (fun i vs' σ' H'=>(∃v0 v1,σ'=[v0,v1,some (.ref a)])/\ai H3 H'/\∃gs,fB (fun p:Str×Wd=>xM m p.1 p.2) ((xs.zip ys).take i)=some gs/\Ay H' vs' gs/\gs.length=i) (by simp only[Pe];lia) ⟨⟨none,none,rfl⟩,ai.refl _,[],rfl,.nil,rfl⟩ (fun i zs σ' H' _ ⟨_,sm,_⟩=>⟨hb _,aI.of (sm _ _ h3)⟩) (fun i zs σ' H' ⟨_,_,ys,_,wz,yl⟩=>by have:=wz.len;lia) (fun i vs' σ' H' t' v u R hv hu ⟨⟨v0,v1,e3⟩,sm,gs,em,wz,gl⟩ ft r=>?_) Ob (fun vs' σ' H' l4 ⟨_,sm,gs,em,wz,gl⟩ f4=>?_)
  .subst e3
   obtain⟨dj,e4,rfl⟩:=ip hv;obtain⟨x,e5,wx⟩:∃x,ys[i]?=some x/\AO H3 u x:=by
    rcases Paired.at' i wz3 with⟨u',x,q1,q2,q3⟩|⟨q1,q2⟩
    .rw[hu]at q1;cases q1;exact⟨x,q2,q3⟩
    .rw[hu]at q1;cases q1
   have ez:(xs.zip ys)[i]?=some (dj,x):=by rw[List.getElem?_zip_eq_some];exact⟨e4,e5⟩
   have st:ai H' (upd H' t' (.tup [.str dj,u])):=ai.new ft;have sH:ai H (upd H' t' (.tup [.str dj,u])):=s3.trans (sm.trans st);refine⟨t',_,rfl,gL.of af,rfl,_,_,rfl,_,_,rfl,rfl,?_⟩;refine⟨_,rfl,rfl,_,rfl,?_⟩;by_cases hn:dj=Pd "name"
   .dsimp only
    rw[if_pos (by rw[hn];decide)];have il:i<args.length:=by have:=(List.getElem?_eq_some_iff.mp e4).1;lia
    obtain⟨y,e6,e7⟩:=sI ee (i:=i) (x:=(dj,args[i])) (by rw[List.getElem?_zip_eq_some];exact⟨e4,Ph il⟩);rw[e5]at e6;cases e6;dsimp only at e7;rw[hn]at e7;obtain⟨z,rfl⟩:=T.tabs.name _ _ _ e7;cases wx;have hd':cM C (upd H' t' (.tup [.str dj,.str z])) a d n m:=⟨dx,fs,kvs,sH _ _ ha,hf,sH _ _ hkd,dne,km.same sH,ml⟩;refine⟨_,rfl,a,dx,fs,rfl,sH _ _ ha,hf.J8,_,rfl,a,d,z,n,m,rfl,hd',fun en=>?_,fun R' v' er rv=>?_⟩
    .rw[jr (f:=fun p:Str×Wd=>xM m p.1 p.2) ez (by show xM m dj (.txt z)=none;unfold xM;rw[if_pos hn];dsimp only;rw[en];rfl)]at ho
     cases ho;exact k none _ sH
    .exact r _ _ _ ⟨⟨_,_,rfl⟩,sm.trans st,gs++[.row R'],pA em ez (by show xM m dj (.txt z)=some (.row R');unfold xM;rw[if_pos hn];dsimp only;rw[er];rfl),(wz.same st).snoc (x:= .row R') rv,by rw[Pg,gl];rfl⟩
   .dsimp only
    rw[if_neg (by simpa using hn)];exact⟨_,rfl,r _ _ _ ⟨⟨_,_,rfl⟩,sm.trans st,gs++[x],pA em ez (by show xM m dj x=some x;unfold xM;rw[if_neg hn]),(wz.same st).snoc (wx.same (sm.trans st)),by rw[Pg,gl];rfl⟩⟩
  have zl3:=wz3.len;rw[Pw (by simp only[List.length_zip,Pe];lia)]at em;rw[em]at ho;dsimp only at ho;have h4:upd H' l4 (.lst vs') l4=some (.lst vs'):=af;have sx:ai H3 (upd H' l4 (.lst vs')):=sm.trans (ai.new f4);have s4:ai H (upd H' l4 (.lst vs')):=s3.trans sx;have wz4:Ay (upd H' l4 (.lst vs')) vs' gs:=wz.same (ai.new f4);have h34:upd H' l4 (.lst vs') l3=some (.lst zs):=sx _ _ h3;have wz34:Ay (upd H' l4 (.lst vs')) zs ys:=wz3.same sx;generalize upd H' l4 (.lst vs')=H4 at h4 s4 wz4 h34 wz34⊢;clear sx wz em sm f4 h3 s3 wz3 ee gl;have ha4:=s4 _ _ ha;have hkd4:=s4 _ _ hkd;have km4:=km.same s4;have kl:kvs.length=m.length:=Paired.KW km;refine⟨_,rfl,rfl,_,rfl,?_⟩;dsimp only;by_cases c1:word=Pd "names"
  .rw[if_pos (by rw[c1];decide)]
   rw[if_pos c1]at ho;cases ho;refine⟨_,rfl,a,C,dx,fs,_,rfl,ha4,T.cls,T.jx,hf.kept,d,kvs,m.map (·.1),rfl,hkd4,km4.keys,by lia,fun l ks' fl pm so=>⟨l,ks',rfl,af,?_,?_,k ks' pm so _ (s4.trans (ai.new fl))⟩⟩
   .have:=pm.length_eq
    rw[Pe]at this;lia
   .intro w hw
    obtain⟨p,hp,e⟩:=List.mem_map.mp (pm.mem_iff.mp hw);rw[←e];exact hmw p hp
  rw[if_neg (by simpa using c1)];rw[if_neg c1]at ho;refine⟨_,rfl,word,rfl,rfl,_,rfl,?_⟩;dsimp only;rw[←T.tabs.ans word];by_cases c2:L.isA word=true
  .rw[if_pos c2]
   rw[if_pos c2]at ho;obtain⟨fA,eA⟩:=Option.isSome_iff_exists.mp ((T.tabs.ans word).symm.trans c2);refine⟨_,rfl,word,fA,rfl,rfl,eA,?_⟩;refine⟨fA,yk L word,rfl,⟨word,eA,rfl⟩,_,rfl,a,C,dx,fs,_,rfl,ha4,T.cls,T.KR,hf.n_,_,rfl,n,l4,vs',gs,rfl,n1,n2,h4,wz4,?_⟩
   cases er:L.ans word n gs with
   |none=>rw[er]at ho;cases ho
   |some r=>
    rw[er]at ho
    cases r with
    |ok s'=>
     cases ho;exact .inl ⟨s',rfl,fun H' sx=>k H' (s4.trans sx)⟩
    |error c=>
     cases ho;exact .inr ⟨c,rfl,fun b H' sx=>k b H' (s4.trans sx)⟩
  rw[if_neg c2];rw[if_neg c2]at ho;obtain⟨x,rest,rfl⟩:∃x rest,ys= .txt x::rest:=by
   match ys,ho with
   | .txt x::rest,_=>exact⟨x,rest,rfl⟩
   |[],ho=>cases ho
   | .num _::_,ho=>cases ho
   | .row _::_,ho=>cases ho
   | .ord _::_,ho=>cases ho
  cases wz34 with
  |cons w1 w2=>
   cases(show _=V.str x from w1);dsimp only at ho;refine⟨_,rfl,rfl,_,rfl,?_⟩;dsimp only;by_cases c3:word=Pd "drop"
   .rw[if_pos (by rw[c3];decide)]
    rw[if_pos c3]at ho
    cases er:rowOf m x with
    |none=>rw[er]at ho;cases ho
    |some R=>
     rw[er]at ho;cases ho;have isS:(cQ kvs (Sum.inr x:Key)).isSome=true:=by
      rcases km.get x with⟨q,_⟩|⟨_,_,_,q,_⟩
      .rw[er]at q;cases q
      .rw[q];rfl
     refine⟨_,rfl,a,C,dx,fs,_,rfl,ha4,T.cls,T.jx,hf.kept,_,rfl,l3,_,0,_,rfl,rfl,aI.of h34,bN (j:=0) rfl,d,kvs,.inr x,rfl,hkd4,rfl,isS,?_⟩;exact k _ ⟨dx,fs,nW kvs (.inr x),by rw[ao (Ne.symm dne)];exact ha4,hf,af,dne,(km4.Gn hkd4).drop,PN (List.length_filter_le _ _) (by lia)⟩ fun b o hb e=>by rw[ao hb];exact s4 _ _ e
   .rw[if_neg (by simpa using c3)]
    rw[if_neg c3]at ho
    cases er:L.IS word gs with
    |none=>rw[er]at ho;cases ho
    |some r=>
     rw[er]at ho
     cases r with
     |error c=>
      cases ho;exact⟨_,rfl,_,rfl,word,l4,vs',gs,rfl,h4,wz4,.inr ⟨c,er,fun b H' sx=>k b H' (s4.trans sx)⟩⟩
     |ok R=>
      cases ho;refine⟨_,rfl,_,rfl,word,l4,vs',gs,rfl,h4,wz4,.inl ⟨R,er,fun v H5 rv sx=>?_⟩⟩;have hkd5:=sx _ _ hkd4;refine⟨_,rfl,a,C,dx,fs,_,rfl,sx _ _ ha4,T.cls,T.jx,hf.kept,_,rfl,l3,_,0,_,rfl,rfl,aI.of (sx _ _ h34),bN (j:=0) rfl,d,_,rfl,Dk.k (k:= .inr x) hkd5 (by lia),?_⟩;refine k _ ⟨dx,fs,putK kvs (.inr x) v,by rw[ao (Ne.symm dne)];exact sx _ _ ha4,hf,af,dne,((km4.same sx).Gn hkd5).put (rv.Gn hkd5),?_⟩ fun b o hb e=>by rw[ao hb];exact sx _ _ (s4 _ _ e)
      unfold yT
      split
      .rw[Pe];lia
      .rw[Pg];exact PN (Nat.add_le_add_right hm 1) (by decide)
end
def y4:Sp:=fun vs H Q _=>∃(l:PY)(r:List Int),vs=[.ref l]/\H l=some (.lst (r.map V.int))/\r.length<=20/\(∀x∈r,0<=x/\x<10^9)/\∀H',ai H H'->Q (.str (qz r)) H'
def vi:Sp:=fun vs H Q _=>∃(t:PY)(n:Int)(xs:List Int),vs=[.ref t]/\H t=some (.tup (xs.map V.int))/\Ord n xs/\n<=12/\∀H',ai H H'->Q (.str (mw (bj n xs))) H'
structure OE(P:P0)(w:P4)(K:W.Frag)(mg:Str->Option PX)(base:Qd):Prop extends T1 mg K where
 di:mg "str" =none
 mG:FnAt P w K mg base "show_things" 1 ["things"] y4
 ya:FnAt P w K mg base "rounds" 3 ["order"] jh
structure O6(mg:Str->Option PX)(K:W.Frag)(u:PX):Prop extends T1 mg K where
 JD:mg "sum" =none
 mB:mg "MOST_THINGS" =some u
 mC:RelV (.int 12) u
section
variable{P:P0}{w:P4}{K:W.Frag}{mg:Str->Option PX}{base:Qd}{u:PX}{C:PY}
theorem sL:aE ["things"] ["things"] (av (top 76)):=⟨rfl,rfl,rfl,by decide+kernel,rfl,by decide+kernel,by decide+kernel⟩
theorem DH{f:PY}{fd:Qc}(F:dU K "show_things" "show_things" (top 76) f fd)(T:Lw mg K u):aQ P w K mg base i4 1 f fd ["things"] y4:=by
 refine F.ok sL (fun vs H Q E h=>?_) (fun cdv A outer s H vs Q E hr h=>?_)
 .obtain⟨l,r,rfl,_⟩:=h
  rfl
 .obtain⟨l,r,rfl,hl,h20,hs,k⟩:=h
  refine⟨_,(ah (ay (aP (K:=K) rfl PySem.F.plainAttrs_str PySem.F.slot_str_join PySem.F.type_str_join (iE (K:=K) rfl) ak (aa (bU (N:=(["thing"]:List Str)) (ix:=([none]:List (Option Nat))) (aW rfl rfl) rfl (aV (K:=K) rfl (pv 0)) (fun _ _ _ _=>(aA (i:=0) (show List.Nodup (["thing"]:List Str)from by decide+kernel) rfl (Or.inl rfl))) (fun _ _ _ _=>bq) (fun _ _ _ _=>(aY cH rfl T.di (by decide+kernel) (aa (pv 0) ae)))) ae)))),?_⟩;refine⟨rfl,_,rfl,l,rfl,⟨_,aI.of hl⟩,iC (K:=K) (a:=l) (xs:=r.map V.int) (k:=0) (fun i ys σ' H'=>ys=((r.take i).map aF).map V.str/\(∃v0,σ'=[v0])/\H'=H) (by rw[Pe];lia) ⟨rfl,⟨none,rfl⟩,rfl⟩ (fun i ys σ' H' _ q=>by rw[q.2.2];exact aI.of hl) (fun i ys σ' H' q=>by rw[q.1,Pe,Pe,Pn];lia) ?_ ?_⟩
  .rintro i ys σ' H' x R hx' ⟨rfl,⟨v0,rfl⟩,rfl⟩ done
   obtain⟨z,rfl,hz⟩:=qZ hx';obtain⟨z0,z9⟩:=hs z (Pr hz);refine⟨_,rfl,z,rfl,c7 z0 z9,done _ _ _ ⟨?_,⟨_,rfl⟩,rfl⟩⟩;rw[aR aF hz,Pj];rfl
  .rintro ys σ' H' q ⟨rfl,⟨v0,rfl⟩,e0⟩ fq
   have e0:=e0.symm;subst e0;rw[Pw (by rw[Pe];lia)];refine⟨_,q,r.map aF,rfl,rfl,aI.of af,cf (B:=9) (by decide+kernel) (fun y hy=>?_) (by decide) (by rw[Pe];lia),k _ (ai.new fq)⟩;obtain⟨z,hz,rfl⟩:=List.mem_map.mp hy;exact eQ (hs z hz).1 (hs z hz).2
theorem rQ:aE ["text"] ["text"] (av (top 82)):=⟨rfl,rfl,rfl,by decide+kernel,rfl,by decide+kernel,by decide+kernel⟩
theorem kH:aE ["lists","many"] ["lists"] (av (top 83)):=⟨rfl,rfl,rfl,by decide+kernel,rfl,by decide+kernel,by decide+kernel⟩
theorem tR:aE ["order"] ["order"] (av (top 77)):=⟨rfl,rfl,rfl,by decide+kernel,rfl,by decide+kernel,by decide+kernel⟩
theorem AN{f:PY}{fd:Qc}(F:dU K "show_order" "show_order" (top 77) f fd)(T:OE P w K mg base):aQ P w K mg base i4 4 f fd ["order"] vi:=by
 refine F.ok tR (fun vs H Q E h=>?_) (fun cdv A outer s H vs Q E hr h=>?_)
 .obtain⟨t,n,xs,rfl,_⟩:=h
  rfl
 .obtain⟨t,n,xs,rfl,ht,ho,n12,k⟩:=h
  refine⟨_,(ah (ay (aP (K:=K) rfl PySem.F.plainAttrs_str PySem.F.slot_str_join PySem.F.type_str_join (iE (K:=K) rfl) ak (aa (bU (N:=(["found"]:List Str)) (ix:=([none]:List (Option Nat))) (aW rfl rfl) rfl (aV (K:=K) rfl (aq T.ya (hr.mono (by first|decide|lia)) rfl (aa (pv 0) ae))) (fun _ _ _ _=>(aA (i:=0) (show List.Nodup (["found"]:List Str)from by decide+kernel) rfl (Or.inl rfl))) (fun _ _ _ _=>bq) (fun _ _ _ _=>(aG bM (aG bM ak (aq T.mG (hr.mono (by first|decide|lia)) rfl (aa (pv 0) ae))) ak))) ae)))),?_⟩;have big:(10000000:Nat)<=P6:=by decide
  obtain⟨f1,f2,f3⟩:=lX ho;refine⟨rfl,_,rfl,t,n,xs,rfl,ht,ho,by lia,fun l ws H1 fl hl xw _ _ s1=>?_⟩;have wl:=xw.length;refine⟨l,rfl,⟨_,aI.of hl⟩,iC (K:=K) (a:=l) (xs:=ws) (k:=0) (fun i ys σ' H'=>ys=(((bj n xs).take i).map Ll).map V.str/\(∃v0,σ'=[v0])/\ai H1 H') (by lia) ⟨rfl,⟨none,rfl⟩,ai.refl _⟩ (fun i ys σ' H' _ q=>aI.of (q.2.2 _ _ hl)) (fun i ys σ' H' q=>by rw[q.1,Pe,Pe,Pn];lia) ?_ ?_⟩
  .rintro i ys σ' H2 x R hx' ⟨rfl,⟨v0,rfl⟩,s2⟩ done
   obtain⟨a,r,rfl,ha,hr'⟩:=xw.get hx';obtain⟨g1,g2,g3⟩:=f2 r (Pr hr');have g4:∀x∈r,0<=x/\x<10^9:=fun x hx=>by have:=g3 x hx;lia
   have tl:=Bz g4;have bl:(Pd "(").length=1:=by decide+kernel
   have cl:(Pd ")").length=1:=by decide+kernel
   refine⟨_,rfl,a,r,rfl,s2 _ _ ha,by lia,g4,fun H3 s3=>⟨_,_,rfl,rfl,by lia,_,_,rfl,rfl,by rw[Str.length_append];lia,?_⟩⟩;refine done _ _ _ ⟨?_,⟨_,rfl⟩,s2.trans s3⟩;rw[aR Ll hr',Pj];rfl
  .rintro ys σ' H2 q ⟨rfl,⟨v0,rfl⟩,s2⟩ fq
   rw[Pw (by lia)];refine⟨_,q,(bj n xs).map Ll,rfl,rfl,aI.of af,cf (B:=202) (by decide+kernel) (fun y hy=>?_) (by decide) (by rw[Pe];lia),k _ (s1.trans (s2.trans (ai.new fq)))⟩;obtain⟨r,hr',rfl⟩:=List.mem_map.mp hy;obtain⟨g1,g2,g3⟩:=f2 r hr';have tl:=Bz (r:=r) fun x hx=>by have:=g3 x hx;lia
   rw[←aS,sP,Pl,Pg,aS,List.length_singleton];lia
theorem fV:aE ["text","lists","many","order"] ["text"] (av (top 84)):=⟨rfl,rfl,rfl,by decide+kernel,rfl,by decide+kernel,by decide+kernel⟩
end
theorem dA(s:String):PyData.strOk (Pd s)=true:=by
 unfold PyData.strOk;rw[Str.ofString_eq_toList];rw[Array.all_eq_true_iff_forall_mem];intro c hc;have hc:c∈List.map Char.toNat s.toList:=by simpa using hc
 obtain⟨ch,_,rfl⟩:=List.mem_map.mp hc;have:=ch.valid;refine decide_eq_true ?_;show ch.val.toNat<1114112;rcases this with h|⟨_,h⟩
 .exact Nat.lt_trans h (by decide)
 .exact h
def kh(n:Int)(rs:List (List Int)):Prop:=(∀r∈rs,r≠[]/\∀x∈r,1<=x/\x<=n)/\rs.flatten.Nodup
instance{n:Int}{rs:List (List Int)}:Decidable (kh n rs):=by unfold kh;infer_instance
def nx:List (List Int)->Int->Int
 |[],x=>x
 |r::rs,x=>if x∈r then xK r x else nx rs x
def eE(n:Int)(rs:List (List Int)):List Int:=(cZ 1 (n+1)).map (nx rs)
theorem Fb:∀{rs:List (List Int)}{x:Int},x∉rs.flatten->nx rs x=x
 |[],_,_=>rfl
 |r::rs,x,h=>by
  rw[List.flatten_cons,List.mem_append,not_or]at h;show(if x∈r then xK r x else nx rs x)=x;rw[if_neg h.1,Fb h.2]
theorem Gh:∀{rs:List (List Int)}{r:List Int}{j:Nat}{x:Int},rs.flatten.Nodup->r∈rs->r[j]?=some x->nx rs x=r.getD ((j+1)%r.length) 0
 |[],_,_,_,_,h,_=>by cases h
 |a::rs,r,j,x,nd,h,hj=>by
  rw[List.flatten_cons,List.nodup_append]at nd;obtain⟨na,nr,dis⟩:=nd;show(if x∈a then xK a x else nx rs x)=_;rcases List.mem_cons.mp h with rfl|h
  .rw[if_pos (Pr hj),A6 na hj]
  .have:x∉a:=fun z=>dis x z x (List.mem_flatten.mpr ⟨r,h,Pr hj⟩) rfl
   rw[if_neg this,Gh nr h hj]
theorem gQ(n:Int)(rs:List (List Int)):(eE n rs).length=n.toNat:=by
 unfold eE;rw[Pe,aO];lia
theorem wI{n:Int}{rs:List (List Int)}{x:Int}(h1:1<=x)(h2:x<=n):ld (eE n rs) x=nx rs x:=by
 unfold ld eE;rw[Pq,Pf,eD (by lia)];show nx rs (1+((x-1).toNat:Int))=nx rs x;congr 1;lia
theorem pk{n:Int}{rs:List (List Int)}(f:kh n rs):KU n (eE n rs) rs:=by
 refine⟨fun r hr=>⟨(f.1 r hr).1,fun j x hx=>?_⟩,f.2,fun x h1 h2 hx=>by rw[wI h1 h2,Fb hx]⟩;have b:=(f.1 r hr).2 x (Pr hx);refine⟨b.1,b.2,?_⟩;rw[wI b.1 b.2,Gh f.2 hr hx,Pq];have:(j+1)%r.length<r.length:=Nat.mod_lt _ (List.length_pos_iff.mpr (f.1 r hr).1);rw[Ph this];rfl
section
variable{n:Int}{rs:List (List Int)}{r:List Int}{i j:Nat}{z:Int}
theorem take_snoc{α:Type}{l:List α}{i:Nat}{x:α}(h:l[i]?=some x):l.take (i+1)=l.take i++[x]:=by rw[PJ,h];rfl
theorem lU(h:rs[i]?=some r):(rs.take (i+1)).flatten=(rs.take i).flatten++r:=by
 rw[take_snoc h,List.flatten_append,List.flatten_cons,List.flatten_nil,PD]
theorem wN(h:rs[i]?=some []):¬kh n rs:=fun f=>(f.1 [] (Pr h)).1 rfl
theorem vW(h:rs[i]?=some r)(hz:z∈r)(hb:¬(1<=z/\z<=n)):¬kh n rs:=fun f=>hb ((f.1 r (Pr h)).2 z hz)
theorem D7(h:rs[i]?=some r):((rs.take i).flatten++r).Sublist rs.flatten:=by
 rw[←lU h,←List.take_append_drop (i+1) rs,List.flatten_append,List.take_append_drop];exact List.sublist_append_left _ _
theorem sf(h:rs[i]?=some r)(hj:r[j]?=some z)(hz:z∈(rs.take i).flatten++r.take j):¬kh n rs:=fun f=>by
 have nd:=f.2.sublist (D7 h);have nd:=nd.sublist (List.Sublist.append (List.Sublist.refl (rs.take i).flatten) (List.take_sublist (j+1) r));rw[take_snoc hj,←PF]at nd;exact(List.nodup_append.mp nd).2.2 z hz z (List.mem_singleton.mpr rfl) rfl
theorem AS{l:List Int}(h:l.Nodup)(hz:z∉l):(l++[z]).Nodup:=by
 rw[List.nodup_append];refine⟨h,by simp,fun a ha b hb e=>?_⟩;rw[List.mem_singleton.mp hb]at e;subst e;exact hz ha
theorem CY(f:kh n (rs.take i))(h:rs[i]?=some r)(hr:r≠[])(hb:∀x∈r,1<=x/\x<=n)(nd:((rs.take i).flatten++r).Nodup):kh n (rs.take (i+1)):=by
 refine⟨fun q hq=>?_,by rw[lU h];exact nd⟩;rw[take_snoc h]at hq;rcases List.mem_append.mp hq with z|z
 .exact f.1 q z
 .rw[List.mem_singleton.mp z]
  exact⟨hr,hb⟩
theorem GB:kh n []:=⟨fun q hq=>(by cases hq),List.nodup_nil⟩
end
def GI(n:Int)(Ls:List (List Int)):Prop:=(∀L∈Ls,L≠[])/\Ls.flatten.Perm (cZ 1 (n+1))
theorem jB(n:Int):(cZ 1 (n+1)).Nodup:=(jn n).nodup
theorem eG{n x:Int}:x∈cZ 1 (n+1)↔1<=x/\x<=n:=(jn n).mem
theorem GI.NC {n:Int}{Ls:List (List Int)}(h:GI n Ls):kh n Ls:=by
 refine⟨fun L hL=>⟨h.1 L hL,fun x hx=>eG.mp (h.2.mem_iff.mp (List.mem_flatten.mpr ⟨L,hL,hx⟩))⟩,h.2.symm.nodup (jB n)⟩
theorem GI.all {n x:Int}{Ls:List (List Int)}(h:GI n Ls)(h1:1<=x)(h2:x<=n):x∈Ls.flatten:=h.2.mem_iff.mpr (eG.mpr ⟨h1,h2⟩)
theorem CC{a b:List Int}(ha:a.Pairwise (·<·))(hb:b.Pairwise (·<·))(h:∀x,x∈a↔x∈b):a=b:=by
 have pa:a.Nodup:=ha.imp fun h=>Int.ne_of_lt h;have pb:b.Nodup:=hb.imp fun h=>Int.ne_of_lt h;have p:a.Perm b:=(List.perm_ext_iff_of_nodup pa pb).mpr h;exact List.Perm.eq_of_pairwise (le:=(·<·)) (fun x y _ _ h1 h2=>by lia) ha hb p
theorem vw(a b:Int):(cZ a b).Pairwise (·<·):=by
 unfold cZ;refine List.pairwise_map.mpr (List.Pairwise.imp (fun h=>?_) List.pairwise_lt_range);lia
theorem zh:∀{as bs:List Int},as.Nodup->(∀x∈as,x∈bs)->bs.length=as.length->bs.Perm as
 |[],bs,_,_,l=>by rw[List.length_eq_zero_iff.mp l]
 |a::as,bs,nd,h,l=>by
  rw[List.nodup_cons]at nd;have ha:=h a Pt;refine(List.perm_cons_erase ha).trans (List.Perm.cons a (zh nd.2 (fun x hx=>?_) ?_))
  .exact(List.mem_erase_of_ne (by rintro rfl;exact nd.1 hx)).mpr (h x (Pu _ hx))
  .rw[List.length_erase_of_mem ha,l,Pl];lia
theorem Ib{n:Int}{xs:List Int}(l:xs.length=n.toNat)(h:∀y,1<=y->y<=n->y∈xs):Ord n xs:=by
 refine zh (jB n) (fun x hx=>?_) (by rw[aO,l];lia);have:=eG.mp hx;exact h x this.1 this.2
theorem Ic{L:List Int}{i:Nat}(h:i<L.length):∃j p,L[j]?=some p/\(j+1)%L.length=i/\(i≠0->j+1=i)/\(i=0->j+1=L.length):=by
 by_cases c:i=0
 .exact⟨L.length-1,_,Ph (by lia),by rw[show L.length-1+1=L.length by lia,Nat.mod_self,c],fun z=>absurd c z,fun _=>by lia⟩
 .exact⟨i-1,_,Ph (by lia),by rw[show i-1+1=i by lia,Nat.mod_eq_of_lt h],fun _=>by lia,fun z=>absurd z c⟩
section
variable{n:Int}{Ls:List (List Int)}
theorem sy(c:GI n Ls):Ord n (eE n Ls):=by
 refine Ib (gQ n Ls) fun y h1 h2=>?_;obtain⟨L,hL,hy⟩:=List.mem_flatten.mp (c.all h1 h2);obtain⟨i,hi,rfl⟩:=List.getElem_of_mem hy;obtain⟨j,p,hp,e,_⟩:=Ic hi;have cy:=(pk c.NC).Jz L hL;obtain⟨p1,p2,p3⟩:=cy.2 j p hp;rw[e,Ph hi]at p3;rw[PU p3];have:(p-1).toNat<(eE n Ls).length:=by rw[gQ];lia
 unfold ld;rw[Pq,Ph this];exact List.getElem_mem _
end
theorem oP{α:Type}[DecidableEq α]:∀{as bs:List α},as.Nodup->(∀x∈as,x∈bs)->bs.length=as.length->as.Perm bs
 |[],bs,_,_,l=>by rw[List.length_eq_zero_iff.mp l]
 |a::as,bs,nd,h,l=>by
  rw[List.nodup_cons]at nd;have ha:=h a Pt;refine(List.Perm.cons a (oP nd.2 (fun x hx=>?_) ?_)).trans (List.perm_cons_erase ha).symm
  .exact(List.mem_erase_of_ne (by rintro rfl;exact nd.1 hx)).mpr (h x (Pu _ hx))
  .rw[List.length_erase_of_mem ha,l,Pl];lia
end Sw
namespace L2
open PySem PySem.Spec PyProof.Rows
theorem OL{i:Nat}{v:V}{σ:St}{H:Hp}{k:St->Hp->Prop}(h:k (σ.set i (some v)) H):cT i v σ H k:=h
theorem wJ{t u:TS}{D:Ends}{σ:St}{H:Hp}(R:St->Hp->Prop)(h1:∀D':Ends,(∀σ' H',R σ' H'->D'.nx σ' H')->t D' σ H)(h2:∀σ' H',R σ' H'->u D σ' H'):AY t u D σ H:=h1 _ h2
theorem xj{α:Type}[DecidableEq α]:∀{as bs:List α},as.Nodup->(∀x∈as,x∈bs)->as.length<=bs.length
 |[],_,_,_=>PQ _
 |a::as,bs,nd,h=>by
  rw[List.nodup_cons]at nd;have hb:=h a Pt;have le:=xj (bs:=bs.erase a) nd.2 fun x hx=>by
   have ne:x≠a:=fun z=>nd.1 (by rw[←z];exact hx);exact(List.mem_erase_of_ne ne).mpr (h x (Pu _ hx))
  rw[List.length_erase_of_mem hb]at le;have:=List.length_pos_of_mem hb;rw[Pl];lia
end L2
namespace Sw
open PySem L2 PyProof.Rows
theorem iI(x:Str)(ms:List Str):CO (.str x) (ms.map V.str)=decide (x∈ms):=by
 unfold CO;rw[List.any_map,Bool.eq_iff_iff,List.any_eq_true];simp only[decide_eq_true_eq];constructor
 .rintro⟨y,hy,e⟩
  have e:zY (.str y) (.str x)=true:=e;unfold zY at e;have:y=x:=by simpa using e
  exact this▸hy
 .intro h
  refine⟨x,h,?_⟩;show zY (.str x) (.str x)=true;unfold zY;simp
def wn(n:Int):List Str:=(cZ 1 (n+1)).map aF
theorem l7(ts:List Str):(ts.map V.str).all lh=true:=by
 rw[List.all_map,List.all_eq_true];intro x _;rfl
theorem FI{n:Int}{j:Nat}(h:(j:Int)<n):(wn n)[j]?=some (aF (1+j)):=by
 unfold wn;rw[Pf,eD (by lia)];rfl
theorem oQ{n:Int}{w:Str}:w∈wn n↔∃a,1<=a/\a<=n/\w=aF a:=by
 unfold wn;rw[List.mem_map];constructor
 .rintro⟨a,ha,rfl⟩
  have:=c6.mp ha;exact⟨a,by lia,by lia,rfl⟩
 .rintro⟨a,h1,h2,rfl⟩
  exact⟨a,c6.mpr ⟨h1,by lia⟩,rfl⟩
theorem Fx{n a:Int}(h1:1<=a)(h2:a<=n)(hn:n<1000):(wn n)[(a-1).toNat]?=some (aF a)/\∀m,m<(a-1).toNat->(wn n)[m]?≠some (aF a):=by
 constructor
 .rw[FI (by lia)]
  rw[show 1+((a-1).toNat:Int)=a by lia]
 .intro m hm z
  rw[FI (by lia)]at z;injection z with z
  have:=gU (by lia) (by lia) (by lia) (by lia) z;lia
theorem FK{n:Int}(hn:n<1000){r q:List (Int×Int)}(gr:Good n r)(gq:Good n q)(h:kf r=kf q):r=q:=by
 have b:∀{z:List (Int×Int)},Good n z->∀e∈z,0<=e.1/\0<=e.2:=fun g e he=>by have:=g e he;lia
 by_cases hr:r=[]
 .by_cases hq:q=[]
  .rw[hr,hq]
  .exact absurd (h.symm.trans (by rw[hr];rfl)) (lj hq (b gq))
 .by_cases hq:q=[]
  .exact absurd (h.trans (by rw[hq];rfl)) (lj hr (b gr))
  .have e:=jz hr (b gr)
   rw[h,jz hq (b gq)]at e;clear h hr hq
   induction r generalizing q with
   |nil=>cases q with
    |nil=>rfl
    |cons _ _=>cases e
   |cons x r ih=>cases q with
    |nil=>cases e
    |cons y q=>
     rw[Pm,Pm]at e;injection e with e1 e2
     have gx:=gr x Pt;have gy:=gq y Pt;have p:=vI (a:=y.1) (b:=y.2) (by lia) (by lia);rw[show gA (y.1,y.2)=gA (x.1,x.2)from e1,vI (by lia) (by lia)]at p;injection p with p1 p2
     injection p2 with _ p3
     rw[ih (fun e he=>gr e (Pu _ he)) (fun e he=>gq e (Pu _ he)) e2,
      Prod.ext (gU (by lia) (by lia) (by lia) (by lia) p1) (gU (by lia) (by lia) (by lia) (by lia) p3)]
def mY(r:List Int):Prop:=r≠[]/\∀i∈r,0<=i/\i<10^9
def vP(x:Str)(r:List Int):Prop:=x=qz r/\mY r
theorem gn:∀{r q:List Int},(∀i∈r,0<=i/\i<10^9)->(∀i∈q,0<=i/\i<10^9)->r.map aF=q.map aF->r=q
 |[],[],_,_,_=>rfl
 |[],_::_,_,_,h=>by cases h
 |_::_,[],_,_,h=>by cases h
 |a::r,b::q,h1,h2,h=>by
  rw[Pm,Pm]at h;injection h with h3 h4
  have ha:=h1 a Pt;have hb:=h2 b Pt;rw[gU ha.1 hb.1 (by lia) (by lia) h3,gn (fun i hi=>h1 i (Pu _ hi)) (fun i hi=>h2 i (Pu _ hi)) h4]
theorem vP.split {x:Str}{r:List Int}(h:vP x r):Txt.split x (Pd " ")=r.map aF:=by
 rw[h.1];exact Ew h.2.1 fun i hi=>(h.2.2 i hi).1
theorem vP.uniq {x:Str}{r q:List Int}(h:vP x r)(g:vP x q):r=q:=gn h.2.2 g.2.2 (h.split.symm.trans g.split)
theorem ze{x:Str}{r:List Int}(h:Txt.split x (Pd " ")=r.map aF):x=qz r:=by
 have e:=StrLaws.join_split x (Pd " ");rw[h]at e;exact e.symm
theorem m8:∀{S T:List (List Int)},(∀r∈S,mY r)->(∀r∈T,mY r)->S.map qz=T.map qz->S=T
 |[],[],_,_,_=>rfl
 |[],_::_,_,_,h=>by cases h
 |_::_,[],_,_,h=>by cases h
 |a::r,b::q,h1,h2,h=>by
  rw[Pm,Pm]at h;injection h with h3 h4
  rw[vP.uniq ⟨rfl,h1 a Pt⟩ ⟨h3,h2 b Pt⟩,m8 (fun i hi=>h1 i (Pu _ hi)) (fun i hi=>h2 i (Pu _ hi)) h4]
theorem Kf{Ls:List (List Int)}{m:Int}(ne:∀L∈Ls,L≠[])(nd:Ls.flatten.Nodup)(hm:(Ls.flatten.length:Int)=m)(all:∀x,1<=x->x<=m->x∈Ls.flatten):GI m Ls:=by
 refine⟨ne,?_⟩;refine(oP (jB m) (fun x hx=>?_) (by rw[aO];lia)).symm;have:=eG.mp hx;exact all x this.1 this.2
def u6(C:PY):Sp:=fun vs H Q E=>∃(x:Str),vs=[.str x]/\x.length<=990/\(∀r,vP x r->∀l H',H l=none->H' l=some (.lst (r.map V.int))->ai H H'->Q (.ref l) H')/\((∀r,¬vP x r)->∀H',ai H H'->E (.ref C) none H')
def BS(C:PY):Sp:=fun vs H Q E=>∃(l:PY)(ws:List V)(rs:List (List Int)),vs=[.ref l]/\H l=some (.lst ws)/\cV H ws rs/\ws.length<=1000/\(rs.flatten.length<=12->∀H',ai H H'->Q (.int (rs.flatten.length:Int)) H')/\(¬rs.flatten.length<=12->∀H',ai H H'->E (.ref C) none H')
structure Md(P:P0)(w:P4)(K:W.Frag)(mg:Str->Option PX)(base:Qd)(C:PY):Prop extends T1 mg K where
 bu:eI P w K mg base "read_number" 1 ["word"] (vC C)
structure LK(mg:Str->Option PX)(K:W.Frag)(u:PX)(C:PY):Prop extends O6 mg K u where
 aK:mg "NoText" =some (.ref C)
 bp:jo K C
section
variable{P:P0}{w:P4}{K:W.Frag}{mg:Str->Option PX}{base:Qd}{u:PX}{C:PY}
theorem AZ{f:PY}{fd:Qc}(F:dU K "read_things" "read_things" (top 82) f fd)(T:Md P w K mg base C):aQ P w K mg base (j4 P w) 2 f fd ["text"] (u6 C):=by
 refine F.DG rQ (fun vs H Q E h=>?_) (fun cdv A outer s H vs Q E hr h=>?_)
 .obtain⟨r,rfl,_⟩:=h
  rfl
 .obtain⟨x,rfl,xl,kY,kN⟩:=h
  refine⟨_,(ah (ay (yX (N:=(["word"]:List Str)) (ix:=([none]:List (Option Nat))) tf oX (aW rfl rfl) rfl (aV (K:=K) rfl (aP (K:=K) rfl PySem.F.plainAttrs_str PySem.F.slot_str_split PySem.F.type_str_split ck (pv 0) (aa ak ae))) (fun _ _ _ _=>(aA (i:=0) (show List.Nodup (["word"]:List Str)from by decide+kernel) rfl (Or.inl rfl))) (fun _ _ _ _=>bq) (fun _ _ _ _=>(bW T.bu (iD.passes pq) (hr.mono (by decide)) rfl (aa (pv 0) ae)))))),?_⟩;refine⟨_,rfl,rfl,_,_,rfl,rfl,by decide+kernel,by lia,fun l1 f1=>⟨l1,rfl,⟨_,aI.of af⟩,?_⟩⟩;have wl:=split_le x (Pd " ");have wp:∀z∈Txt.split x (Pd " "),z.length<=x.length:=fun z hz=>bO hz;have wne:=dv x (Pd " ");have fwd:∀r,vP x r->Txt.split x (Pd " ")=r.map aF:=fun r h=>h.split;have bwd:∀r,Txt.split x (Pd " ")=r.map aF->x=qz r:=fun r h=>ze h;generalize Txt.split x (Pd " ")=ws at wl wp wne fwd bwd⊢;have s1:ai H (upd H l1 (.lst (ws.map V.str))):=ai.new f1;have h1:upd H l1 (.lst (ws.map V.str)) l1=some (.lst (ws.map V.str)):=af;generalize upd H l1 (.lst (ws.map V.str))=H1 at s1 h1⊢;have ll:(ws.map V.str).length=ws.length:=by rw[Pe]
  refine iC (K:=K) (a:=l1) (xs:=ws.map V.str) (k:=0) (fun i ys σ' H'=>(∃v0,σ'=[v0])/\H'=H1/\∃r:List Int,ys=r.map V.int/\ws.take i=r.map aF/\∀i∈r,0<=i/\i<10^9) (by lia) ⟨⟨none,rfl⟩,rfl,[],rfl,rfl,by simp⟩ (fun i ys σ' H' _ q=>by rw[q.2.1];exact aI.of h1) (fun i ys σ' H' q=>?_) ?_ ?_
  .obtain⟨_,_,r,e1,e2,_⟩:=q
   have e2:=congrArg List.length e2;rw[Pe,Pn]at e2;rw[e1,Pe];lia
  .rintro i ys σ' H' z R hx ⟨⟨v0,rfl⟩,rfl,r,rfl,er,br⟩ done
   obtain⟨wd,hw,rfl⟩:∃wd,ws[i]?=some wd/\V.str wd=z:=by
    rw[Pf]at hx
    cases e:ws[i]? with
    |none=>rw[e]at hx;cases hx
    |some e'=>rw[e]at hx;exact⟨e',rfl,PU hx⟩
   have wdl:=wp wd (Pr hw);by_cases hn:j3 wd
   .obtain⟨a,rfl,a0,a9⟩:=hn
    refine⟨_,rfl,.inl ⟨a,rfl,a0,a9,done _ _ _ ⟨⟨_,rfl⟩,rfl,r++[a],by rw[Pj];rfl,?_,fun j hj=>?_⟩⟩⟩
    .rw[PJ,hw,er,Pj]
     rfl
    .rcases List.mem_append.mp hj with hj|hj
     .exact br j hj
     .rw[List.mem_singleton.mp hj];exact⟨a0,a9⟩
   .refine⟨_,rfl,.inr ⟨wd,rfl,by lia,hn,kN (fun q hq=>?_) _ s1⟩⟩
    have e:=fwd q hq;have m:wd∈q.map aF:=by rw[←e];exact Pr hw
    obtain⟨a,ha,rfl⟩:=List.mem_map.mp m;exact hn ⟨a,rfl,hq.2.2 a ha⟩
  .rintro ys σ' H' q ⟨⟨v0,rfl⟩,e0,r,rfl,er,br⟩ fq
   have e0:=e0.symm;subst e0;rw[Pw (by lia)]at er;exact kY r ⟨bwd r er,fun z=>by rw[z]at er;exact wne er,br⟩ q _ (s1.free fq) af (s1.trans (ai.new fq))
theorem E7{f:PY}{fd:Qc}(F:dU K "many_things" "many_things" (top 83) f fd)(T:LK mg K u C):aQ P w K mg base (j4 P w) 1 f fd ["lists"] (BS C):=by
 refine F.DG kH (fun vs H Q E h=>?_) (fun cdv A outer s H vs Q E hr h=>?_)
 .obtain⟨l,ws,rs,rfl,_⟩:=h
  rfl
 .obtain⟨l,ws,rs,rfl,hl,hx,hw,kY,kN⟩:=h
  refine⟨_,(ag (aC (i:=1) kH.nd rfl (Or.inl rfl) (ar (Fe (K:=K) rfl rfl) rfl T.JD (by decide+kernel) (aa (bU (N:=(["things"]:List Str)) (ix:=([none]:List (Option Nat))) (aW rfl rfl) rfl (aV (K:=K) rfl (pv 0)) (fun _ _ _ _=>(aA (i:=0) (show List.Nodup (["things"]:List Str)from by decide+kernel) rfl (Or.inl rfl))) (fun _ _ _ _=>bq) (fun _ _ _ _=>(ar (aZ (K:=K) rfl) rfl T.bX (by decide+kernel) (aa (pv 0) ae)))) ae)))
   (ag (aN (aw qo (pv 1) (de rfl T.mB T.mC) (aB _)) (ah (cb n6 T.bp rfl rfl T.aK (aa ak ae))) ax)
   (ah (ay (pv 1))))),?_⟩
  have wl:=hx.length;refine⟨_,rfl,l,rfl,⟨_,aI.of hl⟩,iC (K:=K) (a:=l) (xs:=ws) (k:=0) (fun i ys σ' H'=>ys=((rs.take i).map fun r=>(r.length:Int)).map V.int/\(∃v0,σ'=[v0])/\H'=H) (by lia) ⟨rfl,⟨none,rfl⟩,rfl⟩ (fun i ys σ' H' _ q=>by rw[q.2.2];exact aI.of hl) (fun i ys σ' H' q=>by rw[q.1,Pe,Pe,Pn];lia) ?_ ?_⟩
  .rintro i ys σ' H' x R hx' ⟨rfl,⟨v0,rfl⟩,rfl⟩ done
   obtain⟨a,r,rfl,ha,hr'⟩:=hx.get hx';refine⟨_,rfl,a,_,rfl,.inl (aI.of ha),done _ _ _ ⟨?_,⟨_,rfl⟩,rfl⟩⟩;rw[aR (fun r:List Int=>(r.length:Int)) hr',Pj,Pe];rfl
  .rintro ys σ' H' q ⟨rfl,⟨v0,rfl⟩,e0⟩ fq
   have e0:=e0.symm;subst e0;rw[Pw (by lia)];have sm:(rs.map fun r=>(r.length:Int)).sum=(rs.flatten.length:Int):=by
    clear hx wl kY kN
    induction rs with
    |nil=>rfl
    |cons r rs ih=>rw[Pm,List.sum_cons,ih,List.flatten_cons,Pg];lia
   refine⟨q,_,rfl,aI.of af,?_⟩;rw[sm];refine⟨_,rfl,_,_,rfl,rfl,_,rfl,cg (fun c=>?_) (fun c=>?_)⟩
   .have c:=of_decide_eq_true c
    exact⟨(by show 1<=P6;decide),kN (by lia) _ (ai.new fq)⟩
   .have c:¬(rs.flatten.length:Int)>12:=fun z=>c (decide_eq_true z)
    exact⟨_,rfl,kY (by lia) _ (ai.new fq)⟩
end
def yJ(C:PY):Sp:=fun vs H Q E=>∃(n:Int)(l:PY)(ws:List V)(rs:List (List Int)),vs=[.int n,.ref l]/\H l=some (.lst ws)/\cV H ws rs/\ws.length<=1000/\(∀r∈rs,r.length<=1000)/\(kh n rs->∀H',ai H H'->Q .cE H')/\(¬kh n rs->∀H',ai H H'->E (.ref C) none H')
def BL(C:PY):Sp:=fun vs H Q E=>∃(n:Int)(l:PY)(ws:List V)(rs:List (List Int)),vs=[.int n,.ref l]/\0<=n/\n<=1000/\H l=some (.lst ws)/\cV H ws rs/\ws.length<=1000/\(∀r∈rs,r.length<=1000)/\
 (kh n rs->∀t H',H t=none->H' t=some (.tup ((eE n rs).map V.int))->ai H H'->Q (.ref t) H')/\(¬kh n rs->∀H',ai H H'->E (.ref C) none H')
structure OD(P:P0)(w:P4)(K:W.Frag)(mg:Str->Option PX)(base:Qd)(C:PY):Prop extends T1 mg K where
 eV:FnAt P w K mg base "is_between" 2 ["thing","low","high"] MU
 bT:mg "NoRounds" =some (.ref C)
 jF:jo K C
structure OI(P:P0)(w:P4)(K:W.Frag)(mg:Str->Option PX)(base:Qd)(C:PY):Prop extends T1 mg K where
 qf:mg "enumerate" =none
 BE:FnAt P w K mg base "plain" 1 ["n"] B2
 kO:eI P w K mg base "check_rounds" 3 ["n","lists"] (yJ C)
section
variable{P:P0}{w:P4}{K:W.Frag}{mg:Str->Option PX}{base:Qd}{C:PY}
theorem dD:aE ["n","lists","seen","things","thing"] ["n","lists"] (av (top 26)):=⟨rfl,rfl,rfl,by decide+kernel,rfl,by decide+kernel,by decide+kernel⟩
theorem Dz{f:PY}{fd:Qc}(F:dU K "check_rounds" "check_rounds" (top 26) f fd)(T:OD P w K mg base C):aQ P w K mg base (j4 P w) 3 f fd ["n","lists"] (yJ C):=by
 refine F.DG dD (fun vs H Q E h=>?_) (fun cdv A outer s H vs Q E hr h=>?_)
 .obtain⟨n,l,ws,rs,rfl,_⟩:=h
  rfl
 .obtain⟨n,l,ws,rs,rfl,hl,hx,hwl,hrl,kQ,kE⟩:=h
  refine⟨_,(ag (aC (i:=2) dD.nd rfl (Or.inl rfl) (bH ae))
   (ah (cP Hv rfl (aV (K:=K) rfl (pv 1)) (aA (i:=3) dD.nd rfl (Or.inl rfl)) (ag (aN (aw bR (ar (aZ (K:=K) rfl) rfl T.bX (by decide+kernel) (aa (pv 3) ae)) aj (aB _)) (ah (cb n6 T.jF rfl rfl T.bT (aa ak ae))) ax)
   (ah (cP Hv rfl (aV (K:=K) rfl (pv 3)) (aA (i:=4) dD.nd rfl (Or.inl rfl)) (ag (aN (dm (dq (aq T.eV (hr.mono (by first|decide|lia)) rfl (@aa _ _ _ _ _ (pv 4) (@aa _ _ _ _ _ aj (@aa _ _ _ _ _ (pv 0) ae bA) kq) bA)))) (ah (cb n6 T.jF rfl rfl T.bT (aa ak ae))) ax)
   (ag (aN (aw (Ap (K:=K) rfl) (pv 4) (pv 2) rfl) (ah (cb n6 T.jF rfl rfl T.bT (aa ak ae))) ax)
   (ah (cj (aP (K:=K) rfl PySem.F.plainAttrs_list PySem.F.slot_list_append PySem.F.type_list_append c8 (pv 2) (aa (pv 4) ae)))))))))))),?_⟩
  have big:(10000000:Nat)<=P6:=by decide
  refine⟨PQ _,fun ls hls=>?_⟩;have wl:=hx.length;have s1:ai H (upd H ls (.lst [])):=ai.new hls;refine⟨_,rfl,l,rfl,⟨_,aI.of (s1 _ _ hl)⟩,gu (K:=K) (a:=l) (xs:=ws) (fun i σ H'=>(∃v3 v4,σ=[some (.int n),some (.ref l),some (.ref ls),v3,v4])/\ai H H'/\H' ls=some (.lst ((rs.take i).flatten.map V.int))/\(rs.take i).flatten.length<=1000*i/\kh n (rs.take i))
   ⟨⟨_,_,rfl⟩,s1,af,PQ _,GB⟩ (fun i σ H' _ q=>aI.of (q.2.1 _ _ hl)) ?_ ?_⟩
  .rintro i x σ H' hi ⟨⟨v3,v4,rfl⟩,s2,h2,l2,fi⟩
   obtain⟨a,r,rfl,ha,hrr⟩:=hx.get hi;have rl:=hrl r (Pr hrr);have ilt:i<ws.length:=(List.getElem?_eq_some_iff.mp hi).1;refine⟨_,rfl,a,_,rfl,.inl (aI.of (s2 _ _ ha)),rfl,_,rfl,?_⟩;by_cases rn:r=[]
   .subst rn
    refine zA ?_;exact⟨(by show 1<=P6;decide),kE (wN hrr) _ s2⟩
   have rpos:0<r.length:=List.length_pos_iff.mpr rn;refine pB (decide_eq_false (by rw[Pe];intro z;have:=V.int.inj z;lia)) ?_;refine⟨_,rfl,a,rfl,⟨_,aI.of (s2 _ _ ha)⟩,gu (K:=K) (a:=a) (xs:=r.map V.int) (fun j σ H'=>(∃v4,σ=[some (.int n),some (.ref l),some (.ref ls),some (.ref a),v4])/\ai H H'/\H' ls=some (.lst (((rs.take i).flatten++r.take j).map V.int))/\((rs.take i).flatten++r.take j).Nodup/\∀x∈r.take j,1<=x/\x<=n)
    ⟨⟨_,rfl⟩,s2,by rw[List.take_zero,PD];exact h2,by rw[List.take_zero,PD];exact fi.2,fun x hx=>(by rw[List.take_zero]at hx;cases hx)⟩ (fun j σ H' _ q=>aI.of (q.2.1 _ _ ha)) ?_ ?_⟩
   .rintro j x σ H3 hj ⟨⟨v4,rfl⟩,s3,h3,nd3,b3⟩
    obtain⟨z,rfl,hz⟩:=qZ hj;have jlt:j<r.length:=(List.getElem?_eq_some_iff.mp hz).1;refine⟨_,rfl,_,rfl,z,1,n,rfl,_,rfl,?_⟩;by_cases zb:1<=z/\z<=n
    .refine pB (by rw[decide_eq_true zb];rfl) ?_
     refine⟨_,rfl,_,rfl,ls,_,rfl,.inl (aI.of h3),rfl,u9 _,_,rfl,?_⟩;by_cases nin:z∈(rs.take i).flatten++r.take j
     .refine FG (by show CO _ _=true;rw[wG];exact decide_eq_true nin) ?_
      exact⟨(by show 1<=P6;decide),kE (sf hrr hz nin) _ s3⟩
     .refine pB (by show CO _ _=false;rw[wG];exact decide_eq_false nin) ?_
      refine⟨_,rfl,.inl ⟨rfl,_,aI.of h3⟩,_,rfl,ls,_,_,rfl,rfl,h3,?_,⟨_,rfl⟩,ai.put s3 hls,?_,?_,?_⟩
      .rw[Pe,Pg,Pn]
       have:1000*i<=1000*1000:=Nat.mul_le_mul_left _ (by lia);lia
      .rw[af,take_snoc hz,←PF,Pj (l₂:=[z])]
       rfl
      .rw[take_snoc hz,←PF]
       exact AS nd3 nin
      .intro x hx
       rw[take_snoc hz]at hx;rcases List.mem_append.mp hx with q|q
       .exact b3 x q
       .rw[List.mem_singleton.mp q];exact zb
    .refine FG (by rw[decide_eq_false zb];rfl) ?_
     exact⟨(by show 1<=P6;decide),kE (vW hrr (Pr hz) zb) _ s3⟩
   .rintro σ H3 ⟨⟨v4,rfl⟩,s3,h3,nd3,b3⟩
    rw[Pe,List.take_length]at h3 nd3 b3;refine⟨⟨_,_,rfl⟩,s3,?_,?_,CY fi hrr rn b3 nd3⟩
    .rw[lU hrr];exact h3
    .rw[lU hrr,Pg];lia
  .rintro σ H' ⟨⟨v3,v4,rfl⟩,s2,h2,_,fi⟩
   rw[Pw (by lia)]at fi;exact kQ fi H' s2
theorem oh:aE ["n","lists","leads","things","at","thing"] ["n","lists"] (av (top 27)):=⟨rfl,rfl,rfl,by decide+kernel,rfl,by decide+kernel,by decide+kernel⟩
theorem Fv{f:PY}{fd:Qc}(F:dU K "made" "made" (top 27) f fd)(T:OI P w K mg base C):aQ P w K mg base (j4 P w) 4 f fd ["n","lists"] (BL C):=by
 refine F.DG oh (fun vs H Q E h=>?_) (fun cdv A outer s H vs Q E hr h=>?_)
 .obtain⟨n,l,ws,rs,rfl,_⟩:=h
  rfl
 .obtain⟨n,l,ws,rs,rfl,n0,n1,hl,hx,hwl,hrl,kQ,kE⟩:=h
  refine⟨_,(ag (cj (bW T.kO j8 (hr.mono (by decide)) rfl (aa (pv 0) (aa (pv 1) ae))))
   (ag (aC (i:=2) oh.nd rfl (Or.inl rfl) (aY (tS (K:=K) rfl) rfl T.wY (by decide+kernel) (aa (aq T.BE (hr.mono (by first|decide|lia)) rfl (aa (pv 0) ae)) ae)))
   (ag (cP Hv rfl (aV (K:=K) rfl (pv 1)) (aA (i:=3) oh.nd rfl (Or.inl rfl)) (ah (cP Hv rfl (D8 (K:=K) rfl rfl T.qf (aa (pv 3) ae)) (gV (K:=K) (n:=2) rfl rfl (bD (aA (i:=4) oh.nd rfl (Or.inl rfl)) (bD (aA (i:=5) oh.nd rfl (Or.inl rfl)) gS))) (ah (pJ (bC (aJ (K:=K) rfl) (pv 3) (aG h7 (aG bG (pv 4) aj) (ar (aZ (K:=K) rfl) rfl T.bX (by decide+kernel) (aa (pv 3) ae))) (fun _ _=>rfl)) (pK (pv 2) (aG ku (pv 5) aj) set_list))))))
   (ah (ay (aY (cz (K:=K) rfl) rfl T.gT (by decide+kernel) (aa (pv 2) ae))))))),?_⟩
  have big:(10000000:Nat)<=P6:=by decide
  refine⟨_,rfl,_,rfl,n,l,ws,rs,rfl,hl,hx,hwl,hrl,fun hF H1 s1=>?_,kE⟩;have hR:=pk hF;have hxl:=gQ n rs;have k:=kQ hF;generalize eE n rs=xs at hR hxl k;refine⟨_,rfl,n,rfl,n0,n1,fun t H2 ft ht s2=>⟨t,_,rfl,.inr (gL.of ht),fun lv hlv=>?_⟩⟩;have s3:=(s1.trans s2).trans (ai.new (o:= .lst ((cZ 1 (n+1)).map V.int)) hlv);have flv:H lv=none:=(s1.trans s2).free hlv;have pl0:∀x,1<=x->x<=n->ld (cZ 1 (n+1)) x=x:=fun x a b=>(Gz n).rest x a b (by simp);refine⟨_,rfl,l,rfl,⟨_,aI.of (s3 _ _ hl)⟩,gu (K:=K) (a:=l) (xs:=ws) (fun i σ H'=>(∃v3 v4 v5,σ=[some (.int n),some (.ref l),some (.ref lv),v3,v4,v5])/\ai H H'/\∃ls,H' lv=some (.lst (ls.map V.int))/\ls.length=n.toNat/\∀x,1<=x->x<=n->ld ls x=if x∈(rs.take i).flatten then ld xs x else x)
   ⟨⟨_,_,_,rfl⟩,s3,cZ 1 (n+1),af,by rw[aO];lia,fun x a b=>by simp[pl0 x a b]⟩ (fun i σ H' _ q=>aI.of (q.2.1 _ _ hl)) ?_ ?_⟩
  .rintro i x σ H' hi ⟨⟨v3,v4,v5,rfl⟩,s4,ls,h4,l4,e4⟩
   obtain⟨a,r,rfl,ha,hrr⟩:=hx.get hi;have Jz:=hR.Jz r (Pr hrr);have rl:=hrl r (Pr hrr);have et:rs.take (i+1)=rs.take i++[r]:=by rw[PJ,hrr];rfl
   refine⟨_,rfl,a,_,rfl,aI.of (s4 _ _ ha),Du (K:=K) (a:=a) (xs:=r.map V.int) (fun j σ H'=>(∃v4 v5,σ=[some (.int n),some (.ref l),some (.ref lv),some (.ref a),v4,v5])/\ai H H'/\∃ls,H' lv=some (.lst (ls.map V.int))/\ls.length=n.toNat/\∀x,1<=x->x<=n->ld ls x=if x∈(rs.take i).flatten++r.take j then ld xs x else x)
    ⟨⟨_,_,rfl⟩,s4,ls,h4,l4,by rw[List.take_zero,PD];exact e4⟩ (fun j σ H' _ q=>aI.of (q.2.1 _ _ ha)) ?_ ?_⟩
   .rintro j σ H5 tt v hv ⟨⟨v4,v5,rfl⟩,s5,ls,h5,l5,e5⟩ ftt
    obtain⟨z,rfl,hz⟩:=qZ hv;obtain⟨z1,z2,z3⟩:=Jz.2 j z hz;have jlt:j<r.length:=(List.getElem?_eq_some_iff.mp hz).1;have etj:r.take (j+1)=r.take j++[z]:=by rw[PJ,hz];rfl
    have st:ai H5 (upd H5 tt (.tup [.int (j:Int),.int z])):=ai.new ftt;have lpos:(0:Int)<((r.map V.int).length:Int):=by rw[Pe];lia
    have em:((j:Int)+1)%((r.map V.int).length:Int)=(((j+1)%r.length:Nat):Int):=by rw[Pe];rfl
    have hat:wm (r.map V.int) (((j:Int)+1)%((r.map V.int).length:Int))=some (.int (ld xs z)):=by
     rw[em];exact bN (by rw[Pf,z3];rfl)
    refine⟨tt,_,rfl,gL.of af,rfl,_,_,rfl,_,_,rfl,rfl,?_⟩;refine⟨_,rfl,_,rfl,_,_,rfl,rfl,_,rfl,a,_,rfl,.inl (aI.of (st _ _ (s5 _ _ ha))),_,_,rfl,rfl,lpos,a,_,_,_,rfl,rfl,aI.of (st _ _ (s5 _ _ ha)),hat,?_⟩;refine⟨_,rfl,_,rfl,_,_,rfl,rfl,lv,_,_,(z-1).toNat,rfl,rfl,st _ _ h5,sA (by lia) (by rw[Pe];lia),?_⟩;refine⟨⟨_,_,rfl⟩,ai.put (s5.trans st) flv,ls.set (z-1).toNat (ld xs z),by rw[af,List.map_set],by rw[List.length_set];exact l5,fun y y1 y2=>?_⟩;rw[etj,←PF];unfold ld at e5⊢;rw[Pq (l:=ls.set _ _)];by_cases ey:y=z
    .subst ey
     rw[List.getElem?_set_self (by lia),if_pos (by simp)];rfl
    .rw[List.getElem?_set_ne (by lia),←Pq,e5 y y1 y2]
     have:(y∈(rs.take i).flatten++r.take j++[z])↔(y∈(rs.take i).flatten++r.take j):=by
      rw[List.mem_append (t:=[z])];simp[ey]
     simp only[this]
   .rintro σ H5 ⟨⟨v4,v5,rfl⟩,s5,ls,h5,l5,e5⟩
    rw[Pe,List.take_length]at e5;refine⟨⟨_,_,_,rfl⟩,s5,ls,h5,l5,?_⟩;rw[et,List.flatten_append,List.flatten_cons,List.flatten_nil,PD];exact e5
  .rintro σ H' ⟨⟨v3,v4,v5,rfl⟩,s4,ls,h4,l4,e4⟩
   rw[Pw (by rw[hx.length];exact PK _)]at e4;have e:ls=xs:=Cj l4 hxl fun x a b=>by
    rw[e4 x a b]
    split
    .rfl
    .rename_i h;exact(hR.rest x a b h).symm
   subst e;refine⟨_,rfl,lv,_,rfl,.inl ⟨aI.of h4,fun t2 ft2=>?_⟩⟩;exact k t2 _ (s4.free ft2) af (s4.trans (ai.new ft2))
end
structure OG(P:P0)(w:P4)(K:W.Frag)(mg:Str->Option PX)(base:Qd):Prop extends T1 mg K where
 ic:mg "min" =none
 nX:FnAt P w K mg base "round_from" 1 ["order","first"] Mh
section
variable{P:P0}{w:P4}{K:W.Frag}{mg:Str->Option PX}{base:Qd}
theorem fU:aE ["order","first","found","thing"] ["order","first"] (av (top 23)):=⟨rfl,rfl,rfl,by decide+kernel,rfl,by decide+kernel,by decide+kernel⟩
theorem Mo{f:PY}{fd:Qc}(F:dU K "round_from" "round_from" (top 23) f fd):aQ P w K mg base i4 1 f fd ["order","first"] Mh:=by
 refine F.ok fU (fun vs H Q E h=>?_) (fun cdv A outer s H vs Q E hr h=>?_)
 .obtain⟨t,n,x,xs,rfl,_⟩:=h
  rfl
 .obtain⟨t,n,x,xs,rfl,ht,o,hn,x1,x2,k⟩:=h
  refine⟨_,(ag (aC (i:=2) fU.nd rfl (Or.inl rfl) (bH (aa (pv 1) ae)))
   (ag (aC (i:=3) fU.nd rfl (Or.inl rfl) (bC (mf (K:=K) rfl) (pv 0) (aG ku (pv 1) aj) (fun _ _=>rfl)))
   (ag (yK PassesOwn.never (aw eC (pv 3) (pv 1) (aB _)) (ag (cj (aP (K:=K) rfl PySem.F.plainAttrs_list PySem.F.slot_list_append PySem.F.type_list_append c8 (pv 2) (aa (pv 3) ae)))
   (ah (aC (i:=3) fU.nd rfl (Or.inl rfl) (bC (mf (K:=K) rfl) (pv 0) (aG ku (pv 3) aj) (fun _ _=>rfl))))))
   (ah (ay (pv 2)))))),?_⟩
  have ol:=o.length;have big:(100000:Nat)<=P6:=by decide
  refine⟨_,rfl,(by show 1<=P6;decide),fun l hl=>?_⟩;have s1:ai H (upd H l (.lst [V.int x])):=ai.new hl;refine⟨_,rfl,_,rfl,_,_,rfl,rfl,t,_,_,_,rfl,rfl,gL.of (s1 _ _ ht),jC (by lia) (o9 o x1 x2),?_⟩;refine⟨fun m σ H'=>∃i,m=gj xs x-i/\1<=i/\i<=gj xs x/\σ=[some (.ref t),some (.int x),some (.ref l),some (.int (dY (ld xs) i x))]/\ai H H'/\H' l=some (.lst (((List.range i).map fun k=>dY (ld xs) k x).map V.int)),⟨_,1,rfl,PK _,by unfold gj;lia,rfl,s1,af⟩,?_⟩;rintro m σ H' ⟨i,rfl,i1,i2,rfl,s2,h2⟩;have pl:=Ea o x1 x2;have ir:=dH o x1 x2 i;refine⟨_,rfl,_,rfl,rfl,_,rfl,cg (fun c=>?_) (fun c=>?_)⟩
  .have c:dY (ld xs) i x≠x:=by simpa using c
   have lt:i<gj xs x:=by
    by_cases e:i=gj xs x
    .rw[e]at c;exact absurd (oN o x1 x2) c
    .lia
   refine⟨fun σ' H'=>σ'=[some (.ref t),some (.int x),some (.ref l),some (.int (dY (ld xs) (i+1) x))]/\ai H H'/\H' l=some (.lst (((List.range (i+1)).map fun k=>dY (ld xs) k x).map V.int)),fun σ' H' ⟨e1,e2,e3⟩=>⟨_,(by show gj xs x-(i+1)<_;lia),i+1,rfl,by lia,by lia,e1,e2,e3⟩,?_⟩;refine⟨_,rfl,.inl ⟨rfl,_,aI.of h2⟩,_,rfl,l,_,_,rfl,rfl,h2,by simp;lia,?_⟩;have s3:ai H (upd H' l (.lst (((List.range i).map fun k=>dY (ld xs) k x).map V.int++[.int (dY (ld xs) i x)]))):=fun b ob e=>by rw[ao (au e hl)];exact s2 b ob e
   refine⟨_,rfl,_,rfl,_,_,rfl,rfl,t,_,_,_,rfl,rfl,gL.of (s3 _ _ ht),jC (by lia) (o9 o ir.1 ir.2),?_⟩;refine⟨rfl,s3,?_⟩;rw[af,List.range_succ,Pj,Pj];rfl
  .have c:dY (ld xs) i x=x:=by simpa using c
   have e:i=gj xs x:=by
    apply PV;intro z;exact vS (by lia) (by lia) c
   subst e;exact⟨_,rfl,k l H' hl h2 s2⟩
theorem uQ:aE ["order","begun"] ["order"] (av (top 24)):=⟨rfl,rfl,rfl,by decide+kernel,rfl,by decide+kernel,by decide+kernel⟩
theorem DJ{f:PY}{fd:Qc}(F:dU K "rounds" "rounds" (top 24) f fd)(T:OG P w K mg base):aQ P w K mg base i4 3 f fd ["order"] jh:=by
 refine F.ok uQ (fun vs H Q E h=>?_) (fun cdv A outer s H vs Q E hr h=>?_)
 .obtain⟨t,n,xs,rfl,_⟩:=h
  rfl
 .obtain⟨t,n,xs,rfl,ht,o,hn,k⟩:=h
  refine⟨_,(ag (lZ (i:=1) uQ.nd rfl rfl (N:=(["first","order"]:List Str)) (ix:=([none,some 0]:List (Option Nat))) (aW rfl rfl) rfl (gY rfl T.cS (aa aj (aa (aG bG (ar (aZ (K:=K) rfl) rfl T.bX (by decide+kernel) (aa (pv 0) ae)) aj) ae))) (fun _ _ _ _=>(aA (i:=0) (show List.Nodup (["first","order"]:List Str)from by decide+kernel) rfl (Or.inl rfl))) (fun _ _ _ _=>bq) (fun _ _ _ _=>(aq T.nX (hr.mono (by first|decide|lia)) rfl (aa (pv 1) (aa (pv 0) ae)))))
   (ah (ay (bU (N:=(["found"]:List Str)) (ix:=([none]:List (Option Nat))) (aW rfl rfl) rfl (aV (K:=K) rfl (pv 1)) (fun _ _ _ _=>(aA (i:=0) (show List.Nodup (["found"]:List Str)from by decide+kernel) rfl (Or.inl rfl))) (fun _ _ _ _=>(qL (aw bR (bC (aJ (K:=K) rfl) (pv 0) aj (fun _ _=>rfl)) (ar (vb (K:=K) rfl rfl) rfl T.ic (by decide+kernel) (aa (pv 0) ae)) (aB _)))) (fun _ _ _ _=>(pv 0)))))),?_⟩
  have ol:=o.length;have big:(100000:Nat)<=P6:=by decide
  refine⟨_,rfl,t,_,rfl,.inr (gL.of ht),_,_,rfl,rfl,1,_,rfl,⟨by decide,by decide,by lia,by rw[Pe];lia⟩,ye (k:=0) (fun i ys σ' H'=>(∃v,σ'=[v,some (.ref t)])/\ai H H'/\cV H' ys (((cZ 1 (n+1)).take i).map (iQ xs))/\jq H ys/\ys.length=i) (by rw[Pe];lia) ⟨⟨none,rfl⟩,ai.refl _,.nil,jq.nil,rfl⟩ (fun i ys σ' H' q=>Nat.le_of_eq q.2.2.2.2) ?_ ?_⟩
  .rintro i ys σ' H' R hi ⟨⟨v,rfl⟩,s1,x1,f1,l1⟩ done
   rw[Pe]at hi;refine⟨_,rfl,_,rfl,t,n,1+(i:Int),xs,rfl,s1 _ _ ht,o,hn,by lia,by lia,fun l H2 hl h2 s2=>done _ _ _ ⟨⟨_,rfl⟩,s1.trans s2,?_,f1.snoc x1 hl (s1.free hl),?_⟩⟩
   .rw[aR (iQ xs) (eD (lo:=1) (hi:=n+1) (i:=i) (by lia))]
    exact(x1.keep s2).snoc h2
   .rw[Pg,l1];rfl
  .rintro ys σ' H' p ⟨⟨v,rfl⟩,s1,x1,f1,l1⟩ hp
   have et:(cZ 1 (n+1)).take (((xs.map V.int).length:Int)+1-1).toNat=cZ 1 (n+1):=Pw (by rw[aO,Pe];lia);rw[et]at x1;rw[Pe]at l1;have s2:=s1.trans (ai.new (o:= .lst ys) hp);have x2:=x1.keep (ai.new (o:= .lst ys) hp);have h2:upd H' p (.lst ys) p=some (.lst ys):=af;generalize upd H' p (.lst ys)=H2 at s2 x2 h2⊢;refine⟨_,rfl,p,rfl,⟨_,aI.of h2⟩,Ii (K:=K) (a:=p) (xs:=ys) (k:=0) (fun i zs σ' H''=>(∃v,σ'=[v])/\H''=H2/\zs.Sublist (ys.take i)/\cV H2 zs ((((cZ 1 (n+1)).take i).filter (least xs)).map (iQ xs))) (by lia) ⟨⟨none,rfl⟩,rfl,List.nil_sublist _,.nil⟩
    (fun i zs σ' H'' _ q=>by rw[q.2.1];exact aI.of h2) (fun i zs σ' H'' q=>by have:=q.2.2.1.length_le;rw[Pn]at this;lia) ?_ ?_⟩
   .rintro i zs σ' H'' x R hx ⟨⟨v,rfl⟩,rfl,sb,lx⟩ done
    obtain⟨a,ns,rfl,ha,hns⟩:=x2.get hx;rw[Pf]at hns;have hi:i<(n+1-1).toNat:=by
     have:=List.getElem?_eq_some_iff.mp hx;obtain⟨z,_⟩:=this;rw[x2.length,Pe,aO]at z;exact z
    have gi:=eD hi;rw[gi]at hns;cases hns;have ib1:(1:Int)<=1+i:=by lia
    have ib2:(1:Int)+i<=n:=by lia
    have h0:(iQ xs (1+i))[0]?=some (1+(i:Int)):=by
     unfold iQ;rw[Pf,List.getElem?_range (by unfold gj;lia)];rfl
    have et2:(ys.take (i+1))=ys.take i++[.ref a]:=by rw[PJ,hx];rfl
    have ef:((cZ 1 (n+1)).take (i+1))=(cZ 1 (n+1)).take i++[1+(i:Int)]:=by rw[PJ,gi];rfl
    obtain⟨M,M1,M2⟩:∃M,M∈iQ xs (1+i)/\∀b∈iQ xs (1+i),M<=b:=sZ (List.ne_nil_of_mem (Pr h0));refine⟨_,rfl,a,_,_,_,rfl,rfl,aI.of ha,jC (by lia) h0,_,rfl,a,_,M,rfl,aI.of ha,M1,M2,rfl,_,rfl,?_⟩;have el:decide (V.int (1+(i:Int))=V.int M)=least xs (1+i):=by
     rw[Bool.eq_iff_iff];unfold least;rw[List.all_eq_true];simp only[decide_eq_true_eq];constructor
     .intro e b hb
      cases e;exact M2 b hb
     .intro h
      have e1:=h M M1;have e2:=M2 _ (Pr h0);rw[Int.le_antisymm e1 e2]
    rw[el];cases hL:least xs (1+(i:Int))with
    |true=>
     refine zA ⟨_,rfl,done _ _ _ ⟨⟨_,rfl⟩,rfl,?_,?_⟩⟩
     .rw[et2];exact sb.append (List.Sublist.refl _)
     .rw[ef,List.filter_append,Pj,List.filter_cons_of_pos hL]
      exact lx.snoc ha
    |false=>
     refine Gy (done _ _ _ ⟨⟨_,rfl⟩,rfl,?_,?_⟩)
     .rw[et2];exact sb.trans (List.sublist_append_left _ _)
     .rw[ef,List.filter_append,Pj,List.filter_cons_of_neg (by rw[hL];decide),List.filter_nil,List.map_nil,PD]
      exact lx
   .rintro zs σ' H'' q ⟨⟨v,rfl⟩,rfl,sb,lx⟩ hq
    rw[Pw (PK _)]at sb;have e3:(cZ 1 (n+1)).take ys.length=cZ 1 (n+1):=Pw (by rw[aO,l1];lia);rw[e3]at lx;refine k q zs _ (s2.free hq) af (lx.keep (ai.new hq)) (f1.sub sb) (fun z=>?_) (s2.trans (ai.new hq));obtain⟨ns,e⟩:=lx.mem z;rw[hq]at e;cases e
end
theorem Kc(x:Str)(lo:Option Int){j:Int}(h:0<=j):Txt.slice x lo (some j)=Txt.slice x lo (some (min j (x.length:Int))):=by
 have e:Qi.Str.strSliceIndices lo (some j) 1 x.length=Qi.Str.strSliceIndices lo (some (min j (x.length:Int))) 1 x.length:=by
  unfold Qi.Str.strSliceIndices;dsimp only;rw[if_neg (by lia:¬j<0),if_neg (by lia:¬min j (x.length:Int)<0)];congr 1;simp only[show(1:Int)>0 from by decide,if_true];lia
 unfold Txt.slice;rw[e]
theorem JP(x:Str)(hi:Option Int){i:Int}(h:0<=i):Txt.slice x (some i) hi=Txt.slice x (some (min i (x.length:Int))) hi:=by
 have e:Qi.Str.strSliceIndices (some i) hi 1 x.length=Qi.Str.strSliceIndices (some (min i (x.length:Int))) hi 1 x.length:=by
  unfold Qi.Str.strSliceIndices;dsimp only;rw[if_neg (by lia:¬i<0),if_neg (by lia:¬min i (x.length:Int)<0)];congr 1;simp only[show(1:Int)>0 from by decide,if_true];lia
 unfold Txt.slice;rw[e]
theorem A8(x:Str){j:Int}(h:0<=j):signs (Txt.slice x none (some j))=(signs x).take j.toNat:=by
 have l:=aS x;rw[Kc x none h];show signs (StrLaws.sliceText x _ _)=_;rw[StrLaws.sliceText_to ⟨by lia,by show _<=((signs x).length:Int);lia⟩];show List.take _ (List.drop 0 (signs x))=_;rw[List.drop_zero];by_cases c:j<=x.length
 .rw[Int.min_eq_left c,Int.sub_zero]
 .rw[Int.min_eq_right (by lia),Pw (by lia),Pw (by lia)]
theorem yG(x:Str){i:Int}(h:0<=i):signs (Txt.slice x (some i) none)=(signs x).drop i.toNat:=by
 have l:=aS x;rw[JP x none h];show signs (StrLaws.sliceText x _ _)=_;rw[StrLaws.sliceText_from ⟨by lia,by show _<=((signs x).length:Int);lia⟩];show List.take ((((signs x).length:Nat):Int)-_).toNat (List.drop _ (signs x))=_;by_cases c:i<=x.length
 .rw[Int.min_eq_left c,Pw (by rw[List.length_drop];lia)]
 .rw[Int.min_eq_right (by lia),List.drop_eq_nil_of_le (by lia:(signs x).length<=i.toNat),List.drop_eq_nil_of_le (by lia),List.take_nil]
theorem qX{n:Int}{xs r:List Int}(c:Mw n xs r){h:Int}:∀(k j:Nat),r[j]?=some h->r[(j+k)%r.length]?=some (dY (ld xs) k h)
 |0,j,h0=>by
  have:=(List.getElem?_eq_some_iff.mp h0).1;rw[Nat.add_zero,Nat.mod_eq_of_lt this];exact h0
 |k+1,j,h0=>by
  have ih:=qX c k j h0;obtain⟨_,_,c3⟩:=c.2 _ _ ih;show r[(j+(k+1))%r.length]?=some (ld xs (dY (ld xs) k h));rw[←c3,Nat.mod_add_mod];rfl
theorem GY{n:Int}{xs r:List Int}(o:Ord n xs)(c:Mw n xs r)(nd:r.Nodup){h:Int}(h0:r[0]?=some h):iQ xs h=r:=by
 have pos:0<r.length:=List.length_pos_iff.mpr c.1;obtain⟨b1,b2,_⟩:=c.2 0 h h0;have it:∀k,r[k%r.length]?=some (dY (ld xs) k h):=fun k=>by have:=qX c k 0 h0;rwa [Nat.zero_add]at this
 have pl:gj xs h=r.length:=by
  have e1:=it (gj xs h);rw[oN o b1 b2,←h0]at e1;have lt:=Nat.mod_lt (gj xs h) pos;have e2:gj xs h%r.length=0:=by
   have:=(List.getElem?_inj lt nd).mp e1;exact this
  have pp:0<gj xs h:=by unfold gj;lia
  rcases Nat.lt_trichotomy (gj xs h) r.length with q|q|q
  .rw[Nat.mod_eq_of_lt q]at e2;lia
  .exact q
  .exfalso
   have:=it r.length;rw[Nat.mod_self,h0]at this;exact vS pos q (PU this).symm
 refine List.ext_getElem? fun k=>?_;unfold iQ;rw[Pf,pl];by_cases hk:k<r.length
 .rw[List.getElem?_range hk]
  have:=it k;rw[Nat.mod_eq_of_lt hk]at this;exact this.symm
 .rw[List.getElem?_eq_none (by rw[List.length_range];lia),List.getElem?_eq_none (by lia)]
  rfl
theorem Fw{n:Int}{Ls:List (List Int)}(c:GI n Ls):kh n Ls:=by
 refine⟨fun r hr=>⟨c.1 r hr,fun x hx=>eG.mp (c.2.mem_iff.mp (List.mem_flatten.mpr ⟨r,hr,hx⟩))⟩,c.2.nodup_iff.mpr (jB n)⟩
def tP(L:List Int):Int:=L.getD 0 0
theorem oU{L:List Int}(ne:L≠[]):L[0]?=some (tP L):=by
 cases L with
 |nil=>exact absurd rfl ne
 |cons a r=>rfl
theorem Kt{n:Int}{Ls:List (List Int)}(c:GI n Ls)(lst:∀L∈Ls,∀y∈L,tP L<=y)(rise:(Ls.map tP).Pairwise (·<·)):bj n (eE n Ls)=Ls:=by
 have o:=sy c;have f:=Fw c;have R:=pk f;have ndL:∀L∈Ls,L.Nodup:=fun L hL=>(List.pairwise_flatten.mp f.2).1 L hL;have eo:∀L∈Ls,iQ (eE n Ls) (tP L)=L:=fun L hL=>GY o (R.Jz L hL) (ndL L hL) (oU (c.1 L hL));have ef:(cZ 1 (n+1)).filter (least (eE n Ls))=Ls.map tP:=by
  refine CC ((vw 1 (n+1)).filter _) rise fun x=>?_;rw[List.mem_filter,eG,List.mem_map];constructor
  .rintro⟨⟨h1,h2⟩,l⟩
   obtain⟨L,hL,hx⟩:=List.mem_flatten.mp (c.2.mem_iff.mpr (eG.mpr ⟨h1,h2⟩));obtain⟨j,hj⟩:=List.mem_iff_getElem?.mp hx;have jl:=(List.getElem?_eq_some_iff.mp hj).1;have:=qX (R.Jz L hL) (L.length-j) j hj;rw[show j+(L.length-j)=L.length by lia,Nat.mod_self,oU (c.1 L hL)]at this;have le:=(uW o h1 h2).mp l (L.length-j);rw[←PU this]at le;exact⟨L,hL,by have:=lst L hL x hx;lia⟩
  .rintro⟨L,hL,rfl⟩
   have h0:=oU (c.1 L hL);have b:=(f.1 L hL).2 _ (Pr h0);refine⟨b,(uW o b.1 b.2).mpr fun k=>?_⟩;have:=qX (R.Jz L hL) k 0 h0;exact lst L hL _ (Pr this)
 unfold bj;rw[ef,Pp]
 conv=>rhs;rw[←List.map_id Ls]
 exact List.map_congr_left fun L hL=>eo L hL
theorem rK{n:Int}{xs:List Int}(o:Ord n xs):eE n (bj n xs)=xs:=by
 have R:=FF o;refine Cj (n:=n) (gQ n _) o.length fun x a b=>?_;rw[wI a b];obtain⟨r,hr,hx⟩:=List.mem_flatten.mp (vZ o a b);obtain⟨j,hj⟩:=List.mem_iff_getElem?.mp hx;rw[Gh R.nd hr hj];obtain⟨_,_,c3⟩:=(R.Jz r hr).2 j x hj;rw[Pq,c3];rfl
theorem FC{n:Int}{xs:List Int}(o:Ord n xs):kh n (bj n xs):=by
 obtain⟨_,f2,_⟩:=lX o;exact⟨fun r hr=>⟨(f2 r hr).1,(f2 r hr).2.2⟩,lQ o⟩
def kI(d:PyData)(n:Int)(xs:List Int):Prop:=d= .str (mw (bj n xs))/\Ord n xs/\1<=n/\n<=12
theorem ko{n:Int}{xs:List Int}(o:Ord n xs)(n1:1<=n)(n12:n<=12):bj n xs≠[]/\(∀r∈bj n xs,mY r)/\(∀r∈bj n xs,∀i∈r,1<=i/\i<=n)/\((bj n xs).flatten.length:Int)=n:=by
 obtain⟨f1,f2,_⟩:=lX o;refine⟨fun z=>?_,fun r hr=>⟨(f2 r hr).1,fun i hi=>by have:=(f2 r hr).2.2 i hi;lia⟩,fun r hr=>(f2 r hr).2.2,by lia⟩;rw[z]at f1;simp at f1;lia
theorem kI.split {d:PyData}{n:Int}{xs:List Int}{x:Str}(h:kI d n xs)(e:d= .str x):Txt.split (Txt.slice x (some 1) (some (-1))) (Pd ")(")=(bj n xs).map qz/\(∀r∈bj n xs,mY r):=by
 obtain⟨h1,o,n1,n12⟩:=h;obtain⟨a,b,_,_⟩:=ko o n1 n12;rw[e]at h1;injection h1 with h1
 rw[h1];exact⟨Dv a fun r hr i hi=>((b r hr).2 i hi).1,b⟩
theorem kI.uniq {d:PyData}{n m:Int}{xs ys:List Int}(h:kI d n xs)(g:kI d m ys):xs=ys/\n=m:=by
 obtain⟨e1,b1⟩:=h.split h.1;obtain⟨e2,b2⟩:=g.split h.1;have e:=m8 b1 b2 (e1.symm.trans e2);have l1:=(ko h.2.1 h.2.2.1 h.2.2.2).2.2.2;have l2:=(ko g.2.1 g.2.2.1 g.2.2.2).2.2.2;rw[e]at l1;have nm:n=m:=by lia
 subst nm;exact⟨by rw[←rK h.2.1,e,rK g.2.1],rfl⟩
theorem zd{x:Str}(h:1<=x.length):signs (Txt.slice x (some (-1)) none)=(signs x).drop (x.length-1):=by
 show signs (StrLaws.sliceText x (some (-1)) none)=_;rw[StrLaws.sliceText_neg_lo x none (by decide) (by lia),show((-1:Int)+x.length)=((x.length-1:Nat):Int) by lia];have:=yG x (i:=((x.length-1:Nat):Int)) (by lia);rw[show(((x.length-1:Nat):Int)).toNat=x.length-1 by lia]at this;exact this
theorem BN(xs:List Int)(x:Int):tP (iQ xs x)=x:=by
 have:0<gj xs x:=by unfold gj;lia
 unfold tP iQ;rw[Pq,Pf,List.getElem?_range this];rfl
theorem CP(n:Int)(xs:List Int):((bj n xs).map tP).Pairwise (·<·):=by
 unfold bj;rw[Pp,show(tP∘iQ xs)=id from funext fun x=>BN xs x,List.map_id];exact(vw 1 (n+1)).filter _
theorem CS{n:Int}{xs:List Int}{r:List Int}(h:r∈bj n xs):∀y∈r,tP r<=y:=by
 unfold bj at h;obtain⟨x,hx,rfl⟩:=List.mem_map.mp h;have l:=(List.mem_filter.mp hx).2;unfold least at l;rw[BN];intro y hy;exact of_decide_eq_true (List.all_eq_true.mp l y hy)
end Sw
namespace L2
open PySem PySem.Spec PyProof.Rows
theorem AR.Od {h:Qd}{e C:PY}(x:AR h e C):iz h e:=by
 obtain⟨o,h1,_,vs,c,h2,h3,h4⟩:=x;exact⟨o,vs,c,h1,h2,h3,h4⟩
theorem iz.keeps {h h':Qd}{e:PY}(l:iz h e)(k:∀b o,h.get? b=some o->h'.get? b=some o):iz h' e:=by
 obtain⟨o,vs,c,h1,h2,h3,h4⟩:=l;exact⟨o,vs,c,k _ _ h1,h2,h3,h4⟩
section
variable{prog:P0}{w:P4}{A:P5}{E:PX->PZ->Prop}{s:PZ}
theorem tT:entryFor table "proto.unchain" =some Qi.«proto.unchain»:=entryFor_of_tree (by kernel_rfl)
theorem wq{e:PY}{v:PX}{Q:PX->PZ->Prop}(l:iz s.heap e)(k:Q .none s):Qf (model prog w) A (runValue (.builtin "proto.unchain" ⟨[v,.ref e,.ref e,.bool false],[]⟩)) Q E s:=by
 obtain⟨o,vs,c,h1,h2,h3,h4⟩:=l;cases h4 rfl;refine wpAny_runValue (codeAny_builtin tT ?_);unfold Qi.«proto.unchain»;refine P8 (wpAny_field h1 h2 h3 ?_);rw[if_pos (by decide)];exact P9 k
end
open PySem PySem.Spec PyProof.Rows PySem.W
structure GQ(K:Frag)(C:PY):Prop where
 ec:jo K C
 ei:rM K C
 ty:typeIn K (.ref C)=some (.type "type")
 kp:keepIn K (.ref C)=true
structure Jk(h h':Qd)(e:PY)(cls ctx:PX):Prop where
 keeps:∀b o,h.get? b=some o->h'.get? b=some o
 new:h.get? e=none
 there:∃t,h'.get? e=some {cls:=cls,data:= .fields #[.ref t,.none,ctx,.none,.bool true,.none]}
section
variable{prog:P0}{w:P4}{A:P5}{E:PX->PZ->Prop}
theorem qt{env:Env}{K:Frag}{C e0:PY}{s00:PZ}{xs cs:Sem PX}{Q:Flow->PZ->Prop}(hh:A.handled=some (.ref e0))(O:GQ K C)
  (hc:∀(s:PZ)(Q:PX->PZ->Prop),Q .none s->Qf (model prog w) A cs Q E s)
  (hx:Qf (model prog w) A xs (fun v s=>∃(e:PY)(args:List PX)(h0:Qd),v= .ref e/\K.In h0/\iz h0 e0/\h0.MadeExcOf s.heap e (.ref C) args/\∀h',Jk h0 h' e (.ref C) (.ref e0)->E (.ref e) {s with heap:=h'}) E s00):
  Qf (model prog w) A (raiseStmt env (some xs) (some cs)) Q E s00:=by
 unfold raiseStmt;dsimp only;refine P8 (Qa hx (fun v s hv=>?_) fun _ _ z=>z);obtain⟨e,args,h0,rfl,X0,lo,M,hq⟩:=hv;have X:K.In s.heap:=fun a o q=>M.keeps _ _ (X0 a o q);obtain⟨t,he,htn,ht⟩:=M.there;have ne:e≠e0:=fun z=>by
  obtain⟨o,vs,c,h1,_⟩:=lo;have:=M.new;rw[z,h1]at this;cases this
 obtain⟨h,g,d,tk,os⟩:=s;dsimp only at*;have L2:Looks (model prog w) h (isType (.ref e)) false:=fun A' Q' E' s' k q=>by
  unfold isType loadHead;exact P8 (wpAny_loadPart (k _ _ he) (P9 q))
 have L3:=looks_mroIn (M:=model prog w) X O.ei.mb;have L4:Looks (model prog w) h (typeOf (.ref e)) (.ref C):=fun A' Q' E' s' k q=>by
  unfold typeOf;exact P8 (wpAny_loadPart (k _ _ he) (P9 q))
 have L5:Looks (model prog w) h (isInstance (.ref e) (.type "BaseException")) true:=L4.andThen L3;have L6:Looks (model prog w) h (isExcClass (.ref e)) false:=by
  intro A' Q' E' s' k q;unfold isExcClass;refine P8 (L2 _ _ _ _ k ?_);rw[if_neg PR];exact P9 q
 refine P8 (wpAny_holding (hc _ _ (P8 (P9 ?_))));refine P8 (wpAny_holding ?_);unfold excFromValue;refine P8 (L6.at ?_);rw[if_neg PR];refine P8 (L5.at ?_);rw[if_pos rfl];refine P9 ?_;dsimp only;rw[if_pos (by decide)];refine P8 (P9 ?_);refine P8 (wpAny_setField he rfl (by simp) ?_);have e1:=Qd.get?_update_self (Obj.mapFields (·.setIfInBounds 3 PX.none)) he rfl;have o1:∀b,b≠e->(h.update e (Obj.mapFields (·.setIfInBounds 3 PX.none))).get? b=h.get? b:=fun b hb=>Qd.get?_update_other _ _ (Ne.symm hb);refine P8 (wpAny_setField e1 rfl (by simp) ?_);have e2:=Qd.get?_update_self (Obj.mapFields (·.setIfInBounds 4 (PX.bool true))) e1 rfl;have o2:∀b,b≠e->((h.update e (Obj.mapFields (·.setIfInBounds 3 PX.none))).update e (Obj.mapFields (·.setIfInBounds 4 (PX.bool true)))).get? b=h.get? b:=fun b hb=>(Qd.get?_update_other _ _ (Ne.symm hb)).trans (o1 b hb);generalize(h.update e (Obj.mapFields (·.setIfInBounds 3 PX.none))).update e (Obj.mapFields (·.setIfInBounds 4 (PX.bool true)))=h2 at e2 o2⊢;have k2:∀b o,h0.get? b=some o->h2.get? b=some o:=fun b o hb=>(o2 b (fun z=>by rw[z,M.new]at hb;cases hb)).trans (M.keeps b o hb);have X2:K.In h2:=fun a o q=>k2 _ _ (X0 a o q);have e3:h2.get? e=some {cls:= .ref C,data:= .fields #[.ref t,.none,.none,.none,.bool true,.none]}:=by rw[e2];rfl
 clear e2;have T:Looks (model prog w) h2 (isType (.ref e)) false:=fun A' Q' E' s' k q=>by
  unfold isType loadHead;exact P8 (wpAny_loadPart (k _ _ e3) (P9 q))
 have T4:Looks (model prog w) h2 (typeOf (.ref e)) (.ref C):=fun A' Q' E' s' k q=>by
  unfold typeOf;exact P8 (wpAny_loadPart (k _ _ e3) (P9 q))
 refine P8 (T.at ?_);rw[if_neg PR];unfold raisedInstance;refine P8 (P8 (T4.at (P8 ((looks_typeIn X2 O.ty).at ?_))));rw[if_pos (by decide)];refine P9 ?_;unfold setFlight;refine P8 (P8 (wpAny_field e3 rfl (x:=PX.none) rfl ?_));rw[if_neg (show¬((PX.none !=PX.none)=true) by decide)];refine P9 ?_;simp only[raiseNew];refine P8 (wpAny_handled ?_);rw[hh];dsimp only;rw[if_pos (show(PX.ref e0 !=PX.ref e)=true by simpa using ne.symm)];refine P8 (wpAny_holding (wq (lo.keeps k2) ?_));unfold updateField;refine P8 (P8 (wpAny_load e3 ?_));dsimp only;rw[if_pos (by simp)];refine wpAny_update e3 (wpAny_throw (hq _ ⟨fun b o hb=>?_,M.new,t,?_⟩))
 .exact(Qd.get?_update_other _ _ (fun z=>by rw[←z,M.new]at hb;cases hb)).trans (k2 b o hb)
 .rw[Qd.get?_update_self _ e3 rfl]
  rfl
end
abbrev MA(X:Cx)(e:PY):Cx:=Xh X e
theorem Inv.NO {X:Cx}{pins:List (PY×Obj)}{σ:St}{H:Hp}{s:PZ}(I:Inv X pins σ H s)(e:PY):Inv (MA X e) pins σ H s:=
 ⟨⟨I.ok.mod,I.ok.kind,I.ok.glob,I.ok.blt,I.ok.above,I.ok.inj,I.ok.has,I.ok.DZ,(fun h=>Bool.noConfusion h),I.ok.frames,I.ok.Dm,I.ok.HZ,I.ok.bs,I.ok.z8,I.ok.qx,I.ok.rN,I.ok.jc,I.ok.p7⟩,I.os,I.bare,I.base,I.loc,I.cell,I.free,I.dZ,I.pin,I.aX,I.len⟩
theorem Inv.Og {X:Cx}{pins:List (PY×Obj)}{σ:St}{H:Hp}{s:PZ}{e:PY}(I:Inv (MA X e) pins σ H s)(ok:X.Ok):Inv X pins σ H s:=⟨ok,I.os,I.bare,I.base,I.loc,I.cell,I.free,I.dZ,I.pin,I.aX,I.len⟩
theorem gk.Nd {P:P0}{w:P4}{fr:List Env}{H H':Hp}{h h' h'':Qd}{e:PY}{cls a0 fl:PX}{B:Qd}{bb:Option PY}(fun_:Un (fo fr) [] H H' h h')(fhok:ma P w H' h')(ff:h'.FunFrames B fr)(fold:∀b o o',h.get? b=some o->b∉fo fr->h'.get? b=some o'->B.get? b=some o')
  (ftrk:∀b u o',H' b=some u->h'.get? b=some o'->B.get? b=some o') (ffrf:∀b∈fo fr,H' b=none) (kb:B.StaysIn h'') (en:B.get? e=none) (ff2:h''.FunFrames B fr) (tr:h''.TracedAtW B e cls a0 fl) (sm:h'.UpToSlots h'') (lo:iz h'' e bb):gk P w fr [] H h e cls a0 fl B H' h'' bb where
 un:=by
  refine⟨fun b o q n hb hx=>?_,fun b o q n hb hx=>?_,fun_.free,fun b o q hx=>?_,fun_.fD,fun_.jk,fun_.jI⟩
  .have e1:=fun_.keep b o q n hb hx
   exact kb b o (fold b o o q hb e1)
  .obtain⟨sl,e1⟩:=fun_.slot b o q n hb hx
   obtain⟨_,o1,e2,nf⟩:=ff.mem hb;rw[e1]at e2;cases e2;obtain⟨sl',e3⟩:=sm b _ e1 nf;exact⟨sl',e3⟩
  .obtain⟨o1,e1⟩:=fun_.there b o q hx
   by_cases hb:b∈fo fr
   .obtain⟨_,o2,e2,nf⟩:=ff.mem hb
    rw[e1]at e2;cases e2;obtain⟨sl',e3⟩:=sm b _ e1 nf;exact⟨_,e3⟩
   .exact⟨o1,kb b o1 (fold b o o1 q hb e1)⟩
 aX:=fun a o q=>(fhok a o q).kg (fun b u hb z=>by
   rcases hb with rfl|hb
   .exact kb b u (ftrk b _ u q z)
   .exact kb b u (ftrk b _ u hb z)) (fun _ z=>z) fun _ _ z=>z
 kb:=kb
 en:=en
 ff:=ff2
 tr:=tr
 old:=fun b o o' q _ hb z=>by
  obtain⟨o1,e1⟩:=fun_.there b o q (by simp);have e2:=fold b o o1 q hb e1;have e3:=kb b o1 e2;rw[z]at e3;cases e3;exact e2
 vX:=fun b u o' q z=>by
  obtain⟨o1,e1⟩:=(fhok b u q).here;have e2:=ftrk b u o1 q e1;have e3:=kb b o1 e2;rw[z]at e3;cases e3;exact e2
 p7:=ffrf
 lo:=lo
theorem CA{X:Cx}{pins:List (PY×Obj)}{σ:St}{H:Hp}{s:PZ}{E:XK}{h':Qd}{e c:PY}{cls:PX}{hv:Option PX}(tp:xV X)(pc:iD X E)(I:Inv X pins σ H s)(M:Jk s.heap h' e cls (.ref c))(q:E cls (some c) H):
  notedBy (model X.prog X.w) (X.A.mark hv) X.env (fun x s₂=>cameBackBy (model X.prog X.w) X.A X.env X.xe x s₂) (.ref e) {s with heap:=h'}:=by
 obtain⟨mx,outer0,L,h1,h2,h3⟩:=tp;obtain⟨t,he⟩:=M.there;have st:=I.stack;have ff:=W.funFrames_hide (as:=fo X.stack) st fun env hm a ha=>List.mem_filterMap.mpr ⟨env,hm,ha⟩;have hen:(W.hideAll s.heap (fo X.stack)).get? e=none:=by
  cases z:(W.hideAll s.heap (fo X.stack)).get? e with
  |none=>rfl
  |some o=>have:=W.of_hideAll _ z;rw[M.new]at this;cases this
 have fr:(X.A.mark hv).frames=some (mx::outer0):=I.ok.frames.trans (by rw[h1]);have ffm:h'.FunFrames (W.hideAll s.heap (fo X.stack)) X.stack:=ff.of_keeps fun b o hb _=>⟨o,M.keeps b o hb,rfl⟩;have ffm':=ffm;rw[h1]at ffm';unfold notedBy;rw[rL (env:=mx) (env':=X.env) (h3.trans h2.symm)];unfold noteFrame;simp only[h2];refine P8 (wpAny_field he rfl (x:=PX.none) rfl ?_);rw[if_neg (by decide)];rw[←h1]at ffm';refine jy (b:=some c) (c:= .ref c) (B:=W.hideAll s.heap (fo X.stack)) (a0:= .ref t) fr (by rw[←h1];exact ffm) h2 he (fun b o z=>M.keeps b o (W.of_hideAll _ z)) hen rfl rfl rfl (fun z=>by cases z) fun g hn l'=>?_;rw[←h1]at hn;obtain⟨f1,f3,f4,sm⟩:=hn;have F:gk X.prog X.w X.stack [] H s.heap e cls (.ref t) (rawInt L) (W.hideAll s.heap (fo X.stack)) H g (some c):=
  gk.Nd (h':=h') (Un.kept M.keeps) (I.aX.kept M.keeps) ffm (fun b o o' z hb zz=>by
   have:=M.keeps b o z;rw[zz]at this;cases this;exact W.hideAll_get _ z hb) (fun b u o' z zz=>by
   obtain⟨o1,e1⟩:=(I.aX b u z).here;have:=M.keeps b o1 e1;rw[zz]at this;cases this;exact W.hideAll_get _ e1 fun hb=>by rw[I.lT b hb]at z;cases z) I.lT f1 hen f3 f4 sm l'
 unfold cameBackBy;obtain⟨oe,vs,T,oT,ts,g1,g2,g4,g5,_⟩:=f4;refine P8 (wpAny_field g1 g4 g5 ?_);rw[if_neg (by simp)];refine vO (s:={s with heap:=g}) F fun h4 F4 _=>?_;exact pc pins σ H s [] e cls (.ref t) _ _ H (some c) {s with heap:=h4} I (fun b hb=>nomatch hb) rfl I.bare F4 q
def O3(K:Frag)(D:PY)(E:XK)(C:PY)(ta:TA)(th:TH):TH:=fun Dn σ cls e H=>∃C1 b,cls= .ref C1/\ua K C1 D b/\
 if b=true then ta σ (upd H e (.exc e C1)) (fun vs H1=>vs.length<=P6/\H1 e=some (.exc e C1)/\∀c,E (.ref C) (some c) H1)else th Dn σ cls e H
section
variable{X:Cx}{hs:List ExceptHandler}{th:TH}{D C:PY}{x n:Str}{np pos cp p1 p2 p3 p4:Pos}{e₀:Expr}{rest:List Expr}{ta:TA}{E:XK}{k:Nat}
theorem F9(tp:xV X)(pc:iD X E)(O:GQ X.K C)(hg:Gl X x)(hm:X.mg x=some (.ref D))(hg2:Gl X n)(hm2:X.mg n=some (.ref C))(ha:∀e,PA (MA X e) (e₀::rest) ta)(hr:PH X hs th)(hdb:(x==("__debug__" :Str))=false:=by decide)(hdb2:(n==("__debug__" :Str))=false:=by decide)
  (he:Qb (e₀::rest) X.env=(false,eval e₀ X.env)::Qb rest X.env:=by rfl) (hpl:(Qe cp (Qb rest X.env)).any (·.1)=false:=by rfl):
  PH X (.ExceptHandler (some (.Name x np)) none [.Raise (some (.Call (.Name n p1) (e₀::rest) [] cp)) (some (.Constant .none k p2)) p3] pos::hs) (O3 X.K D E C ta th):=by
 intro pins s σ H Dn e cls hh h;obtain⟨C1,b,rfl,m,h⟩:=h;have I:=hh.inv;refine wpAny_handleBy_cons (codeAny_handlers_test (fY (X:=Xh X e) (I.NN e) hg hm ?_ hdb)) (by intro q;cases q);refine ql m I.jD hh.NV ?_
 cases b with
 |false=>exact hr pins s σ H Dn e _ hh (by rw[if_neg PR]at h;exact h)
 |true=>
  rw[if_pos rfl]at h;refine codeAny_handlers_suite (hh.lands fun h' hh'=>?_);have I2:Inv (MA X e) pins σ (upd H e (.exc e C1)) {s with heap:=h'}:=hh'.xS.NO e;refine wpAny_execs_cons ?_;rw[arm_exec_Raise];refine P8 (wpAny_standAt (qt (e0:=e) (K:=X.K) (C:=C) rfl O (fun s Q q=>?_) ?_))
  .exact P8 (Constant_none (P8 (wpAny_standAt (P9 q))))
  .refine P8 (wpAny_Call_Name_kw (fY (X:=MA X e) I2 hg2 hm2 ?_ hdb2))
   refine W.callWith_K (h₀:=X.base) I.ok.mod.AJ O.kp (Qa (ha e cp pins _ σ _ _ I2 h) (fun us s1 ⟨vs,H1,I1,r,q⟩=>⟨I1.jD,?_⟩) fun ev s1 z=>False.elim z) he hpl;obtain⟨z,hx,qE⟩:=q;obtain⟨tl,N,nm,q,bs,hdct,sn,sub,ab,col,dd,k0,k1,k2,k3,k5,mN,hC,hN,hni,T⟩:=(EC I1.mod.AJ hm2 O.ec).obj;obtain⟨x0,_,_⟩:=I1.aX e _ hx;have lo:=AR.Od x0;have T1:=T.keeps I1.bk;have N1:=hN.keeps I1.bk;have C1':=I1.bk _ _ hC;have J:=I1.Og I.ok;have AJ:=I1.jD;obtain⟨h1,g1,d1,t1,os1⟩:=s1;refine wpAny_call_exc_subT PySem.F.excBase_ValueError T1 C1' N1 hni (fun h2 e2 M=>?_) (by rw[List.nil_append,←r.length];exact z);refine P8 (wpAny_standAt (P9 ⟨e2,_,h1,rfl,AJ,lo,M,fun h3 mn=>?_⟩));exact CA (s:={heap:=h1,gens:=g1,drawn:=d1,toks:=t1,os:=os1}) tp pc J mn (qE _)
end
end L2
namespace Sw
open PySem L2
def sS(C:PY):Sp:=fun vs H Q E=>∃(v:V)(d:PyData),vs=[v]/\DT H (fun _=>True) v d/\(∀x,d= .str x->x.length<=990)/\(∀n xs,kI d n xs->∀t H',H t=none->H' t=some (.tup (xs.map V.int))->ai H H'->Q (.ref t) H')/\((∀n xs,¬kI d n xs)->∀bb H',ai H H'->E (.ref C) bb H')
structure MO(P:P0)(w:P4)(K:W.Frag)(mg:Str->Option PX)(base:Qd)(C CN:PY):Prop extends T1 mg K where
 bY:eI P w K mg base "check_text" 1 ["thing"] (AX C)
 mH:eI P w K mg base "read_things" 2 ["text"] (u6 C)
 mK:eI P w K mg base "many_things" 1 ["lists"] (BS C)
 Fo:eI P w K mg base "made" 4 ["n","lists"] (BL CN)
 nS:FnAt P w K mg base "show_order" 4 ["order"] vi
 aK:mg "NoText" =some (.ref C)
 bp:jo K C
 zf:GQ K C
 bT:mg "NoRounds" =some (.ref CN)
 em:ua K CN CN true
section
variable{P:P0}{w:P4}{K:W.Frag}{mg:Str->Option PX}{base:Qd}{u:PX}{C CN:PY}
theorem xW{f:PY}{fd:Qc}(F:dU K "read_order" "read_order" (top 84) f fd)(T:MO P w K mg base C CN):aQ P w K mg base (j4 P w) 5 f fd ["text"] (sS C):=by
 refine F.DG fV (fun vs H Q E h=>?_) (fun cdv A outer s H vs Q E hr h=>?_)
 .obtain⟨v,d,rfl,_⟩:=h
  rfl
 .obtain⟨v,d,rfl,hd,hlen,kY,kN⟩:=h
  refine⟨_,(ag (cj (bW T.bY j8 (hr.mono (by decide)) rfl (aa (pv 0) ae)))
   (ag (nR (N:=(["inner"]:List Str)) (ix:=([none]:List (Option Nat))) (i:=1) tf oX fV.nd rfl rfl (aW rfl rfl) rfl (aV (K:=K) rfl (aP (K:=K) rfl PySem.F.plainAttrs_str PySem.F.slot_str_split PySem.F.type_str_split ck (eR oM (pv 0) (eO aj) (eO (yR rz aj))) (aa ak ae))) (fun _ _ _ _=>(aA (i:=0) (show List.Nodup (["inner"]:List Str)from by decide+kernel) rfl (Or.inl rfl))) (fun _ _ _ _=>bq) (fun _ _ _ _=>(bW T.mH (iD.passes pq) (hr.mono (by decide)) rfl (aa (pv 0) ae))))
   (ag (aC (i:=2) fV.nd rfl (Or.inl rfl) (bW T.mK j8 (hr.mono (by decide)) rfl (aa (pv 1) ae)))
   (ag (Kv (fun _ _=>(ah (aC (i:=3) fV.nd rfl (Or.inl rfl) (Dc T.Fo (hr.mono (by decide)) rfl (aa (pv 2) (aa (pv 1) ae)))))) (F9 tf oX T.zf rfl T.bT rfl T.aK (fun _=>(aa ak ae)) Lk))
   (ag (aN (aw eC (aq T.nS (hr.mono (by first|decide|lia)) rfl (aa (pv 3) ae)) (pv 0) (aB _)) (ah (cb n6 T.bp rfl rfl T.aK (aa ak ae))) ax)
   (ah (ay (pv 3)))))))),?_⟩
  have big:(10000000:Nat)<=P6:=by decide
  have one:1<=P6:=by decide
  by_cases hst:∃x,d= .str x
  case neg=>exact⟨_,rfl,.inr ⟨_,_,_,rfl,hd,fun x z=>hst ⟨x,z⟩,kN (fun n S z=>hst ⟨_,z.1⟩) none H (ai.refl _)⟩⟩
  obtain⟨x,rfl⟩:=hst;cases hd;have xl:=hlen x rfl;refine⟨_,rfl,.inl ⟨_,rfl,?_⟩⟩;have sll:(Txt.slice x (some 1) (some (-1))).length<=x.length:=Txt.slice_le _ _ _;refine⟨_,rfl,1,rfl,_,rfl,_,rfl,_,rfl,by lia,rfl,_,_,rfl,rfl,by decide+kernel,by lia,fun l1 f1=>⟨l1,rfl,⟨_,aI.of af⟩,?_⟩⟩;have wl:=split_le (Txt.slice x (some 1) (some (-1))) (Pd ")(");have wp:∀z∈Txt.split (Txt.slice x (some 1) (some (-1))) (Pd ")("),z.length<=(Txt.slice x (some 1) (some (-1))).length:=fun z hz=>bO hz;have wne:=dv (Txt.slice x (some 1) (some (-1))) (Pd ")(");have fwd:∀n xs,kI (.str x) n xs->Txt.split (Txt.slice x (some 1) (some (-1))) (Pd ")(")=(bj n xs).map qz/\(∀r∈bj n xs,mY r):=fun n xs h=>h.split rfl;generalize Txt.split (Txt.slice x (some 1) (some (-1))) (Pd ")(")=ws at wl wp wne fwd⊢;have s1:ai H (upd H l1 (.lst (ws.map V.str))):=ai.new f1;have h1:upd H l1 (.lst (ws.map V.str)) l1=some (.lst (ws.map V.str)):=af;generalize upd H l1 (.lst (ws.map V.str))=H1 at s1 h1⊢;have ll:(ws.map V.str).length=ws.length:=by rw[Pe]
  refine iC (K:=K) (a:=l1) (xs:=ws.map V.str) (k:=0) (fun i ys σ' H'=>(∃v0,σ'=[v0])/\ai H1 H'/\∃S:List (List Int),cV H' ys S/\ws.take i=S.map qz/\(∀r∈S,mY r)/\∀r∈S,r.length<=1000) (by lia) ⟨⟨none,rfl⟩,ai.refl _,[],.nil,rfl,by simp,by simp⟩ (fun i ys σ' H' _ q=>aI.of (q.2.1 _ _ h1)) (fun i ys σ' H' q=>?_) ?_ ?_
  .obtain⟨_,_,S,e1,e2,_⟩:=q
   have e1:=e1.length;have e2:=congrArg List.length e2;rw[Pe,Pn]at e2;lia
  .rintro i ys σ' H2 z R hx ⟨⟨v0,rfl⟩,s2,S,x2,eS,bS,lS⟩ done
   obtain⟨wd,hw,rfl⟩:∃wd,ws[i]?=some wd/\V.str wd=z:=by
    rw[Pf]at hx
    cases e:ws[i]? with
    |none=>rw[e]at hx;cases hx
    |some e'=>rw[e]at hx;exact⟨e',rfl,PU hx⟩
   have wdl:=wp wd (Pr hw);refine⟨_,rfl,wd,rfl,by lia,fun r hr' l2 H3 fl2 h3 s3=>?_,fun no H3 s3=>?_⟩
   .refine done _ _ _ ⟨⟨_,rfl⟩,s2.trans s3,S++[r],(x2.keep s3).snoc h3,?_,fun q hq=>?_,fun q hq=>?_⟩
    .rw[PJ,hw,eS,Pj,hr'.1]
     rfl
    .rcases List.mem_append.mp hq with hq|hq
     .exact bS q hq
     .rw[List.mem_singleton.mp hq];exact hr'.2
    .rcases List.mem_append.mp hq with hq|hq
     .exact lS q hq
     .rw[List.mem_singleton.mp hq]
      have e:=congrArg List.length hr'.split;rw[Pe]at e;have:=split_le wd (Pd " ");lia
   .refine kN (fun n Z hZ=>?_) none _ (s1.trans (s2.trans s3))
    obtain⟨e,b⟩:=fwd n Z hZ;have m:wd∈(bj n Z).map qz:=by rw[←e];exact Pr hw
    obtain⟨a,ha,rfl⟩:=List.mem_map.mp m;exact no a ⟨rfl,b a ha⟩
  .rintro ys σ' H2 q ⟨⟨v0,rfl⟩,s2,S,x2,eS,bS,lS⟩ fq
   rw[Pw (by lia)]at eS;have s3:ai H2 (upd H2 q (.lst ys)):=ai.new fq;have x3:=x2.keep s3;have s13:=s1.trans (s2.trans s3);have h3:upd H2 q (.lst ys) q=some (.lst ys):=af;have fqH:=(s1.trans s2).free fq;generalize upd H2 q (.lst ys)=H3 at s3 x3 s13 h3⊢;have yl:=x3.length;have sl:=congrArg List.length eS;rw[Pe]at sl;have only:∀n Z,kI (.str x) n Z->bj n Z=S/\(S.flatten.length:Int)=n/\kh n S/\n<=12/\eE n S=Z/\x=mw S:=fun n Z hZ=>by
    obtain⟨e,b⟩:=fwd n Z hZ;have es:=m8 b bS (e.symm.trans eS);obtain⟨h1,o,n1,n12⟩:=hZ;have:=(ko o n1 n12).2.2.2;injection h1 with h1
    refine⟨es,by rw[←es];exact this,by rw[←es];exact FC o,n12,by rw[←es];exact rK o,by rw[←es];exact h1⟩
   have npos:1<=S.flatten.length:=by
    cases S with
    |nil=>exact absurd eS wne
    |cons a S=>
     have:=List.length_pos_iff.mpr (bS a Pt).1;rw[List.flatten_cons,Pg];lia
   refine⟨_,rfl,q,ys,S,rfl,h3,x3,by lia,fun l12 H4 s4=>?_,fun nl H4 s4=>kN (fun n Z hZ=>?_) none _ (s13.trans s4)⟩
   .obtain⟨n,hn⟩:∃n:Int,(S.flatten.length:Int)=n:=⟨_,rfl⟩
    rw[hn];refine⟨_,rfl,_,rfl,n,q,ys,S,rfl,by lia,by lia,s4 _ _ h3,x3.keep s4,by lia,lS,fun fn t H5 ft ht s5=>?_,fun nf H5 s5 e he=>?_⟩
    .have cv:GI n S:=by
      refine Kf (fun L hL=>(bS L hL).1) fn.2 hn fun a a1 a2=>?_;have pm:=oP fn.2 (bs:=cZ 1 (n+1)) (fun y hy=>by
       obtain⟨r,hr',hy⟩:=List.mem_flatten.mp hy;exact eG.mpr ((fn.1 r hr').2 y hy)) (by rw[aO];lia)
      exact pm.mem_iff.mpr (eG.mpr ⟨a1,a2⟩)
     have o:=sy cv;have ft0:=(s13.trans s4).free ft;refine⟨_,rfl,t,n,eE n S,rfl,ht,o,by lia,fun H6 s6=>⟨_,rfl,rfl,_,rfl,cg (fun c=>?_) (fun c=>?_)⟩⟩
     .refine⟨one,kN (fun m Z hZ=>?_) none _ (s13.trans (s4.trans (s5.trans s6)))⟩
      obtain⟨e1,e2,_,_,e5,e6⟩:=only m Z hZ;have:m=n:=by lia
      subst this;rw[e5,e1,←e6,decide_eq_true rfl]at c;exact absurd c (by decide)
     .have e:mw (bj n (eE n S))=x:=by
       apply PV;intro z;exact c (by rw[decide_eq_false (fun q=>z (by injection q))];rfl)
      exact⟨_,rfl,kY n (eE n S) ⟨by rw[e],o,by lia,by lia⟩ t H6 ft0 (s6 _ _ ht) (s13.trans (s4.trans (s5.trans s6)))⟩
    .refine⟨CN,true,rfl,T.em,zA ⟨one,af,fun c=>kN (fun m Z hZ=>?_) (some c) _ (s13.trans (s4.trans (s5.trans (ai.new he))))⟩⟩
     obtain⟨_,e2,e3,_⟩:=only m Z hZ;have:m=n:=by lia
     subst this;exact nf e3
   .obtain⟨_,e2,_,n12,_⟩:=only n Z hZ
    exact nl (by lia)
end
open PySem L2 PyProof.Rows
def GJ(c d k:Nat):Nat:=if k=c then d else k
theorem qK(c d:Nat):∀{l:List Nat},c∉l->l.map (GJ c d)=l
 |[],_=>rfl
 |k::r,h=>by
  rw[Pm,qK c d (fun z=>h (Pu _ z))];congr 1;exact if_neg fun(z:k=c)=>h (by rw[z];exact Pt)
theorem wA(c d:Nat):∀{ps:List (List Nat)},(∀p∈ps,c∉p)->(glue c ps).map (GJ c d)=glue d ps
 |[],_=>rfl
 |[p],h=>qK c d (h p Pt)
 |p::q::r,h=>by
  have ih:=wA c d (ps:=q::r) fun a ha=>h a (Pu _ ha);have e1:glue c (p::q::r)=p++c::glue c (q::r):=rfl;have e2:glue d (p::q::r)=p++d::glue d (q::r):=rfl;rw[e1,e2,Pj,Pm,ih,qK c d (h p Pt)];congr 2;exact if_pos rfl
theorem uN(x:Str)(c d:Nat):signs (Txt.replace x ⟨#[c]⟩ ⟨#[d]⟩)=(signs x).map (GJ c d):=by
 have e:=StrLaws.join_split x ⟨#[c]⟩;have f:=StrLaws.split_free x c;rw[StrLaws.replace_one,cG]
 conv=>rhs;rw[←e]
 rw[cG,wA];intro p hp;obtain⟨q,hq,rfl⟩:=List.mem_map.mp hp;exact f q hq
theorem Ko:Pd " " =⟨#[32]⟩:=by decide+kernel
theorem LF:Pd "," =⟨#[44]⟩:=by decide+kernel
def cm(x:Str):Str:=Txt.replace x (Pd " ") (Pd ",")
def bl(x:Str):Str:=Txt.replace x (Pd ",") (Pd " ")
theorem cK(x:Str):signs (cm x)=(signs x).map (GJ 32 44):=by unfold cm;rw[Ko,LF];exact uN x 32 44
theorem sC(x:Str):signs (bl x)=(signs x).map (GJ 44 32):=by unfold bl;rw[Ko,LF];exact uN x 44 32
theorem J2(x:Str):(cm x).length=x.length:=by rw[←aS,cK,Pe,aS]
theorem Fz(x:Str):(bl x).length=x.length:=by rw[←aS,sC,Pe,aS]
theorem wM{c d:Nat}:∀{l:List Nat},d∉l->(l.map (GJ c d)).map (GJ d c)=l
 |[],_=>rfl
 |k::r,h=>by
  rw[Pm,Pm,wM (fun z=>h (Pu _ z))];congr 1;have:k≠d:=fun(z:k=d)=>h (by rw[z];exact Pt);unfold GJ;by_cases e:k=c
  .rw[if_pos e,if_pos rfl,e]
  .rw[if_neg e,if_neg this]
theorem Jb{x:Str}(h:44∉signs x):bl (cm x)=x:=bt (by rw[sC,cK,wM h])
theorem JE{x:Str}(h:32∉signs x):cm (bl x)=x:=bt (by rw[cK,sC,wM h])
theorem Eh(x y:Str):cm (x++y)=cm x++cm y:=bt (by rw[cK,aT,aT,Pj,cK,cK])
theorem wD{x:Str}(h:32∉signs x):cm x=x:=bt (by rw[cK,qK _ _ h])
theorem LR(x:Str):32∉signs (cm x):=by
 rw[cK];intro z;obtain⟨k,_,e⟩:=List.mem_map.mp z;unfold GJ at e
 split at e
 .cases e
 .rename_i h;exact h e
theorem BY{ts:List Str}(h:∀t∈ts,32∉signs t):cm (Str.join (Pd " ") ts)=Str.join (Pd ",") ts:=by
 refine bt ?_;rw[cK,Ko,LF,cG,cG,wA];intro p hp;obtain⟨q,hq,rfl⟩:=List.mem_map.mp hp;exact h q hq
theorem KD:∀(ts:List Str),cm (Str.join (Pd "") ts)=Str.join (Pd "") (ts.map cm):=fun ts=>by
 refine bt ?_;rw[cK,hU,hU,List.map_flatten,Pp,Pp];congr 1;exact List.map_congr_left fun t _=>(cK t).symm
def eJ(R:List (Int×Int)):Str:=if R=[]then Pd "none"else Str.join (Pd ",") (R.map gA)
theorem qM{R:List (Int×Int)}(h:∀e∈R,0<=e.1/\0<=e.2):cm (kf R)=eJ R:=by
 unfold kf eJ;by_cases c:R=[]
 .rw[if_pos (by rw[c];rfl),if_pos c]
  exact wD (by decide+kernel)
 .rw[if_neg (by intro z;exact c (List.length_eq_zero_iff.mp z)),if_neg c]
  refine BY fun p hp=>?_;obtain⟨e,he,rfl⟩:=List.mem_map.mp hp;intro z;have:=ex_free (h e he).1 (h e he).2 32 z;lia
theorem HG{R:List (Int×Int)}(h:∀e∈R,0<=e.1/\0<=e.2):44∉signs (kf R):=by
 unfold kf
 split
 .decide+kernel
 .rw[Ko,cG]
  intro z;have key:∀{ps:List (List Nat)},44∈glue 32 ps->∃p∈ps,44∈p:=by
   intro ps
   induction ps with
   |nil=>intro z;cases z
   |cons p r ih=>
    intro z
    cases r with
    |nil=>exact⟨p,Pt,z⟩
    |cons q r=>
     have e1:glue 32 (p::q::r)=p++32::glue 32 (q::r):=rfl;rw[e1]at z;rcases List.mem_append.mp z with z|z
     .exact⟨p,Pt,z⟩
     .rcases List.mem_cons.mp z with z|z
      .cases z
      .obtain⟨a,ha,q⟩:=ih z
       exact⟨a,Pu _ ha,q⟩
  obtain⟨p,hp,q⟩:=key z;obtain⟨s,hs,rfl⟩:=List.mem_map.mp hp;obtain⟨e,he,rfl⟩:=List.mem_map.mp hs;have:=ex_free (h e he).1 (h e he).2 44 q;lia
theorem B6{R:List (Int×Int)}(h:∀e∈R,0<=e.1/\0<=e.2):bl (eJ R)=kf R:=by rw[←qM h];exact Jb (HG h)
theorem HI{R:List (Int×Int)}(h:∀e∈R,0<=e.1/\0<=e.2):32∉signs (eJ R):=by rw[←qM h];exact LR _
def iM(r:List Int):Str:=Str.join (Pd ",") (r.map aF)
theorem AK{r:List Int}(h:∀x∈r,0<=x):cm (qz r)=iM r:=BY fun p hp=>by
 obtain⟨x,hx,rfl⟩:=List.mem_map.mp hp;exact i8 (h x hx) (by lia)
def fk(rs:List (List Int)):Str:=Str.join (Pd "") (rs.map fun r=>Pd "(" ++iM r++Pd ")")
theorem BD{rs:List (List Int)}(h:∀r∈rs,∀x∈r,0<=x):cm (mw rs)=fk rs:=by
 unfold mw fk;rw[KD,Pp];congr 1;refine List.map_congr_left fun r hr=>?_;show cm (Pd "(" ++qz r++Pd ")")=_;rw[Eh,Eh,AK (h r hr),wD (by decide+kernel),wD (by decide+kernel)]
theorem Ig{rs:List (List Int)}(h:∀r∈rs,∀x∈r,0<=x):44∉signs (mw rs):=by
 unfold mw;rw[hU];intro z;obtain⟨l,hl,z⟩:=List.mem_flatten.mp z;obtain⟨t,ht,rfl⟩:=List.mem_map.mp hl;obtain⟨r,hr,rfl⟩:=List.mem_map.mp ht;rw[sP]at z;rcases List.mem_cons.mp z with z|z
 .cases z
 .rcases List.mem_append.mp z with z|z
  .have:=vN (h r hr) 44 z
   lia
  .cases List.mem_singleton.mp z
theorem GS{rs:List (List Int)}(h:∀r∈rs,∀x∈r,0<=x):bl (fk rs)=mw rs:=by rw[←BD h];exact Jb (Ig h)
theorem p6{ts:List Str}(ne:ts≠[])(h:∀t∈ts,32∉signs t):Txt.split (Str.join (Pd " ") ts) (Pd " ")=ts:=by
 rw[Ko];exact cW ne h
end Sw
namespace L2
open PySem PySem.Spec PyProof.Rows
def Jv(x:Str):It:=⟨fun i _=>i<x.length,fun i H v H'=>H'=H/\∃c,x.cps[i]?=some c/\v= .str ⟨#[c]⟩,fun i _=>x.length<=i⟩
theorem Cq{P:P0}{w:P4}{K:W.Frag}{tg:Expr}(it:PY)(x:Str)(t:Tok):
  Turn P w K tg (Jv x) [it] it (fun i h=>h.IsStrIter it "str_ascii_iterator" x t i)where
 mem:=by simp
 obj:=fun i h st b hb=>by
  have e:b=it:=by simpa using hb
  subst e;obtain⟨o,e,c,d⟩:=st;exact⟨o,e,fun v z=>by rw[d]at z;cases z⟩
 keep:=fun i h h' st k=>by
  obtain⟨o,e,c,d⟩:=st;exact⟨o,k it (by simp) o e,c,d⟩
 item:=by
  intro X hP hw hK hc i pins s σ H E I hf st hg;subst hP hw hK;have hi:i<x.cps.size:=hg;obtain⟨f0,f1,f2,f3,f4,f5⟩:=hf it (by simp);refine wpAny_pyNext_ascii_item st (c:=x.cps[i]) (by simp[hi]) fun h' st' sb=>?_;have I1:Inv X pins σ H {s with heap:=h',toks:=s.toks+1}:=I.turned (fun b o hb e=>(sb.2 b hb).trans e) f0 f1 f3 f4 f5;obtain⟨o,e,c,d⟩:=id st';exact⟨_,rfl,uY (s:={s with heap:=h',toks:=s.toks+1}) e c d (by decide) ⟨.str ⟨#[x.cps[i]]⟩,H,I1,⟨_,rfl⟩,⟨rfl,_,by simp[hi],rfl⟩,st',fun b hb=>(hf b hb).1⟩⟩
 done:=by
  intro X hP hw hK hc i pins s σ H E I hf st hg;subst hP hw hK;have hi:x.cps.size<=i:=hg;obtain⟨f0,f1,f2,f3,f4,f5⟩:=hf it (by simp);exact wpAny_pyNext_ascii_end (I.ok.hd hc) st (by simp;lia) fun h' eb=>⟨rfl,I.turned (t':=s.toks) (fun b o hb e=>eb b o hb e) f0 f1 f3 f4 f5⟩
 self:=fun _ _ _ _ _ st h=>wpAny_pyIter_striter_ascii st h
theorem DA{P:P0}{w:P4}{K:W.Frag}{tg:Expr}(it:PY)(x:Str)(t:Tok):
  Turn P w K tg (Jv x) [it] it (fun i h=>h.IsStrIter it "str_iterator" x t i)where
 mem:=by simp
 obj:=fun i h st b hb=>by
  have e:b=it:=by simpa using hb
  subst e;obtain⟨o,e,c,d⟩:=st;exact⟨o,e,fun v z=>by rw[d]at z;cases z⟩
 keep:=fun i h h' st k=>by
  obtain⟨o,e,c,d⟩:=st;exact⟨o,k it (by simp) o e,c,d⟩
 item:=by
  intro X hP hw hK hc i pins s σ H E I hf st hg;subst hP hw hK;have hi:i<x.cps.size:=hg;obtain⟨f0,f1,f2,f3,f4,f5⟩:=hf it (by simp);refine wpAny_pyNext_wide_item st (c:=x.cps[i]) (by simp[hi]) fun h' st' sb=>?_;have I1:Inv X pins σ H {s with heap:=h',toks:=s.toks+1}:=I.turned (fun b o hb e=>(sb.2 b hb).trans e) f0 f1 f3 f4 f5;obtain⟨o,e,c,d⟩:=id st';exact⟨_,rfl,uY (s:={s with heap:=h',toks:=s.toks+1}) e c d (by decide) ⟨.str ⟨#[x.cps[i]]⟩,H,I1,⟨_,rfl⟩,⟨rfl,_,by simp[hi],rfl⟩,st',fun b hb=>(hf b hb).1⟩⟩
 done:=by
  intro X hP hw hK hc i pins s σ H E I hf st hg;subst hP hw hK;have hi:x.cps.size<=i:=hg;obtain⟨f0,f1,f2,f3,f4,f5⟩:=hf it (by simp);exact wpAny_pyNext_wide_end (I.ok.hd hc) st (by simp;lia) fun h' eb=>⟨rfl,I.turned (t':=s.toks) (fun b o hb e=>eb b o hb e) f0 f1 f3 f4 f5⟩
 self:=fun _ _ _ _ _ st h=>wpAny_pyIter_striter_wide st h
def Mm(te:TE):TI:=fun σ H R=>te σ H fun v H1=>∃x,v= .str x/\R (Jv x) H1
theorem wk{X:Cx}{e tg:Expr}{te:TE}(he:PE X e te):PI X tg e (Mm te):=by
 intro pins s σ H R I h;refine bf (he pins s σ H _ I h) fun u s2 ⟨v,H2,I2,rv,x,ev,hR⟩=>?_;subst ev;obtain⟨t,rfl⟩:=rv;have fp:∀b∈[s2.heap.objs.size],kj X pins H2 b:=fun b hb=>by
  have e:b=s2.heap.objs.size:=by simpa using hb
  subst e;exact I2.qy (PK _) (I2.aX.fresh (PK _))
 cases ha:x.cps.all (·<128)
 .exact wpAny_pyIter_wide ha ⟨s2.heap.objs.size,[s2.heap.objs.size],_,_,H2,rfl,I2.kept (t':=s2.toks) fun b o e=>Qd.get?_push_of_some _ e,DA _ x t,⟨_,Qd.get?_push_size _ rfl,rfl,rfl⟩,fp,hR⟩
 .exact wpAny_pyIter_ascii ha ⟨s2.heap.objs.size,[s2.heap.objs.size],_,_,H2,rfl,I2.kept (t':=s2.toks) fun b o e=>Qd.get?_push_of_some _ e,Cq _ x t,⟨_,Qd.get?_push_size _ rfl,rfl,rfl⟩,fp,hR⟩
theorem Bx{ix:List (Option Nat)}{tc:TT}{te:TE}{σ:St}{Q:VK}{H:Hp}{x:Str}{k:Nat}(Pv:Nat->List V->St->Hp->Prop)(hn:x.length<=1000000)(h0:Pv 0 [] (eN ix σ) H)
  (hlen:∀i ys σ H,Pv i ys σ H->ys.length<=i)
  (hs:∀i ys σ H c(R:St->List V->Hp->Prop),x.cps[i]?=some c->Pv i ys σ H->(∀σ2 ys2 H5,Pv (i+1) ys2 σ2 H5->R σ2 ys2 H5)->
   tc (σ.set k (some (.str ⟨#[c]⟩))) H fun b H4=>if b=true then te (σ.set k (some (.str ⟨#[c]⟩))) H4 fun v H5=>R (σ.set k (some (.str ⟨#[c]⟩))) (ys++[v]) H5 else R (σ.set k (some (.str ⟨#[c]⟩))) ys H4)
  (hd:∀ys σ' H' p,Pv x.length ys σ' H'->H' p=none->Q (.ref p) (upd H' p (.lst ys))):jg ix (cT k) tc te σ Q (Jv x) H:=by
 refine iF Pv hn h0 (fun i ys σ H hi p=>hi) (fun ys σ H p=>PK _) hlen (fun i ys σ H v H2 R hi p y r=>?_) hd;obtain⟨rfl,c,hc,rfl⟩:=y;unfold cT;exact hs i ys σ _ c R hc p r
theorem ME{ix:List (Option Nat)}{te:TE}{σ:St}{Q:VK}{H:Hp}{x:Str}{k:Nat}(Pv:Nat->List V->St->Hp->Prop)(hn:x.length<=1000000)(h0:Pv 0 [] (eN ix σ) H)
  (hlen:∀i ys σ H,Pv i ys σ H->ys.length<=i)
  (hs:∀i ys σ H c(R:St->List V->Hp->Prop),x.cps[i]?=some c->Pv i ys σ H->(∀σ2 ys2 H5,Pv (i+1) ys2 σ2 H5->R σ2 ys2 H5)->
   te (σ.set k (some (.str ⟨#[c]⟩))) H fun v H5=>R (σ.set k (some (.str ⟨#[c]⟩))) (ys++[v]) H5)
  (hd:∀ys σ' H' p,Pv x.length ys σ' H'->H' p=none->Q (.ref p) (upd H' p (.lst ys))):jg ix (cT k) i7 te σ Q (Jv x) H:=by
 refine Bx Pv hn h0 hlen (fun i ys σ H c R hc p r=>?_) hd;unfold i7;simp only[if_true];exact hs i ys σ H c R hc p r
def NJ:R2:=fun x y H Q=>∃a b,x= .str a/\y= .str b/\Q (.bl (Txt.contains b a)) H
def Ce:R2:=fun x y H Q=>∃a b,x= .str a/\y= .str b/\Q (.bl (!Txt.contains b a)) H
theorem ES{X:Cx}:kK X (compareOp .In) NJ:=by
 intro pins s σ H x y v u Q I rx ry h;obtain⟨a,b,rfl,rfl,q⟩:=h;obtain⟨t,rfl⟩:=rx;obtain⟨t',rfl⟩:=ry;exact P.in_str ⟨.bl _,H,I,rfl,q⟩
theorem vo{X:Cx}:kK X (compareOp .NotIn) Ce:=by
 intro pins s σ H x y v u Q I rx ry h;obtain⟨a,b,rfl,rfl,q⟩:=h;obtain⟨t,rfl⟩:=rx;obtain⟨t',rfl⟩:=ry;exact P.notIn_str ⟨.bl _,H,I,rfl,q⟩
end L2
namespace Sw
open PySem L2
def isNm(w:Str):Prop:=1<=w.length/\w.length<=8/\∀c∈signs w,97<=c/\c<=122
theorem rT(c:Nat):Txt.contains (Pd "abcdefghijklmnopqrstuvwxyz") ⟨#[c]⟩=decide (97<=c/\c<=122):=by
 unfold Txt.contains;rw[StrLaws.found_one,Bool.eq_iff_iff,decide_eq_true_eq,decide_eq_true_eq];have e:(Pd "abcdefghijklmnopqrstuvwxyz").cps.toList=List.range' 97 26:=by decide+kernel
 rw[e,List.mem_range'_1];lia
open Classical in
noncomputable def dn(n:Int)(d w:Str):Option Wd:=
 if d=Pd "number"then(if h:∃i:Int,w=aF i/\0<=i/\i<10^9 then some (.num h.choose)else none)
 else if d=Pd "row"then(if h:∃R,lg n (.str (bl w)) R then some (.row h.choose)else none)
 else if d=Pd "order"then(if h:∃xs,kI (.str (bl w)) n xs then some (.ord h.choose)else none)
 else if isNm w then some (.txt w)else none
theorem yA{n:Int}{w:Str}(h:isNm w):dn n (Pd "name") w=some (.txt w):=by
 unfold dn;rw[if_neg (by decide+kernel),if_neg (by decide+kernel),if_neg (by decide+kernel),if_pos h]
theorem BV{n:Int}{w:Str}(h:isNm w):dn n (Pd "new") w=some (.txt w):=by
 unfold dn;rw[if_neg (by decide+kernel),if_neg (by decide+kernel),if_neg (by decide+kernel),if_pos h]
theorem Cp{n i:Int}(h0:0<=i)(h9:i<10^9):dn n (Pd "number") (aF i)=some (.num i):=by
 unfold dn;have h:∃j:Int,aF i=aF j/\0<=j/\j<10^9:=⟨i,rfl,h0,h9⟩;rw[if_pos rfl,dif_pos h];have:=h.choose_spec;rw[gU (a:=h.choose) (b:=i) this.2.1 h0 (by lia) (by lia) this.1.symm]
theorem yP{n:Int}{w:Str}(h:¬j3 w):dn n (Pd "number") w=none:=by
 unfold dn;rw[if_pos rfl];exact dif_neg h
theorem sR{n:Int}{w:Str}{R:List (Int×Int)}(hn:n<1000)(h:lg n (.str (bl w)) R):dn n (Pd "row") w=some (.row R):=by
 unfold dn;have hx:∃R',lg n (.str (bl w)) R':=⟨R,h⟩;rw[if_neg (by decide+kernel),if_pos rfl,dif_pos hx];have q:=hx.choose_spec;have q1:=q.1.symm.trans h.1;injection q1 with q1
 rw[FK hn q.2.1 h.2.1 q1]
theorem zg{n:Int}{w:Str}(h:∀R,¬lg n (.str (bl w)) R):dn n (Pd "row") w=none:=by
 unfold dn;rw[if_neg (by decide+kernel),if_pos rfl,dif_neg (fun⟨R,z⟩=>h R z)]
theorem yV{n:Int}{w:Str}{xs:List Int}(h:kI (.str (bl w)) n xs):dn n (Pd "order") w=some (.ord xs):=by
 unfold dn;have hx:∃ys,kI (.str (bl w)) n ys:=⟨xs,h⟩;rw[if_neg (by decide+kernel),if_neg (by decide+kernel),if_pos rfl,dif_pos hx,(hx.choose_spec.uniq h).1]
theorem su{n:Int}{w:Str}(h:∀xs,¬kI (.str (bl w)) n xs):dn n (Pd "order") w=none:=by
 unfold dn;rw[if_neg (by decide+kernel),if_neg (by decide+kernel),if_pos rfl,dif_neg (fun⟨R,z⟩=>h R z)]
theorem nM{n:Int}{d w:Str}(h1:d≠Pd "number")(h2:d≠Pd "row")(h3:d≠Pd "order"):(isNm w->dn n d w=some (.txt w))/\(¬isNm w->dn n d w=none):=by
 unfold dn;rw[if_neg h1,if_neg h2,if_neg h3];exact⟨fun h=>if_pos h,fun h=>if_neg h⟩
theorem HA{n:Int}{R:List (Int×Int)}(hn:n<1000)(g:Good n R)(l:R.length<=60):dn n (Pd "row") (eJ R)=some (.row R):=
 sR hn ⟨by rw[B6 fun e he=>by have:=g e he;lia],g,l⟩
def LV:Sp:=fun vs H Q _=>∃t:Str,vs=[.str t]/\t.length<=100000/\Q (.str (cm t)) H
def Jl(C:PY):Sp:=fun vs H Q E=>∃x:Str,vs=[.str x]/\x.length<=1000/\(isNm x->∀v H',ai H H'->Q v H')/\(¬isNm x->∀H',ai H H'->E (.ref C) none H')
structure M0(mg:Str->Option PX)(K:W.Frag)(u8 ul:PX)(C:PY):Prop extends T1 mg K where
 kJ:mg "MOST_LETTERS" =some u8
 kM:RelV (.int 8) u8
 uE:mg "LETTERS" =some ul
 vk:RelV (.str (Pd "abcdefghijklmnopqrstuvwxyz")) ul
 aK:mg "NoText" =some (.ref C)
 bp:jo K C
def Lc(C:PY)(L:dX):Sp:=fun vs H Q E=>L.okd (Pd "number")=true/\vC C vs H Q E
def La(C:PY)(L:dX):Sp:=fun vs H Q E=>L.okd (Pd "row")=true/\A0 C vs H Q E
def Ky(C:PY)(L:dX):Sp:=fun vs H Q E=>L.okd (Pd "order")=true/\sS C vs H Q E
structure Ng(P:P0)(w:P4)(K:W.Frag)(mg:Str->Option PX)(base:Qd)(L:dX):Prop extends T1 mg K where
 bu:eI P w K mg base "read_number" 1 ["word"] (Lc L.CT L)
 rE:eI P w K mg base "read_row" 7 ["n","text"] (La L.CT L)
 nJ:eI P w K mg base "read_order" 5 ["text"] (Ky L.CT L)
 nU:eI P w K mg base "check_name" 1 ["word"] (Jl L.CT)
 aK:mg "NoText" =some (.ref L.CT)
 bp:jo K L.CT
section
variable{P:P0}{w:P4}{K:W.Frag}{mg:Str->Option PX}{base:Qd}{u8 ul:PX}{C:PY}{L:dX}
theorem xP:aE ["text"] ["text"] (av (top 94)):=⟨rfl,rfl,rfl,by decide+kernel,rfl,by decide+kernel,by decide+kernel⟩
theorem MS{f:PY}{fd:Qc}(F:dU K "one_word" "one_word" (top 94) f fd):j5 P w K mg base (j4 P w) 1 f fd ["text"] LV:=by
 refine F.Oz xP (fun vs H Q E h=>?_) (fun cdv A outer s H vs Q E hr h=>?_)
 .obtain⟨t,rfl,_⟩:=h
  rfl
 .obtain⟨t,rfl,ht,k⟩:=h
  exact⟨_,(qS (w6 (wQ (by decide+kernel) (by decide+kernel) (QE.of (pv 0)) ⟨rfl,rfl,rfl,rfl⟩))),_,rfl,t,rfl,ht,k⟩
theorem tU:aE ["word"] ["word"] (av (top 96)):=⟨rfl,rfl,rfl,by decide+kernel,rfl,by decide+kernel,by decide+kernel⟩
theorem Kg{f:PY}{fd:Qc}(F:dU K "check_name" "check_name" (top 96) f fd)(T:M0 mg K u8 ul C):aQ P w K mg base (j4 P w) 1 f fd ["word"] (Jl C):=by
 refine F.DG tU (fun vs H Q E h=>?_) (fun cdv A outer s H vs Q E hr h=>?_)
 .obtain⟨x,rfl,_⟩:=h
  rfl
 .obtain⟨x,rfl,xl,kY,kN⟩:=h
  refine⟨_,(ah (aN (PW.pt (fu (dm (rm p5 p5 aj (ar cI rfl T.bX (by decide+kernel) (aa (pv 0) ae)) (de rfl T.kJ T.kM))) (dG (dm (dq (ar (ph (K:=K) rfl rfl) rfl T.B0 (by decide+kernel) (aa (bU (N:=(["letter"]:List Str)) (ix:=([none]:List (Option Nat))) (aW rfl rfl) rfl (wk (pv 0)) (fun _ _ _ _=>(aA (i:=0) (show List.Nodup (["letter"]:List Str)from by decide+kernel) rfl (Or.inl rfl))) (fun _ _ _ _=>bq) (fun _ _ _ _=>(iG ES (pv 0) (de rfl T.uE T.vk) rfl))) ae))))))) (ah (cb n6 T.bp rfl rfl T.aK (aa ak ae))) ax)),?_⟩;have big:(10000000:Nat)<=P6:=by decide
  have one:1<=P6:=by decide
  have no:¬isNm x->(1:Nat)<=P6/\E (.ref C) none H:=fun z=>⟨one,kN z H (ai.refl _)⟩;refine⟨_,rfl,x,rfl,by lia,_,_,rfl,rfl,_,rfl,?_⟩;by_cases c1:1<=x.length
  case neg=>
   rw[if_neg (by rw[decide_eq_true_eq];lia)];exact⟨_,rfl,no fun z=>c1 z.1⟩
  rw[if_pos (by rw[decide_eq_true_eq];lia)];refine⟨_,_,rfl,rfl,_,rfl,?_⟩;by_cases c2:x.length<=8
  case neg=>
   rw[decide_eq_false (by lia)];exact no fun z=>c2 z.2.1
  rw[decide_eq_true (by lia)];refine⟨_,rfl,x,rfl,?_⟩;refine ME (fun i ys σ' H'=>H'=H/\(∃v0,σ'=[v0])/\∃bs:List Bool,ys=bs.map V.bl/\bs=((signs x).take i).map fun c=>decide (97<=c/\c<=122)) (by lia) ⟨rfl,⟨none,rfl⟩,[],rfl,rfl⟩ (fun i ys σ' H' ⟨_,_,bs,e1,e2⟩=>by
   rw[e1,Pe,e2,Pe,Pn];lia) (fun i ys σ' H' c R hc ⟨eH,⟨v0,e0⟩,bs,e1,e2⟩ r=>?_) (fun ys σ' H' l ⟨eH,_,bs,e1,e2⟩ fl=>?_)
  .subst e0
   refine⟨_,rfl,_,_,rfl,rfl,r _ _ _ ⟨eH,⟨_,rfl⟩,bs++[decide (97<=c/\c<=122)],?_,?_⟩⟩
   .rw[e1,Pj,rT]
    rfl
   .have hs:(signs x)[i]?=some c:=by unfold signs;simpa using hc
    rw[e2,PJ,hs,Pj];rfl
  .subst eH
   subst e1;refine⟨l,bs,rfl,aI.of af,_,rfl,?_⟩;have e3:bs.all id=true↔∀c∈signs x,97<=c/\c<=122:=by
    rw[e2,Pw (by rw[aS];exact PK _),List.all_eq_true];simp
   cases e4:bs.all id with
   |true=>exact kY ⟨c1,c2,e3.mp e4⟩ _ _ (ai.new fl)
   |false=>exact⟨one,kN (fun z=>by rw[e3.mpr z.2.2]at e4;cases e4) _ (ai.new fl)⟩
theorem nQ:aE ["n","due","word","order"] ["n","due","word"] (av (top 97)):=⟨rfl,rfl,rfl,by decide+kernel,rfl,by decide+kernel,by decide+kernel⟩
theorem Mx{f:PY}{fd:Qc}(F:dU K "read_word" "read_word" (top 97) f fd)(hL:L.GX=dn)(T:Ng P w K mg base L):aQ P w K mg base (j4 P w) 9 f fd ["n","due","word"] (ML L):=by
 refine F.DG nQ (fun vs H Q E h=>?_) (fun cdv A outer s H vs Q E hr h=>?_)
 .obtain⟨n,d,w',rfl,_⟩:=h
  rfl
 .obtain⟨n,d,w',rfl,n1,n2,wl,aX,kY,kN⟩:=h
  refine⟨_,(uX (MF (GO bR (pv 1) le_str (aB _)) (ah (ay (bW T.bu j8 (hr.mono (by decide)) rfl (aa (pv 2) ae)))) ax)
   (dz (Et (aw bR (pv 1) ak (aB _)) (qS (w6 (wu T.rE.toQ j8 (hr.mono (by decide)) rfl (qR (QE.of (pv 0)) (qR (wQ (by decide+kernel) (by decide+kernel) (QE.of (pv 2)) ⟨rfl,rfl,rfl,rfl⟩) Af))))) (z5.of ax))
   (dz (Et (aw bR (pv 1) ak (aB _)) (dz (JO (i:=3) nQ.nd rfl (Or.inl rfl) (wu T.nJ.toQ j8 (hr.mono (by decide)) rfl (qR (wQ (by decide+kernel) (by decide+kernel) (QE.of (pv 2)) ⟨rfl,rfl,rfl,rfl⟩) Af)))
   (z5.of (ag (aN (aw eC (ar (aZ (K:=K) rfl) rfl T.bX (by decide+kernel) (aa (pv 3) ae)) (pv 0) (aB _)) (ah (cb n6 T.bp rfl rfl T.aK (aa ak ae))) ax)
   (ah (ay (pv 3)))))) (z5.of ax))
   (z5.of (ag (cj (bW T.nU j8 (hr.mono (by decide)) rfl (aa (pv 2) ae)))
   (ah (ay (pv 2)))))))),?_⟩
  have one:1<=P6:=by decide
  rw[hL]at kY kN;refine⟨_,rfl,rfl,_,rfl,cg (fun c=>?_) (fun c1=>?_)⟩
  .obtain rfl:d=Pd "number" :=by simpa using c
   refine⟨_,rfl,aX,?_⟩;by_cases hn:j3 w'
   .obtain⟨i,rfl,i0,i9⟩:=hn
    exact .inl ⟨i,rfl,i0,i9,kY _ (Cp i0 i9) _ _ rfl (ai.refl _)⟩
   .exact .inr ⟨w',rfl,by lia,hn,kN (yP hn) none H (ai.refl _)⟩
  refine⟨_,rfl,rfl,_,rfl,cg (fun c=>?_) (fun c2=>?_)⟩
  .obtain rfl:d=Pd "row" :=by simpa using c
   refine⟨_,rfl,_,rfl,w',rfl,by lia,aX,?_⟩;by_cases hn:∃R,lg n (.str (bl w')) R
   .obtain⟨R,hR⟩:=hn
    have e:=hR.1;injection e with e
    refine .inl ⟨n,R,by rw[←e];rfl,hR.2.1,by lia,hR.2.2,fun l es H' fl hl hx sm=>kY _ (sR (by lia) hR) _ _ ⟨l,es,rfl,hl,hx⟩ sm⟩
   .have hn:∀R,¬lg n (.str (bl w')) R:=fun R z=>hn ⟨R,z⟩
    exact .inr ⟨n,_,fun _=>True,_,rfl,.str _,fun x z=>by cases z;rw[show(Txt.replace w' (Pd ",") (Pd " ")).length=w'.length from Fz w'];exact wl,hn,fun H' sm=>kN (zg hn) none H' sm⟩
  refine⟨_,rfl,rfl,_,rfl,cg (fun c=>?_) (fun c3=>?_)⟩
  .obtain rfl:d=Pd "order" :=by simpa using c
   refine⟨_,rfl,w',rfl,by lia,aX,?_⟩;refine⟨_,.str (bl w'),rfl,.str _,fun x z=>by cases z;rw[Fz];exact wl,fun m xs ho t H' ft ht sm=>?_,fun hn bb H' sm=>kN (su (hn n)) bb H' sm⟩;refine⟨_,rfl,_,_,rfl,.inr (gL.of ht),_,rfl,rfl,_,rfl,cg (fun c=>?_) (fun c=>?_)⟩
   .refine⟨one,kN (su fun ys hy=>?_) none H' sm⟩
    have:=(ho.uniq hy);have hl:=Ord.length hy.2.1;rw[this.1]at c;simp only[Pe,Bool.not_eq_true',decide_eq_false_iff_not,V.int.injEq]at c;lia
   .have hl:=Ord.length ho.2.1
    simp only[Pe,Bool.not_eq_true',decide_eq_false_iff_not,V.int.injEq]at c;have:m=n:=by lia
    subst this;exact⟨_,rfl,kY _ (yV ho) _ _ ⟨t,rfl,ht⟩ sm⟩
  have ne:∀x:Str,decide (V.str d=V.str x)≠true->d≠x:=fun x z e=>z (by rw[e];simp);have q:=nM (n:=n) (w:=w') (ne _ c1) (ne _ c2) (ne _ c3);exact⟨_,rfl,w',rfl,by lia,fun hn v H' sm=>⟨_,rfl,kY _ (q.1 hn) _ _ rfl sm⟩,fun hn H' sm=>kN (q.2 hn) none H' sm⟩
end
open PySem L2 PyProof.Rows
theorem yf{x:Str}:∀p∈Txt.split x (Pd " "),32∉signs p:=fun p hp=>by
 rw[Ko]at hp;exact StrLaws.split_free x 32 p hp
theorem A1{R:List (Int×Int)}(h:R≠[])(hp:∀e∈R,0<=e.1/\0<=e.2):Txt.split (eJ R) (Pd ",")=R.map gA:=by
 unfold eJ;rw[if_neg h,LF];refine cW (c:=44) (by simpa using h) fun p hpm=>?_;obtain⟨⟨a,b⟩,he,rfl⟩:=List.mem_map.mp hpm;have:=hp _ he;intro z;have:=ex_free this.1 this.2 44 z;lia
theorem tY{x:Str}{R:List (Int×Int)}(h:Txt.split x (Pd ",")=R.map gA):x=eJ R:=by
 have e:=StrLaws.join_split x (Pd ",");have ne:=dv x (Pd ",");rw[h]at e ne;unfold eJ;rw[if_neg (by intro z;rw[z]at ne;exact ne rfl)];exact e.symm
theorem FP{r:List Int}(h:∀x∈r,0<=x):41∉signs (iM r):=by
 rw[←AK h,cK];intro z;obtain⟨c,hc,e⟩:=List.mem_map.mp z;have:=vN h c hc;unfold GJ at e
 split at e<;>lia
theorem oW{r:List Int}(h:r≠[])(hp:∀x∈r,0<=x):Txt.split (iM r) (Pd ",")=r.map aF:=by
 unfold iM;rw[LF];refine cW (c:=44) (by simpa using h) fun p hpm=>?_;obtain⟨x,hx,rfl⟩:=List.mem_map.mp hpm;exact i8 (hp x hx) (by lia)
theorem wO{x:Str}{r:List Int}(h:Txt.split x (Pd ",")=r.map aF):x=iM r:=by
 have e:=StrLaws.join_split x (Pd ",");rw[h]at e;exact e.symm
theorem DO(r:List Int):signs (Pd "(" ++iM r++Pd ")")=40::(signs (iM r)++[41]):=by
 rw[aT,aT];rw[show signs (Pd "(")=[40] by decide+kernel,show signs (Pd ")")=[41] by decide+kernel];rfl
theorem mX{rs:List (List Int)}(h:rs≠[]):signs (fk rs)=40::(cF 41 40 ((rs.map iM).map signs)++[41]):=by
 unfold fk;rw[hU,Pp];rw[show(signs∘fun r=>Pd "(" ++iM r++Pd ")")=(fun r=>40::(signs (iM r)++[41]))from funext DO];rw[←oY (by simpa using h),Pp,Pp];rfl
theorem z7{rs:List (List Int)}(h:rs≠[]):Txt.slice (fk rs) (some 1) (some (-1))=Str.join ⟨#[41,40]⟩ (rs.map iM):=by
 have e:=mX h;have l:(fk rs).length=(cF 41 40 ((rs.map iM).map signs)).length+2:=by rw[←aS,e];simp
 rw[kF (by lia)];apply bt;show(((signs (fk rs)).drop 1).take ((fk rs).length-2)).toArray.toList=_;rw[cD,e,l];simp
theorem AM{rs:List (List Int)}(h:rs≠[])(hp:∀r∈rs,∀x∈r,0<=x):Txt.split (Txt.slice (fk rs) (some 1) (some (-1))) (Pd ")(")=rs.map iM:=by
 rw[z7 h];refine nV (by simpa using h) fun p hpm=>?_;obtain⟨r,hr,rfl⟩:=List.mem_map.mp hpm;exact FP (hp r hr)
theorem F6{rs:List (List Int)}(h:rs≠[]):Txt.slice (fk rs) none (some 1)=Pd "("/\Txt.slice (fk rs) (some (-1)) none=Pd ")" :=by
 have sg:=mX h;have sl:=aS (fk rs);rw[sg,Pl,Pg,List.length_singleton]at sl;refine⟨bt ?_,bt ?_⟩
 .rw[A8 _ (by decide),sg]
  show [40]=signs (Pd "(");decide+kernel
 .rw[zd (by lia),sg]
  rw[show(fk rs).length-1=(cF 41 40 ((rs.map iM).map signs)).length+1 by lia,List.drop_succ_cons,List.drop_left];decide+kernel
theorem wg{x:Str}{Ls:List (List Int)}(ne:Ls≠[])(h1:Txt.slice x none (some 1)=Pd "(")(h2:Txt.slice x (some (-1)) none=Pd ")")(h:Txt.split (Txt.slice x (some 1) (some (-1))) (Pd ")(")=Ls.map iM):x=fk Ls:=by
 have sl:=aS x;have e1:=A8 x (j:=1) (by decide);rw[h1]at e1;have e1:[40]=(signs x).take 1:=e1;have pos:1<=x.length:=by
  rw[←sl]
  cases e:signs x with
  |nil=>rw[e]at e1;cases e1
  |cons a r=>simp
 have e2:=zd pos;rw[h2]at e2;have e2:[41]=(signs x).drop (x.length-1):=e2;have two:2<=x.length:=by
  apply PV;intro z;have l1:(signs x).length=1:=by lia
  obtain⟨a,ha⟩:=List.length_eq_one_iff.mp l1;rw[show x.length-1=0 by lia]at e2;rw[ha]at e1 e2;simp at e1 e2;lia
 have e3:=StrLaws.join_split (Txt.slice x (some 1) (some (-1))) (Pd ")(");rw[h,kF two]at e3;have e4:=congrArg signs e3;have pp:Pd ")(" =⟨#[41,40]⟩:=by decide+kernel
 rw[pp,cD]at e4;have e4:cF 41 40 ((Ls.map iM).map signs)=((signs x).drop 1).take (x.length-2):=e4;apply bt;rw[mX ne,e4];have a1:signs x=(signs x).take 1++(signs x).drop 1:=(List.take_append_drop 1 _).symm;have a2:(signs x).drop 1=((signs x).drop 1).take (x.length-2)++((signs x).drop 1).drop (x.length-2):=(List.take_append_drop _ _).symm;rw[List.drop_drop,show 1+(x.length-2)=x.length-1 by lia,←e2]at a2;rw[←e1,a2]at a1;exact a1
theorem Nz{n:Int}{w:Str}{xs:List Int}(no:32∉signs w):kI (.str (bl w)) n xs↔w=fk (bj n xs)/\Ord n xs/\1<=n/\n<=12:=by
 constructor
 .rintro⟨e,o,n1,n12⟩
  injection e with e
  have q:=(ko o n1 n12).2.2.1;refine⟨?_,o,n1,n12⟩;rw[←BD fun r hr x hx=>by have:=q r hr x hx;lia,←e,JE no]
 .rintro⟨e,o,n1,n12⟩
  have q:=(ko o n1 n12).2.2.1;refine⟨?_,o,n1,n12⟩;rw[e,GS fun r hr x hx=>by have:=q r hr x hx;lia]
theorem kA:∀{a b:List (List Int)},(∀r∈a,mY r)->(∀r∈b,mY r)->a.map iM=b.map iM->a=b
 |[],[],_,_,_=>rfl
 |[],_::_,_,_,h=>by cases h
 |_::_,[],_,_,h=>by cases h
 |r::a,q::b,ha,hb,h=>by
  rw[Pm,Pm]at h;injection h with h1 h2
  have k1:=ha r Pt;have k2:=hb q Pt;have e:r.map aF=q.map aF:=by rw[←oW k1.1 fun x hx=>(k1.2 x hx).1,h1,oW k2.1 fun x hx=>(k2.2 x hx).1]
  rw[gn k1.2 k2.2 e,kA (fun r hr=>ha r (Pu _ hr)) (fun r hr=>hb r (Pu _ hr)) h2]
theorem Df{w:Str}:j3 w↔(1<=w.length/\w.length<=9)/\¬((signs w)[0]?=some 48/\w≠Pd "0")/\∀c∈signs w,48<=c/\c<=57:=by
 constructor
 .rintro⟨i,rfl,i0,i9⟩
  refine⟨⟨vR i0,eQ i0 i9⟩,fun⟨z1,z2⟩=>?_,dS i0⟩;by_cases c:0<i
  .have q:=rD c
   have:Txt.startswith (aF i) ⟨#[48]⟩=true:=by
    rw[mR];cases e:signs (aF i)with
    |nil=>rw[e]at z1;cases z1
    |cons a r=>rw[e]at z1;exact⟨r,by rw[show a=48 from PU z1]⟩
   rw[q]at this;cases this
  .have:i=0:=by lia
   subst this;exact z2 (by decide+kernel)
 .rintro⟨⟨l1,l9⟩,nz,dg⟩
  have l:=aS w;obtain⟨m,e,lt,pos⟩:=zm w.length (signs w) l (by intro z;rw[z]at l;simp at l;lia) dg (by
   by_cases z:(signs w)[0]?=some 48
   .left
    have:w=Pd "0" :=PV fun q=>nz ⟨z,q⟩;rw[this];decide+kernel
   .right
    rw[List.head?_eq_getElem?];exact z)
  refine⟨(m:Int),bt ?_,by lia,?_⟩
  .rw[i6,e]
  .have:10^w.length<=10^9:=Nat.pow_le_pow_right (by decide) l9
   have:m<10^9:=PL lt this;lia
end Sw
namespace L2
open PySem PySem.Spec PyProof.Rows
def DE(h:Qd)(d:PY)(es:Array DictEntry)(ep:Nat):Prop:=∃o,h.get? d=some o/\o.ExactDict/\o.data= .dict es ep
section
variable{prog:P0}{w:P4}{A:P5}{E:PX->PZ->Prop}{s:PZ}{it d:PY}{i ep:Nat}{es:Array DictEntry}
theorem E2{Q:Option PX->PZ->Prop}(hit:s.heap.IsKeyIter it d i es.size ep)(hm:DE s.heap d es ep)(lt:i<es.size)
  (hQ:∀h',h'.IsKeyIter it d (i+1) es.size ep->Qd.SameBut it s.heap h'->Q (some es[i].key) {s with heap:=h'}):Qf (model prog w) A (pyNext (.ref it)) Q E s:=by
 obtain⟨o,ho,hc,hd⟩:=id hit;obtain⟨od,hod,hcd,hdd⟩:=id hm;have tI:=hit.typeIs;have own:Qi.Dict_items.ownsTuple "dict_keyiterator" =false:=by decide
 unfold pyNext;refine P8 (wpAny_attempt (wpAny_callSpecial?_slot (name:=Pd "__next__") tI F.slot_dict_keyiterator_next (wpAny_call_entry F.slot_dict_keyiterator_next tI F.entry_dict_keyiterator_next ?c (F.args_dict_keyiterator_next_1 _))));refine P8 (P9 (P8 (P8 ?d)));refine P8 (wpAny_typeNameOfWhole_keyiter tI (P9 (P8 (wpAny_fieldsOf ho hd ?e))));simp only[own,Bool.false_eq_true,if_false];show Qf _ _ (ite ((PX.ref d==PX.none)=true) _ _) _ _ s;rw[if_neg (by intro z;cases z)];refine P8 (P9 (P8 (wpAny_dictEntries hod hdd ?f)));rw[if_neg (by simp)];refine P8 (P9 (P8 (wpAny_dictEpoch hod hdd ?g)));rw[if_neg (by simp)];refine P9 ?h;have n0:¬((i:Int)<0):=by lia
 simp only[n0,if_false,Int.toNat_natCast,Array.getElem?_eq_getElem lt];refine P8 (P8 (wpAny_typeNameOfWhole_keyiter tI (P9 (P8 (wpAny_isOneOf_keyiter tI ?j)))));show Qf (model prog w) _ (setField (.ref it) 1 (rawInt ((i:Int)+1))>>=_) _ _ s;refine P8 (wpAny_setField ho hd (by simp) ?k);have hi2:(s.heap.update it (Obj.mapFields fun f=>f.setIfInBounds 1 (rawInt ((i:Int)+1)))).IsKeyIter it d (i+1) es.size ep:=by
  refine⟨_,Qd.get?_update_self _ ho (Obj.isFreed_of_fields (Obj.data_mapFields hd _)),(Obj.cls_mapFields ..).trans hc,?_⟩;rw[Obj.data_mapFields hd];simp[rawInt]
 refine P8 (wpAny_holding (P8 (wpAny_isOneOf_keyiter (s:={s with heap:=s.heap.update it (Obj.mapFields fun f=>f.setIfInBounds 1 (rawInt ((i:Int)+1)))}) hi2.typeIs ?l)));show Qf (model prog w) _ (pure es[i].key) _ _ _;exact P9 (P9 ⟨_,rfl,P9 (hQ _ hi2 (Qd.SameBut.update ..))⟩)
theorem Hk{Q:Option PX->PZ->Prop}(hh:A.handled=none)(hit:s.heap.IsKeyIter it d i es.size ep)(hm:DE s.heap d es ep)(ge:es.size<=i)
  (hQ:∀h',Qd.ExtBut it s.heap h'->Q none {s with heap:=h'}):Qf (model prog w) A (pyNext (.ref it)) Q E s:=by
 obtain⟨o,ho,hc,hd⟩:=id hit;obtain⟨od,hod,hcd,hdd⟩:=id hm;have tI:=hit.typeIs;have own:Qi.Dict_items.ownsTuple "dict_keyiterator" =false:=by decide
 unfold pyNext;refine P8 (wpAny_attempt (wpAny_callSpecial?_slot (name:=Pd "__next__") tI F.slot_dict_keyiterator_next (wpAny_call_entry F.slot_dict_keyiterator_next tI F.entry_dict_keyiterator_next ?c (F.args_dict_keyiterator_next_1 _))));refine P8 (P9 (P8 (P8 ?d)));refine P8 (wpAny_typeNameOfWhole_keyiter tI (P9 (P8 (wpAny_fieldsOf ho hd ?e))));simp only[own,Bool.false_eq_true,if_false];show Qf _ _ (ite ((PX.ref d==PX.none)=true) _ _) _ _ s;rw[if_neg (by intro z;cases z)];refine P8 (P9 (P8 (wpAny_dictEntries hod hdd ?f)));rw[if_neg (by simp)];refine P8 (P9 (P8 (wpAny_dictEpoch hod hdd ?g)));rw[if_neg (by simp)];refine P9 ?h;have n0:¬((i:Int)<0):=by lia
 simp only[n0,if_false,Int.toNat_natCast,Array.getElem?_eq_none ge];refine P8 (P8 (wpAny_typeNameOfWhole_keyiter tI (P9 ?j)));show Qf (model prog w) _ (setField (.ref it) 0 PX.none>>=_) _ _ s;refine P8 (wpAny_setField ho hd (by simp) ?k);show Qf (model prog w) _ (newExc (PX.type "StopIteration") []>>=_) _ _ _;refine P8 ?l;simp only[newExc,newTuple];refine P8 (wpAny_newObj_type (P8 (m:=firstArgMember _ _) (wpAny_of_eq (a:=PX.none) (by first|rfl|(simp only[firstArgMember];rfl)) (wpAny_newObj_type ?m (by size_fits)))) (by size_fits));simp only[raiseNew];refine P8 (wpAny_handled ?n);rw[show A.in1.handled=Option.none from hh];refine P8 (P9 (wpAny_throw ?_));exact P8 (wpAny_isInstance (T:= "StopIteration") (b:=true) ⟨_,Qd.get?_push_size _ rfl,rfl⟩ isSubtype_stop (P9 (hQ _ (((Qd.SameBut.update ..).extBut.push _).push _))))
theorem xU{Q:PX->PZ->Prop}(ns:(d==sysModules)=false)(hm:DE s.heap d es ep)
  (hQ:Q (.ref s.heap.objs.size) {s with heap:=s.heap.push {cls:= .type "dict_keyiterator",data:= .fields #[.ref d,.int 0 0,.int es.size 0,.int ep 0]}}):Qf (model prog w) A (pyIter (.ref d)) Q E s:=by
 obtain⟨o,ho,hc,hdat⟩:=id hm;have tD:s.TypeIs (.ref d) "dict" :=⟨o,ho,hc.1⟩;refine wpAny_pyIter_slot tD F.slot_dict_iter (wpAny_call_entry F.slot_dict_iter tD F.entry_dict_iter ?c (F.args_dict_iter_1 _));unfold Qi.«dict.__iter__»;refine P8 ?d;unfold Qi.Dict.dictSlotNone;refine P8 (wpAny_notOrdered_dict tD ?e);show Qf (model prog w) _ (pure (PX.ref d)) _ _ s;refine P9 ?f;show Qf (model prog w) _ (Qi.Dict.showsAll d>>=_) _ _ s;unfold Qi.Dict.showsAll;rw[if_neg (by rw[ns];intro z;cases z)];refine P8 (P9 (P8 (wpAny_dictEntries ho hdat (P8 (wpAny_dictEpoch ho hdat ?g)))));refine P8 (wpAny_newObj_type (P9 ⟨_,rfl,"dict_keyiterator",_,⟨_,Qd.get?_push_size _ rfl,rfl⟩,F.slot_dict_keyiterator_next.lookup,?h⟩));simpa only[rawInt]using hQ
end
def Ke(x:Str):List V:=x.cps.toList.map fun c=>V.str ⟨#[c]⟩
theorem HD{P:P0}{w:P4}{K:W.Frag}{base it:PY}{x:Str}{t:Tok}:Src P w K base it (Ke x) (fun i h=>h.IsStrIter it "str_ascii_iterator" x t i) (fun _=>True)where
 obj:=fun i h st=>by
  obtain⟨o,e,_,d⟩:=st;exact⟨o,e,fun v z=>by rw[d]at z;cases z⟩
 keep:=fun i h h' st k=>by
  obtain⟨o,e,c,d⟩:=st;exact⟨o,k o e,c,d⟩
 dr:=by
  intro X hP hw hK pins σ H s I g;subst hP hw hK;refine⟨[it],fun i v=>∃c u,x.cps[i]?=some c/\v= .str ⟨#[c]⟩ u,fun i h=>h.IsStrIter it "str_ascii_iterator" x t i,by simp,fun c hc=> .inl (by simpa using hc),fun i st=>st,fun i h st=>st,fun i u hu=>?_,fun A hh=>?_⟩
  .obtain⟨c,tk,e,rfl⟩:=hu
   refine⟨.str ⟨#[c]⟩,?_,tk,rfl⟩;unfold Ke;rw[Pf,Array.getElem?_toList,e];rfl
  .have D:=Draws.strAscii (prog:=X.prog) (w:=X.w) hh it x t
   rw[show x.cps.size=(Ke x).length by unfold Ke;simp]at D;exact D
section
variable{prog:P0}{w:P4}{A:P5}{E:PX->PZ->Prop}{s:PZ}
theorem vY(x:Str)(t:Tok)(l2:PY)(ys:Array PX)(ha:x.cps.all (·<128)=true):
  Meets (Qi.«zip.__new__» ⟨[.type "zip",.str x t,.ref l2],[]⟩) (fun _ R s=>s.heap.IsList l2 ys/\
   R (.ok (.ret (.ref (s.heap.objs.size+4)))) {s with heap:=((((s.heap.push {cls:= .type "str_ascii_iterator",data:= .fields #[.str x t,.int 0 0]}).push {cls:= .type "list_iterator",data:= .fields #[.ref l2,.int 0 0]}).push {cls:= .type "tuple",data:= .seq #[.ref s.heap.objs.size,.ref (s.heap.objs.size+1)]}).push {cls:= .type "tuple",data:= .seq #[.none,.none]}).push {cls:= .type "zip",data:= .fields #[.none,.bool false,.bool false,.ref (s.heap.objs.size+2),.ref (s.heap.objs.size+3)]}}):=
 .of_wp fun prog w A R s h=>by
  obtain⟨hp,g,d,tk,os⟩:=s;obtain⟨hl2,h⟩:=h;have hsub:=sub_zip;have hL2:Qd.IsList (PZ.heap ⟨hp.push {cls:= .type "str_ascii_iterator",data:= .fields #[.str x t,.int 0 0]},g,d,tk,os⟩) l2 ys:=Qd.IsList.push hl2 _;simp only[Qd.size_push]at h
  wp_walk using wpAny_pyIter_ascii ha,wpAny_pyIter_list hL2
  simp only[Qd.size_push,Nat.add_assoc];exact⟨_,rfl,h⟩
theorem yg{x:Str}{t:Tok}{l2:PY}{ys:Array PX}{Q:PX->PZ->Prop}(ha:x.cps.all (·<128)=true)(hl2:s.heap.IsList l2 ys)
  (h:∀h',IsZip h' (s.heap.objs.size+4) (s.heap.objs.size+2) (s.heap.objs.size+3) .none->IsPair h' (s.heap.objs.size+2) (.ref s.heap.objs.size) (.ref (s.heap.objs.size+1))->
   IsPair h' (s.heap.objs.size+3) .none .none->h'.IsStrIter s.heap.objs.size "str_ascii_iterator" x t 0->h'.IsListIter (s.heap.objs.size+1) l2 0->
   (∀c o,s.heap.get? c=some o->h'.get? c=some o)->Q (.ref (s.heap.objs.size+4)) {s with heap:=h'}):
  Qf (model prog w) A (call (.type "zip") [.str x t,.ref l2]) Q E s:=by
 refine callType_new F.called_zip (by decide) (F.typeCall_zip_2 _ _) (F.newCall_zip_2 _ _) (fun obj=>F.args_object_init_3 obj _ _) F.entry_zip_new
  (vY x t l2 ys ha) ⟨hl2,?_⟩
 have up:∀(h:Qd)(o:Obj) c x,h.get? c=some x->(h.push o).get? c=some x:=fun h o c x e=>Qd.get?_push_of_some _ e;have at0:∀(h:Qd)(o:Obj)(n:Nat),h.objs.size=n->o.isFreed=false->(h.push o).get? n=some o:=fun h o n e f=>by rw[←e];exact Qd.get?_push_size _ f
 generalize hg:((((s.heap.push {cls:= .type "str_ascii_iterator",data:= .fields #[.str x t,.int 0 0]}).push {cls:= .type "list_iterator",data:= .fields #[.ref l2,.int 0 0]}).push {cls:= .type "tuple",data:= .seq #[.ref s.heap.objs.size,.ref (s.heap.objs.size+1)]}).push {cls:= .type "tuple",data:= .seq #[.none,.none]}).push {cls:= .type "zip",data:= .fields #[.none,.bool false,.bool false,.ref (s.heap.objs.size+2),.ref (s.heap.objs.size+3)]}=g;have z4:IsZip g (s.heap.objs.size+4) (s.heap.objs.size+2) (s.heap.objs.size+3) .none:=by
  rw[←hg];exact at0 _ _ _ (by simp only[Qd.size_push]) rfl
 have z3:IsPair g (s.heap.objs.size+3) .none .none:=by
  rw[←hg];exact up _ _ _ _ (at0 _ _ _ (by simp only[Qd.size_push]) rfl)
 have z2:IsPair g (s.heap.objs.size+2) (.ref s.heap.objs.size) (.ref (s.heap.objs.size+1)):=by
  rw[←hg];exact up _ _ _ _ (up _ _ _ _ (at0 _ _ _ (by simp only[Qd.size_push]) rfl))
 have z1:g.IsListIter (s.heap.objs.size+1) l2 0:=by
  rw[←hg];exact⟨_,up _ _ _ _ (up _ _ _ _ (up _ _ _ _ (at0 _ _ _ (by simp only[Qd.size_push]) rfl))),rfl,rfl⟩
 have z0:g.IsStrIter s.heap.objs.size "str_ascii_iterator" x t 0:=by
  rw[←hg];exact⟨_,up _ _ _ _ (up _ _ _ _ (up _ _ _ _ (up _ _ _ _ (at0 _ _ _ rfl rfl)))),rfl,rfl⟩
 have kk:∀c o,s.heap.get? c=some o->g.get? c=some o:=fun c o e=>by
  rw[←hg];exact up _ _ _ _ (up _ _ _ _ (up _ _ _ _ (up _ _ _ _ (up _ _ _ _ e))))
 exact⟨⟨_,z4,rfl⟩,h _ z4 z2 z3 z0 z1 kk⟩
end
def Mv(K:W.Frag)(ta:TA):TI:=fun σ H R=>ta σ H fun vs H1=>∃(x:Str)(b:PY)(ys:List V),vs=[.str x,.ref b]/\x.cps.all (·<128)=true/\aI K H1 b ys/\R (Fh (Ke x) ys (fun _=>True) (fun H=>aI K H b ys)) H1
theorem BP{X:Cx}{K:W.Frag}{e e2:Expr}{ta:TA}{p pos:Pos}{kk:Nat}{elts:List Expr}{tp:Pos}(hK:X.K=K)(hg:Gl X "zip")(hm:X.mg "zip" =none)(ha:PA X [e,e2] ta)
  (hs:Qb [e,e2] X.env=(false,eval e X.env)::Qb [e2] X.env:=by rfl) (hpl:(Qe pos (Qb [e2] X.env)).any (·.1)=false:=by rfl):
  PI X (.Tuple elts kk tp) (.Call (.Name "zip" p) [e,e2] [] pos) (Mv K ta):=by
 subst hK;intro pins s σ H R I h;refine Call_ (kL I hg hm (by decide+kernel:bootBuiltins "zip" =some (.type "zip")) (PyProof.Rows.callWith_type1 (bf (ha pos pins s σ H _ I h) fun us s2 ⟨vs,H2,I2,r1,x,b,ys,e1,has,hq2,hR⟩=>?_) hs hpl) (by decide+kernel) (by decide+kernel));subst e1;obtain⟨u,u2,rfl,ru,ru2⟩:=vals2 r1;obtain⟨tx,rfl⟩:=ru;cases ru2;obtain⟨jts,rv2,pl2,_⟩:=I2.list hq2;refine yg has pl2.isList fun h' z0 t0 o0 i10 i20 k0=>?_;have ltb: @LT.lt Nat _ b s2.heap.objs.size:=by obtain⟨o,n,e,_⟩:=pl2;exact Qd.lt_size e
 refine wpAny_pyIter_zip z0 ?_;have le:∀c∈[s2.heap.objs.size+4,s2.heap.objs.size+2,s2.heap.objs.size+3,s2.heap.objs.size,s2.heap.objs.size+1],@LE.le Nat _ s2.heap.objs.size c:=fun c hc=>by
  simp only[Po,PB,or_false]at hc;rcases hc with e|e|e|e|e<;>rw[e]
  .exact Nat.le_add_right _ _
  .exact Nat.le_add_right _ _
  .exact Nat.le_add_right _ _
  .exact PK _
  .exact Nat.le_add_right _ _
 exact⟨s2.heap.objs.size+4,[s2.heap.objs.size+4,s2.heap.objs.size+2,s2.heap.objs.size+3,s2.heap.objs.size,s2.heap.objs.size+1],_,_,H2,rfl,I2.kept (t':=s2.toks) k0,
  Br HD (src_list (le _ (by simp)) ltb) (I0 _) le,⟨z0,t0,⟨_,_,o0⟩,i10,i20⟩,fun c hc=>I2.qy (le c hc) (I2.aX.fresh (le c hc)),hR⟩
theorem D5{ix:List (Option Nat)}{g:TG}{tc:TT}{te:TE}{σ:St}{Q:VK}{H:Hp}{G1 G2:Hp->Prop}{xs ys:List V}(Pv:Nat->List V->St->Hp->Prop)(hn:min xs.length ys.length<=1000000)(h0:Pv 0 [] (eN ix σ) H)
  (hl:∀i zs σ H,i<=min xs.length ys.length->Pv i zs σ H->G1 H/\G2 H) (hlen:∀i zs σ H,Pv i zs σ H->zs.length<=i)
  (hs:∀i zs σ H t v u(R:St->List V->Hp->Prop),xs[i]?=some v->ys[i]?=some u->Pv i zs σ H->H t=none->(∀σ2 ys2 H5,Pv (i+1) ys2 σ2 H5->R σ2 ys2 H5)->g (.ref t) σ (upd H t (.tup [v,u])) fun σ2 H3=>tc σ2 H3 fun b H4=>if b=true then te σ2 H4 fun v H5=>R σ2 (zs++[v]) H5 else R σ2 zs H4)
  (hd:∀zs σ' H' p,Pv (min xs.length ys.length) zs σ' H'->H' p=none->Q (.ref p) (upd H' p (.lst zs))):jg ix g tc te σ Q (Fh xs ys G1 G2) H:=by
 refine iF Pv hn h0 (fun i zs σ H hi p=>⟨hi,hl i zs σ H (Nat.le_of_lt hi) p⟩) (fun zs σ H p=>⟨rfl,hl _ zs σ H (PK _) p⟩) hlen (fun i zs σ H x H2 R hi p y r=>?_) hd;obtain⟨t,v,u,ht,rfl,hv,hu,rfl⟩:=y;exact hs i zs σ H t v u R hv hu p ht r
theorem GN{x:Str}{g:TG}{tb:TS}{D:Ends}{σ:St}{H:Hp}(Pv:Nat->St->Hp->Prop)(h0:Pv 0 σ H)
  (hs:∀i c σ H,x.cps[i]?=some c->Pv i σ H->g (.str ⟨#[c]⟩) σ H fun σ2 H2=>tb {D with nx:=Pv (i+1),ct:=Pv (i+1),bk:=D.nx} σ2 H2) (hd:∀σ H,Pv x.length σ H->D.nx σ H):
  ∃W:Nat->Nat->St->Hp->Prop,(∃m,W 0 m σ H)/\∀i m σ H,W i m σ H->
   ((Jv x).stop i H/\D.nx σ H)\/((Jv x).go i H/\∃N:St->Hp->Prop,(∀σ' H',N σ' H'->∃m',m'<m/\W (i+1) m' σ' H')/\∀y H',(Jv x).Hs i H y H'->g y σ H' fun σ2 H2=>tb {D with nx:=N,ct:=N,bk:=D.nx} σ2 H2):=by
 refine⟨fun i m σ H=>m=x.length-i/\i<=x.length/\Pv i σ H,⟨x.length,by simp,PQ _,h0⟩,?_⟩;rintro i m σ H ⟨rfl,hi,p⟩;by_cases hlt:i<x.length
 .refine .inr ⟨hlt,Pv (i+1),fun σ' H' p'=>⟨x.length-(i+1),by lia,rfl,hlt,p'⟩,fun y H' z=>?_⟩
  obtain⟨e,c,e2,e3⟩:=z;subst e e3;exact hs i c σ _ e2 p
 .have e:i=x.length:=by lia
  subst e;exact .inl ⟨PK _,hd σ H p⟩
def Gg(a:PY)(o:Obj)(kvs:List (Key×V)):It:=
 ⟨fun i H=>i<kvs.length/\H a=some (.mL o (.dK kvs)),fun i H x H'=>H'=H/\∃kv,x=kV kv.1/\kvs[i]?=some kv,fun i H=>i=kvs.length/\H a=some (.mL o (.dK kvs))⟩
theorem Om{P:P0}{w:P4}{k:Key}{v:PX}(h:(bB P w).is k v=true):RelV (kV k) v:=by
 rw[AF]at h;rcases bQ h with⟨i,t,rfl,rfl⟩|⟨x,t,rfl,rfl⟩
 .exact⟨t,rfl⟩
 .exact⟨t,rfl⟩
theorem pairs_at{P:P0}{w:P4}:∀{es:List DictEntry}{vs:List (Key×PX)}{kvs:List (Key×V)},KV kvs vs->Pairs (bB P w) es vs->∀i,i<kvs.length->∃kv e,kvs[i]?=some kv/\es[i]?=some e/\RelV (kV kv.1) e.key
 |_,_,_,.nil,_,i,hi=>absurd hi (Nat.not_lt_zero _)
 |_,_,_,.cons h r,.cons (e:=e) h1 h2 p,0,_=>⟨_,e,rfl,rfl,by rw[h.1];exact Om h1⟩
 |_,_,_,.cons h r,.cons h1 h2 p,i+1,hi=>by
  obtain⟨kv,e,e1,e2,e3⟩:=pairs_at r p i (by rw[Pl]at hi;lia);exact⟨kv,e,by rw[List.getElem?_cons_succ];exact e1,by rw[List.getElem?_cons_succ];exact e2,e3⟩
theorem rO{P:P0}{w:P4}{K:W.Frag}{tg:Expr}(a it:PY)(o:Obj)(kvs:List (Key×V))(es:Array DictEntry)(ep:Nat)(hx:o.ExactDict)(hdat:o.data= .dict es ep)(hz:es.size=kvs.length):
  Turn P w K tg (Gg a o kvs) [it] it (fun i h=>h.IsKeyIter it a i es.size ep)where
 mem:=by simp
 obj:=fun i h st b hb=>by
  have e:b=it:=by simpa using hb
  subst e;obtain⟨o,e,c,d⟩:=st;exact⟨o,e,fun v z=>by rw[d]at z;cases z⟩
 keep:=fun i h h' st k=>st.at fun o e=>k it (by simp) o e
 item:=by
  intro X hP hw hK hc i pins s σ H E I hf st hg;subst hP hw hK;obtain⟨hi,hq⟩:=hg;obtain⟨ho,z,y,vs,r,o',es',ep',h1,h2,h3,h4,h5,h6⟩:=(show bF X.prog X.w H s.heap a (.mL o (.dK kvs))from I.aX a _ hq);rw[ho]at h1;cases h1;rw[hdat]at h3;cases h3;obtain⟨f0,f1,f2,f3,f4,f5⟩:=hf it (by simp);have lt:i<es.size:=by lia
  refine E2 st ⟨o,ho,hx,hdat⟩ lt fun h' st' sb=>?_;have I1:Inv X pins σ H {s with heap:=h'}:=I.turned (t':=s.toks) (fun b o hb e=>(sb.2 b hb).trans e) f0 f1 f3 f4 f5;obtain⟨oi,e,c,d⟩:=id st';obtain⟨kv,en,e1,e2,e3⟩:=pairs_at r h5 i hi;have ek:es[i]=en:=by
   have:es.toList[i]?=some es[i]:=by rw[Array.getElem?_toList,Array.getElem?_eq_getElem lt]
   rw[this]at e2;exact PU e2
  rw[←ek]at e3;exact⟨_,rfl,uY (s:={s with heap:=h'}) e c d (by decide) ⟨kV kv.1,H,I1,e3,⟨rfl,kv,rfl,e1⟩,st',fun b hb=>(hf b hb).1⟩⟩
 done:=by
  intro X hP hw hK hc i pins s σ H E I hf st hg;subst hP hw hK;obtain⟨hi,hq⟩:=hg;obtain⟨ho,-⟩:=(show bF X.prog X.w H s.heap a (.mL o (.dK kvs))from I.aX a _ hq);obtain⟨f0,f1,f2,f3,f4,f5⟩:=hf it (by simp);exact Hk (I.ok.hd hc) st ⟨o,ho,hx,hdat⟩ (by lia) fun h' eb=>⟨rfl,I.turned (t':=s.toks) (fun b o hb e=>eb b o hb e) f0 f1 f3 f4 f5⟩
 self:=fun _ _ _ _ _ st h=>wpAny_pyIter_keyiter st h
def D9(H:Hp)(a:PY)(kvs:List (Key×V))(o:Obj)(H':Hp):Prop:=(H a=some (.dK kvs)/\H'=upd H a (.mL o (.dK kvs)))\/(H a=some (.mL o (.dK kvs))/\H'=H)
theorem D9.at {H H':Hp}{a:PY}{kvs:List (Key×V)}{o:Obj}(h:D9 H a kvs o H'):H' a=some (.mL o (.dK kvs)):=by
 rcases h with⟨_,rfl⟩|⟨h,rfl⟩
 .exact af
 .exact h
theorem D9.off {H H':Hp}{a:PY}{kvs:List (Key×V)}{o:Obj}(h:D9 H a kvs o H'):∀b u,b≠a->H b=some u->H' b=some u:=fun b u ne e=>by
 rcases h with⟨_,rfl⟩|⟨_,rfl⟩
 .rw[ao ne];exact e
 .exact e
def KP(tl:TE):TI:=fun σ H R=>tl σ H fun x H1=>∃a kvs,x= .ref a/\(H1 a=some (.dK kvs)\/∃o,H1 a=some (.mL o (.dK kvs)))/\∀o H2,D9 H1 a kvs o H2->R (Gg a o kvs) H2
theorem yd{X:Cx}{tg l:Expr}{tl:TE}(hl:PE X l tl):PI X tg l (KP tl):=by
 intro pins s σ H R I h;refine bf (hl pins s σ H _ I h) fun v s1 ⟨x,H1,I1,r1,q1⟩=>?_;obtain⟨a,kvs,e,hq,q⟩:=q1;subst e;cases r1;rcases hq with hq|⟨o0,hq⟩
 .obtain⟨z,y,vs,r,o,es,ep,h1,h2,h3,h4,h5,h6⟩:=(show bF X.prog X.w H1 s1.heap a (.dK kvs)from I1.aX a _ hq)
  have hz:es.size=kvs.length:=by
   have:=h5.length;have:=r.length;rw[←Array.length_toList];lia
  have I2:Inv X pins σ (upd H1 a (.mL o (.dK kvs))) s1:=by
   have:=I1.write (x:=a) (e:=a) (o:= .mL o (.dK kvs)) (h':=s1.heap) (t':=s1.toks) (by rw[hq];exact trivial) (.inl rfl) (fun b u _ e=>e) ⟨_,h1⟩ ⟨h1,z,y,vs,r,o,es,ep,h1,h2,h3,h4,h5,h6⟩;exact this
  refine xU y ⟨o,h1,h2,h3⟩ ?_;refine⟨s1.heap.objs.size,[s1.heap.objs.size],_,_,upd H1 a (.mL o (.dK kvs)),rfl,I2.kept (t':=s1.toks) fun b o e=>Qd.get?_push_of_some _ e,rO a _ o kvs es ep h2 h3 hz,⟨_,Qd.get?_push_size _ rfl,rfl,rfl⟩,fun b hb=>?_,q o _ (.inl ⟨hq,rfl⟩)⟩;have e:b=s1.heap.objs.size:=by simpa using hb
  subst e;exact I2.qy (PK _) (I2.aX.fresh (PK _))
 .obtain⟨ho,z,y,vs,r,o,es,ep,h1,h2,h3,h4,h5,h6⟩:=(show bF X.prog X.w H1 s1.heap a (.mL o0 (.dK kvs))from I1.aX a _ hq)
  rw[ho]at h1;cases h1;have hz:es.size=kvs.length:=by
   have:=h5.length;have:=r.length;rw[←Array.length_toList];lia
  refine xU y ⟨o0,ho,h2,h3⟩ ?_;refine⟨s1.heap.objs.size,[s1.heap.objs.size],_,_,H1,rfl,I1.kept (t':=s1.toks) fun b o e=>Qd.get?_push_of_some _ e,rO a _ o0 kvs es ep h2 h3 hz,⟨_,Qd.get?_push_size _ rfl,rfl,rfl⟩,fun b hb=>?_,q o0 _ (.inr ⟨hq,rfl⟩)⟩;have e:b=s1.heap.objs.size:=by simpa using hb
  subst e;exact I1.qy (PK _) (I1.aX.fresh (PK _))
theorem uD{a:PY}{ob:Obj}{kvs:List (Key×V)}{g:TG}{tb:TS}{D:Ends}{σ:St}{H:Hp}(Pv:Nat->St->Hp->Prop)(h0:Pv 0 σ H)(hl:∀i σ H,i<=kvs.length->Pv i σ H->H a=some (.mL ob (.dK kvs)))
  (hs:∀i kv σ H,kvs[i]?=some kv->Pv i σ H->g (kV kv.1) σ H fun σ2 H2=>tb {D with nx:=Pv (i+1),ct:=Pv (i+1),bk:=D.nx} σ2 H2) (hd:∀σ H,Pv kvs.length σ H->D.nx σ H):
  ∃W:Nat->Nat->St->Hp->Prop,(∃m,W 0 m σ H)/\∀i m σ H,W i m σ H->
   ((Gg a ob kvs).stop i H/\D.nx σ H)\/((Gg a ob kvs).go i H/\∃N:St->Hp->Prop,(∀σ' H',N σ' H'->∃m',m'<m/\W (i+1) m' σ' H')/\∀x H',(Gg a ob kvs).Hs i H x H'->g x σ H' fun σ2 H2=>tb {D with nx:=N,ct:=N,bk:=D.nx} σ2 H2):=by
 refine⟨fun i m σ H=>m=kvs.length-i/\i<=kvs.length/\Pv i σ H,⟨kvs.length,by simp,PQ _,h0⟩,?_⟩;rintro i m σ H ⟨rfl,hi,p⟩;have q:=hl i σ H hi p;by_cases hlt:i<kvs.length
 .refine .inr ⟨⟨hlt,q⟩,Pv (i+1),fun σ' H' p'=>⟨kvs.length-(i+1),by lia,rfl,hlt,p'⟩,fun x H' y=>?_⟩
  obtain⟨e,kv,e2,e3⟩:=y;subst e e2;exact hs i kv σ _ e3 p
 .have e:i=kvs.length:=by lia
  subst e;exact .inl ⟨⟨rfl,q⟩,hd σ H p⟩
end L2
namespace Sw
open PySem L2
def MZ(C:PY):Sp:=fun vs H Q E=>∃(l:PY)(es:List V)(row:List (Int×Int))(k:Int)(way:Str),vs=[.ref l,.int k,.str way]/\H l=some (.lst es)/\jm H es row/\row.length<=1000/\
 (∀f:Bool,way=qr f->1<=k->k<row.length->∀l' es' H',H l'=none->H' l'=some (.lst es')->jm H' es' (Nm row (k-1).toNat f)->ai H H'->Q (.ref l') H')/\
 (¬(1<=k/\k<row.length/\∃f,way=qr f)->∀H',ai H H'->E (.ref C) none H')
open Classical in
noncomputable def AL(U:Str->Bool)(CB CM:PY)(word:Str)(xs:List Wd):Option (Except PY (List (Int×Int))):=
 if U word=false then none else
 match xs with
 |[.txt _,.ord os]=>if word=Pd "star"/\Ord (os.length:Int) os/\os.length<=12 then some (.ok (FW (os.length:Int) os))else if word=Pd "home"/\Ord (os.length:Int) os/\os.length<=12 then some (.ok (FL os))else none
 |[.txt _,.row R]=>if word=Pd "row"\/word=Pd "copy"then some (.ok R)else none
 |[.txt _,.row R,.row S]=>if word=Pd "join"/\R.length<=60/\S.length<=60 then(if 60<R.length+S.length then some (.error CB)else some (.ok (R++S)))else none
 |[.row R,.num k]=>if R.length<=60 then(if word=qr true then some (if 1<=k/\k<R.length then .ok (Nm R (k-1).toNat true)else .error CM)else if word=qr false then some (if 1<=k/\k<R.length then .ok (Nm R (k-1).toNat false)else .error CM)else none)else none
 |_=>none
inductive yj(U:Str->Bool)(CB CM:PY):Str->List Wd->Except PY (List (Int×Int))->Prop
 |star (x:Str) (os:List Int):U (Pd "star")=true->Ord (os.length:Int) os->os.length<=12->yj U CB CM (Pd "star") [.txt x,.ord os] (.ok (FW (os.length:Int) os))
 |LC (x:Str) (os:List Int):U (Pd "home")=true->Ord (os.length:Int) os->os.length<=12->yj U CB CM (Pd "home") [.txt x,.ord os] (.ok (FL os))
 |row (x:Str) (R:List (Int×Int)):yj U CB CM (Pd "row") [.txt x,.row R] (.ok R)
 |copy (x:Str) (R:List (Int×Int)):yj U CB CM (Pd "copy") [.txt x,.row R] (.ok R)
 |join (x:Str) (R S:List (Int×Int)):U (Pd "join")=true->R.length<=60->S.length<=60->yj U CB CM (Pd "join") [.txt x,.row R,.row S] (if 60<R.length+S.length then .error CB else .ok (R++S))
 |move (R:List (Int×Int)) (k:Int) (f:Bool):U (qr f)=true->R.length<=60->yj U CB CM (qr f) [.row R,.num k] (if 1<=k/\k<R.length then .ok (Nm R (k-1).toNat f)else .error CM)
theorem DI{U:Str->Bool}{CB CM:PY}{word:Str}{xs:List Wd}{r:Except PY (List (Int×Int))}(h:AL U CB CM word xs=some r):yj U CB CM word xs r:=by
 unfold AL at h;by_cases hu:U word=false
 .rw[if_pos hu]at h;cases h
 rw[if_neg hu]at h;have hu:U word=true:=by simpa using hu
 split at h
 .rename_i x os
  split at h
  .rename_i c
   cases h;rw[c.1]at hu⊢;exact .star x os hu c.2.1 c.2.2
  .split at h
   .rename_i c
    cases h;rw[c.1]at hu⊢;exact .LC x os hu c.2.1 c.2.2
   .cases h
 .rename_i x R
  split at h
  .rename_i c
   cases h;rcases c with c|c
   .rw[c];exact .row x R
   .rw[c];exact .copy x R
  .cases h
 .rename_i x R S
  split at h
  .rename_i c
   rw[c.1]at hu⊢;have q:=yj.join (CB:=CB) (CM:=CM) x R S hu c.2.1 c.2.2
   split at h
   .rename_i d
    cases h;rw[if_pos d]at q;exact q
   .rename_i d
    cases h;rw[if_neg d]at q;exact q
  .cases h
 .rename_i R k
  split at h
  .rename_i l
   split at h
   .rename_i c
    cases h;rw[c]at hu⊢;exact .move R k true hu l
   .split at h
    .rename_i c
     cases h;rw[c]at hu⊢;exact .move R k false hu l
    .cases h
  .cases h
 .cases h
def Hf(U:Str->Bool):Sp:=fun vs H Q E=>U (Pd "star")=true/\∃(t:PY)(n:Int)(xs:List Int),vs=[.ref t]/\H t=some (.tup (xs.map V.int))/\Ord n xs/\n<=50/\∀l es H',H l=none->H' l=some (.lst es)->jm H' es (FW n xs)->ai H H'->Q (.ref l) H'
def HY(U:Str->Bool):Sp:=fun vs H Q E=>U (Pd "home")=true/\Kd vs H Q E
def EI(U:Str->Bool)(CM:PY):Sp:=fun vs H Q E=>(∃f,U (qr f)=true)/\MZ CM vs H Q E
structure OF(P:P0)(w:P4)(K:W.Frag)(mg:Str->Option PX)(base:Qd)(U:Str->Bool)(u60:PX)(CB CM:PY):Prop extends T1 mg K where
 F7:FnAt P w K mg base "star" 6 ["order"] (Hf U)
 E5:FnAt P w K mg base "home" 6 ["order"] (HY U)
 Ca:eI P w K mg base "moved" 6 ["row","k","way"] (EI U CM)
 cx:mg "MOST_EXCHANGES" =some u60
 cu:RelV (.int 60) u60
 jf:mg "NoBound" =some (.ref CB)
 vc:jo K CB
section
variable{P:P0}{w:P4}{K:W.Frag}{mg:Str->Option PX}{base:Qd}{U:Str->Bool}{u60:PX}{CB CM:PY}{L:dX}
theorem sd:aE ["word","given","row"] ["word","given"] (av (top 98)):=⟨rfl,rfl,rfl,by decide+kernel,rfl,by decide+kernel,by decide+kernel⟩
theorem K1{f:PY}{fd:Qc}(F:dU K "row_due" "row_due" (top 98) f fd)(hL:L.IS=AL U CB CM)(T:OF P w K mg base U u60 CB CM):aQ P w K mg base (j4 P w) 9 f fd ["word","given"] (LP L):=by
 refine F.DG sd (fun vs H Q E h=>?_) (fun cdv A outer s H vs Q E hr h=>?_)
 .obtain⟨word,l,us,xs,rfl,_⟩:=h
  rfl
 .obtain⟨word,l,us,xs,rfl,hl,hw,h⟩:=h
  refine⟨_,(ag (aN (aw bR (pv 0) ak (aB _)) (ah (ay (aq T.F7 (hr.mono (by first|decide|lia)) rfl (aa (bC (aJ (K:=K) rfl) (pv 1) aj (fun _ _=>rfl)) ae)))) ax)
   (ag (aN (aw bR (pv 0) ak (aB _)) (ah (ay (aq T.E5 (hr.mono (by first|decide|lia)) rfl (aa (bC (aJ (K:=K) rfl) (pv 1) aj (fun _ _=>rfl)) ae)))) ax)
   (ag (aN (aw bR (pv 0) ak (aB _)) (ag (aC (i:=2) sd.nd rfl (Or.inl rfl) (aG rF (bC (aJ (K:=K) rfl) (pv 1) aj (fun _ _=>rfl)) (bC (aJ (K:=K) rfl) (pv 1) aj (fun _ _=>rfl))))
   (ag (aN (aw qo (ar (aZ (K:=K) rfl) rfl T.bX (by decide+kernel) (aa (pv 2) ae)) (de rfl T.cx T.cu) (aB _)) (ah (cb n6 T.vc rfl rfl T.jf (aa ak ae))) ax)
   (ah (ay (pv 2))))) ax)
   (ag (aN (PW.pt (fu (aw bR (pv 0) ak (aB _)) (dG (aw bR (pv 0) ak (aB _))))) (ah (ay (bW T.Ca j8 (hr.mono (by decide)) rfl (@aa _ _ _ _ _ (bC (aJ (K:=K) rfl) (pv 1) aj (fun _ _=>rfl)) (@aa _ _ _ _ _ (bC (aJ (K:=K) rfl) (pv 1) aj (fun _ _=>rfl)) (@aa _ _ _ _ _ (pv 0) ae bA) D6) D6)))) ax)
   (ah (ay (bC (aJ (K:=K) rfl) (pv 1) aj (fun _ _=>rfl)))))))),?_⟩
  have hc:∃r,L.IS word xs=some r:=by
   rcases h with⟨R,e,_⟩|⟨c,e,_⟩
   .exact⟨_,e⟩
   .exact⟨_,e⟩
  obtain⟨r,er⟩:=hc;have kY:∀R,r= .ok R->∀v H',dB H' v R->ai H H'->Q v H':=fun R z=>by
   rcases h with⟨R',e,k⟩|⟨c,e,_⟩
   .rw[er,z]at e;cases e;exact k
   .rw[er,z]at e;cases e
  have kN:∀c,r= .error c->∀b H',ai H H'->E (.ref c) b H':=fun c z=>by
   rcases h with⟨R',e,k⟩|⟨c',e,k⟩
   .rw[er,z]at e;cases e
   .rw[er,z]at e;cases e;exact k
  clear h;rw[hL]at er;have one:1<=P6:=by decide
  cases DI er with
  |star x os hu o lo=>
   cases hw with
   |cons w1 hw=>cases hw with
    |cons w2 hw=>cases hw with
     |nil=>
      obtain⟨t,rfl,ht⟩:=w2;refine⟨_,rfl,rfl,_,rfl,kc (by decide) ?_⟩;exact⟨_,rfl,l,_,1,_,rfl,rfl,aI.of hl,bN (j:=1) rfl,hu,t,_,os,rfl,ht,o,by lia,fun l' es H' _ h1 h2 sm=>kY _ rfl _ _ ⟨l',es,rfl,h1,h2⟩ sm⟩
  |LC x os hu o lo=>
   cases hw with
   |cons w1 hw=>cases hw with
    |cons w2 hw=>cases hw with
     |nil=>
      obtain⟨t,rfl,ht⟩:=w2;refine⟨_,rfl,rfl,_,rfl,bI (by decide) ?_⟩;refine⟨_,rfl,rfl,_,rfl,kc (by decide) ?_⟩;exact⟨_,rfl,l,_,1,_,rfl,rfl,aI.of hl,bN (j:=1) rfl,hu,t,_,os,rfl,ht,o,by lia,fun l' es H' _ h1 h2 sm=>kY _ rfl _ _ ⟨l',es,rfl,h1,h2⟩ sm⟩
  |row x R=>
   cases hw with
   |cons w1 hw=>cases hw with
    |cons w2 hw=>cases hw with
     |nil=>
      refine⟨_,rfl,rfl,_,rfl,bI (by decide) ?_⟩;refine⟨_,rfl,rfl,_,rfl,bI (by decide) ?_⟩;refine⟨_,rfl,rfl,_,rfl,bI (by decide) ?_⟩;refine⟨_,rfl,rfl,_,rfl,bI (by decide) ?_⟩;refine⟨_,rfl,rfl,_,rfl,bI (by decide) ?_⟩;exact⟨_,rfl,l,_,1,_,rfl,rfl,aI.of hl,bN (j:=1) rfl,kY _ rfl _ _ w2 (ai.refl _)⟩
  |copy x R=>
   cases hw with
   |cons w1 hw=>cases hw with
    |cons w2 hw=>cases hw with
     |nil=>
      refine⟨_,rfl,rfl,_,rfl,bI (by decide) ?_⟩;refine⟨_,rfl,rfl,_,rfl,bI (by decide) ?_⟩;refine⟨_,rfl,rfl,_,rfl,bI (by decide) ?_⟩;refine⟨_,rfl,rfl,_,rfl,bI (by decide) ?_⟩;refine⟨_,rfl,rfl,_,rfl,bI (by decide) ?_⟩;exact⟨_,rfl,l,_,1,_,rfl,rfl,aI.of hl,bN (j:=1) rfl,kY _ rfl _ _ w2 (ai.refl _)⟩
  |join x R S hu l1 l2=>
   cases hw with
   |cons w1 hw=>cases hw with
    |cons w2 hw=>cases hw with
     |cons w3 hw=>cases hw with
      |nil=>
       obtain⟨b1,es1,rfl,g1,x1⟩:=w2;obtain⟨b2,es2,rfl,g2,x2⟩:=w3;refine⟨_,rfl,rfl,_,rfl,bI (by decide) ?_⟩;refine⟨_,rfl,rfl,_,rfl,bI (by decide) ?_⟩;refine⟨_,rfl,rfl,_,rfl,kc (by decide) ?_⟩;refine⟨_,rfl,l,_,1,_,rfl,rfl,aI.of hl,bN (j:=1) rfl,_,rfl,l,_,2,_,rfl,rfl,aI.of hl,bN (j:=2) rfl,b1,b2,es1,es2,rfl,rfl,g1,g2,?_⟩;have e1:=x1.length;have e2:=x2.length;refine⟨PN (by lia:es1.length+es2.length<=120) (by decide),fun p fp=>?_⟩;refine⟨_,rfl,p,_,rfl,.inl (aI.of af),_,_,rfl,rfl,_,rfl,cg (fun c=>?_) (fun c=>?_)⟩
       .have c:60<R.length+S.length:=by
         rw[decide_eq_true_eq,Pg]at c;lia
        exact⟨one,kN _ (if_pos c) none _ (ai.new fp)⟩
       .have c:¬60<R.length+S.length:=by
         rw[decide_eq_true_eq,Pg]at c;lia
        exact⟨_,rfl,kY _ (if_neg c) _ _ ⟨p,_,rfl,af,(x1.append x2).keep fun b xs hb=>ai.new fp b _ hb⟩ (ai.new fp)⟩
  |move R k f hu l1=>
   cases hw with
   |cons w1 hw=>cases hw with
    |cons w2 hw=>cases hw with
     |nil=>
      cases(show _=V.int k from w2);obtain⟨b1,es1,rfl,g1,x1⟩:=w1;have fin:∀(way:Str),way=qr f->EI U CM [.ref b1,.int k,.str way] H Q E:=fun way hw=>⟨⟨f,hu⟩,b1,es1,R,k,way,rfl,g1,x1,by lia,fun g eg k1 k2 l' es' H' _ h1 h2 sm=>by
       obtain rfl:=Gs (hw.symm.trans eg);exact kY _ (if_pos ⟨k1,k2⟩) _ _ ⟨l',es',rfl,h1,h2⟩ sm,fun nc H' sm=>kN _ (if_neg fun c=>nc ⟨c.1,c.2,f,hw⟩) none H' sm⟩
      have go:∀c:Bool,U (qr f)=true->FU (rf (EI U CM) [] E (qh (GK (Ir K) (qw 1) (tC (V.int 0))) (qh (GK (Ir K) (qw 1) (tC (V.int 1))) (qh (qw 0) wt)))) {nx:=fun x H'=>Q V.cE H',rt:=Q} (L2.start [Pd "word",Pd "given",Pd "row"] [V.str (qr f),V.ref l]) H:=fun _ _=>
       ⟨_,rfl,l,_,0,_,rfl,rfl,aI.of hl,bN (j:=0) rfl,_,rfl,l,_,1,_,rfl,rfl,aI.of hl,bN (j:=1) rfl,_,rfl,fin _ rfl⟩
      cases f with
      |true=>exact⟨_,rfl,rfl,_,rfl,bI (by decide) ⟨_,rfl,rfl,_,rfl,bI (by decide) ⟨_,rfl,rfl,_,rfl,bI (by decide) ⟨_,rfl,rfl,_,rfl,kc (by decide) (go true hu)⟩⟩⟩⟩
      |false=>exact⟨_,rfl,rfl,_,rfl,bI (by decide) ⟨_,rfl,rfl,_,rfl,bI (by decide) ⟨_,rfl,rfl,_,rfl,bI (by decide) ⟨_,rfl,rfl,_,rfl,bI (by decide) ⟨_,rfl,rfl,_,rfl,go false hu⟩⟩⟩⟩⟩
end
def CJ:List (Str×List Str):=[("row",["new","row"]),("star",["new","order"]),("home",["new","order"]),("copy",["new","name"]),("join",["new","name","name"]),("forth",["name","number"]),("back",["name","number"]),("drop",["name"]),
 ("show",["name"]),("order",["name"]),("kind",["name"]),("least",["name"]),("parts",["name"]),("holes",["name"]),("lead",["name","name"]),("tree",["name"]),("cars",["name"]),("begun",["name","number"]),("count",["name","number"]),("joined",["name","number"]),("names",[])]
def GW:List Str:=["show","order","kind","least","parts","holes","lead","tree","cars","begun","count","joined"]
def qp(w:Str):Option (List Str):=(CJ.find? fun p=>p.1=w).map (·.2)
noncomputable def nH(okd:Str->Bool)(ans:Str->Int->List Wd->Option (Except PY Str))(U:Str->Bool)(CT CN CB CM:PY):dX:=
 {yF:=qp,okd:=okd,GX:=dn,isA:=fun w=>decide (w∈GW),ans:=ans,IS:=AL U CB CM,CT:=CT,CN:=CN}
theorem DB(a b:Str):a++Pd " " ++b=Str.join (Pd " ") [a,b]:=rfl
theorem CK(a b c:Str):a++Pd " " ++b++Pd " " ++c=Str.join (Pd " ") [a,b,c]:=by
 refine bt ?_;show signs (a++Pd " " ++b++Pd " " ++c)=signs (a++Pd " " ++(b++Pd " " ++c));simp only[aT,PF]
theorem IZ{w:Str}(h:isNm w):32∉signs w:=fun z=>by have:=h.2.2 32 z;lia
section
variable{okd:Str->Bool}{ans:Str->Int->List Wd->Option (Except PY Str)}{U:Str->Bool}{CT CN CB CM:PY}{n:Int}{m:Kept}{nm:Str}
theorem Io{R:List (Int×Int)}(h1:okd "new" =true)(h2:okd "row" =true)(hu:U "row" =true)(hn:isNm nm)(n12:n<=12)(g:Good n R)(l:R.length<=60):
  (nH okd ans U CT CN CB CM).out n m [Pd "row",nm,eJ R]=some (.put nm R):=by
 have e1:qp (Pd "row")=some [Pd "new",Pd "row"]:=by decide+kernel
 have e2:decide (Pd "row"∈GW)=false:=by decide+kernel
 have r1:dn n (Pd "new") nm=some (.txt nm):=BV hn;have r2:dn n (Pd "row") (eJ R)=some (.row R):=HA (by lia) g l;have r3:AL U CB CM (Pd "row") [.txt nm,.row R]=some (.ok R):=by
  unfold AL;rw[if_neg (by rw[show U (Pd "row")=true from hu];decide)];dsimp only;rw[if_pos (.inl rfl)]
 have g1:xM m (Pd "new") (.txt nm)=some (.txt nm):=if_neg (by decide+kernel);have g2:xM m (Pd "row") (.row R)=some (.row R):=if_neg (by decide+kernel);unfold dX.out nH;dsimp only;rw[e1];dsimp only;rw[if_neg (by simp),if_neg (by show¬([Pd "new",Pd "row"].all okd=false);rw[List.all_cons,List.all_cons,List.all_nil,show okd (Pd "new")=true from h1,show okd (Pd "row")=true from h2];decide)];simp only[List.zip_cons_cons,List.zip_nil_right,fB,r1,r2,Option.map_some,g1,g2,e2];rw[if_neg (by decide+kernel),if_neg (by decide),if_neg (by decide+kernel),r3]
theorem BG{word:Str}(h1:okd "name" =true)(e1:qp word=some [Pd "name"])(e2:decide (word∈GW)=true)(hn:isNm nm):
  (rowOf m nm=none->(nH okd ans U CT CN CB CM).out n m [word,nm]=some (.tM CN))/\
  ∀R,rowOf m nm=some R->(∀s,ans word n [.row R]=some (.ok s)->(nH okd ans U CT CN CB CM).out n m [word,nm]=some (.ans s))/\∀c,ans word n [.row R]=some (.error c)->(nH okd ans U CT CN CB CM).out n m [word,nm]=some (.tM c):=by
 have r1:dn n (Pd "name") nm=some (.txt nm):=yA hn;have nn:¬word=Pd "names" :=fun z=>by rw[z]at e1;revert e1;decide+kernel
 have ok:¬([Pd "name"].all okd=false):=by rw[List.all_cons,List.all_nil,show okd (Pd "name")=true from h1];decide
 constructor
 .intro e
  have g1:xM m (Pd "name") (.txt nm)=none:=by
   unfold xM;rw[if_pos rfl];dsimp only;rw[e];rfl
  unfold dX.out nH;dsimp only;rw[e1];dsimp only;rw[if_neg (by simp),if_neg ok];simp only[List.zip_cons_cons,List.zip_nil_right,fB,r1,Option.map_some,g1]
 .intro R e
  have g1:xM m (Pd "name") (.txt nm)=some (.row R):=by
   unfold xM;rw[if_pos rfl];dsimp only;rw[e];rfl
  constructor
  .intro s es
   unfold dX.out nH;dsimp only;rw[e1];dsimp only;rw[if_neg (by simp),if_neg ok];simp only[List.zip_cons_cons,List.zip_nil_right,fB,r1,Option.map_some,g1,e2];rw[if_neg nn,if_pos trivial,es]
  .intro s es
   unfold dX.out nH;dsimp only;rw[e1];dsimp only;rw[if_neg (by simp),if_neg ok];simp only[List.zip_cons_cons,List.zip_nil_right,fB,r1,Option.map_some,g1,e2];rw[if_neg nn,if_pos trivial,es]
theorem iH{a b:Str}(ha:PyData.strOk a=true)(hb:PyData.strOk b=true):PyData.strOk (a++b)=true:=by
 unfold PyData.strOk at*;rw[Array.all_eq_true_iff_forall_mem]at*;intro c hc;have hc:c∈signs (a++b):=by simpa [signs]using hc
 rw[aT]at hc;rcases List.mem_append.mp hc with h|h
 .exact ha c (by simpa [signs]using h)
 .exact hb c (by simpa [signs]using h)
theorem kP{z:Str}(hz:PyData.strOk z=true):∀{ts:List Str},(∀t∈ts,PyData.strOk t=true)->PyData.strOk (Str.join z ts)=true
 |[],_=>by show PyData.strOk (⟨#[]⟩:Str)=true;decide+kernel
 |[t],h=>h t Pt
 |t::u::r,h=>by
  have e:Str.join z (t::u::r)=t++z++Str.join z (u::r):=rfl;rw[e];exact iH (iH (h t Pt) hz) (kP hz fun x hx=>h x (Pu _ hx))
theorem qW(i:Int):PyData.strOk (aF i)=true:=dA _
theorem Gi(r:List Int):PyData.strOk (iM r)=true:=kP (dA ",") fun t ht=>by
 obtain⟨i,_,rfl⟩:=List.mem_map.mp ht;exact qW i
def MN(n:Int)(m:Kept):Prop:=∀p∈m,Good n p.2/\p.2.length<=60/\isNm p.1
theorem dB.off {H H':Hp}{v:V}{R:List (Int×Int)}{d:PY}{q:List (Key×V)}(h:dB H v R)(e:H d=some (.dK q))(k:∀b o,b≠d->H b=some o->H' b=some o):dB H' v R:=by
 obtain⟨l,es,e1,h1,h2⟩:=h;have ne:∀b o,H b=some o->(∀q,o≠.dK q)->b≠d:=fun b o hb hn z=>by rw[z,e]at hb;cases hb;exact hn _ rfl
 exact⟨l,es,e1,k _ _ (ne _ _ h1 fun q z=>nomatch z) h1,h2.keep fun b xs hb=>k _ _ (ne _ _ hb fun q z=>nomatch z) hb⟩
theorem bg.off {H H':Hp}{ks:List (Key×V)}{m:Kept}{d:PY}{q:List (Key×V)}(h:bg H ks m)(e:H d=some (.dK q))(k:∀b o,b≠d->H b=some o->H' b=some o):bg H' ks m:=Paired.Ao h fun _ _ z=>⟨z.1,z.2.off e k⟩
theorem cM.off {C:PY}{H H':Hp}{a b d:PY}{n:Int}{m:Kept}{q:List (Key×V)}(h:cM C H a b n m)(e:H d=some (.dK q))(ne:b≠d)(k:∀b o,b≠d->H b=some o->H' b=some o):cM C H' a b n m:=by
 obtain⟨dx,fs,kvs,ha,hf,hd,ne2,km,ml⟩:=h;exact⟨dx,fs,kvs,k _ _ (fun z=>by rw[z,e]at ha;cases ha) ha,hf,k _ _ ne hd,ne2,km.off e k,ml⟩
end
theorem N6{n:Int}{w:Str}{R:List (Int×Int)}(no:32∉signs w):lg n (.str (bl w)) R↔w=eJ R/\Good n R/\R.length<=60:=by
 constructor
 .rintro⟨e,g,l⟩
  injection e with e
  have g0:∀e∈R,0<=e.1/\0<=e.2:=fun e he=>by have:=g e he;lia
  refine⟨?_,g,l⟩;rw[←qM g0,←e,JE no]
 .rintro⟨e,g,l⟩
  have g0:∀e∈R,0<=e.1/\0<=e.2:=fun e he=>by have:=g e he;lia
  refine⟨?_,g,l⟩;rw[e,B6 g0]
theorem rR:∀ts:List Str,(∀t∈ts,PyData.strOk t=true)->PyData.canLayAll0 (ts.map PyData.str)=true
 |[],_=>by simp[PyData.canLayAll0]
 |t::ts,h=>by
  have:=rR ts fun x hx=>h x (Pu _ hx);have h0:=h t Pt;simp[PyData.canLayAll0,PyData.canLay0,this,h0]
theorem m6:∀ts:List Str,PyData.depthAll (ts.map PyData.str)<=1
 |[]=>by simp[PyData.depthAll]
 |t::ts=>by
  have:=m6 ts;simp only[Pm,PyData.depthAll,PyData.depth];lia
theorem rZ{K:W.Frag}{H:Hp}:∀ts:List Str,DatAll K H (fun _=>True) (ts.map V.str) (ts.map PyData.str)
 |[]=> .nil
 |t::ts=> .cons (.str t) (rZ ts)
theorem Jq(ts:List Str):PyData.eqv (.list (ts.map PyData.str)) (.list [])=decide (ts=[]):=by
 cases ts with
 |nil=>unfold PyData.eqv;rfl
 |cons a r=>unfold PyData.eqv;rfl
theorem NB{K:W.Frag}{H:Hp}{t u:PY}{ts:List Str}{Q:VK}(h1:H t=some (.lst (ts.map V.str)))(h2:H u=some (.lst []))(ok:∀t∈ts,PyData.strOk t=true)(q:Q (.bl (decide (ts=[]))) H):Gw K (.ref t) (.ref u) H Q:=by
 refine⟨fun _=>True,.list (ts.map PyData.str),.list [],.lst (aI.of h1) True.intro (rZ ts),.lst (aI.of h2) True.intro .nil,?_,rfl,?_,?_⟩
 .unfold PyData.canLay0;exact rR ts ok
 .unfold PyData.depth;have:=m6 ts;lia
 .rw[Jq];exact q
theorem Oe{K:W.Frag}{H:Hp}{t u:PY}{ts:List Str}{Q:VK}(h1:H t=some (.lst (ts.map V.str)))(h2:H u=some (.lst []))(ok:∀t∈ts,PyData.strOk t=true)(q:Q (.bl (!decide (ts=[]))) H):J6 K (.ref t) (.ref u) H Q:=by
 refine⟨fun _=>True,.list (ts.map PyData.str),.list [],.lst (aI.of h1) True.intro (rZ ts),.lst (aI.of h2) True.intro .nil,?_,rfl,?_,?_⟩
 .unfold PyData.canLay0;exact rR ts ok
 .unfold PyData.depth;have:=m6 ts;lia
 .rw[Jq];exact q
theorem lW{x y:Str}(h:PyData.strOk x=true)(s:∀c∈signs y,c∈signs x):PyData.strOk y=true:=by
 unfold PyData.strOk at*;rw[Array.all_eq_true_iff_forall_mem]at*;intro c hc;have:=s c (by simpa [signs]using hc);exact h c (by simpa [signs]using this)
theorem y8{x:Str}{c:Nat}(h:PyData.strOk x=true)(hc:c∈signs x):PyData.strOk ⟨#[c]⟩=true:=lW h fun d hd=>by
 have:d=c:=by simpa [signs]using hd
 rw[this];exact hc
theorem vg(c:Nat):Txt.contains (Pd "0123456789") ⟨#[c]⟩=decide (48<=c/\c<=57):=by
 unfold Txt.contains;rw[StrLaws.found_one,Bool.eq_iff_iff,decide_eq_true_eq,decide_eq_true_eq];have e:(Pd "0123456789").cps.toList=List.range' 48 10:=by decide+kernel
 rw[e,List.mem_range'_1];lia
def Pk(lo hi:Nat)(x:Str)(i:Nat)(ts:List Str):Prop:=(∀t∈ts,PyData.strOk t=true)/\ts.length<=i/\(ts=[]↔∀c∈(signs x).take i,lo<=c/\c<=hi)
theorem Pk.nil {lo hi:Nat}{x:Str}:Pk lo hi x 0 []:=⟨(fun t h=>nomatch h),PK _,by simp⟩
theorem Pk.step {lo hi:Nat}{x:Str}{i:Nat}{ts:List Str}{c:Nat}(h:Pk lo hi x i ts)(ok:PyData.strOk x=true)(hs:(signs x)[i]?=some c):
  (¬(lo<=c/\c<=hi)->Pk lo hi x (i+1) (ts++[⟨#[c]⟩]))/\((lo<=c/\c<=hi)->Pk lo hi x (i+1) ts):=by
 obtain⟨h1,h2,h3⟩:=h;have e:(signs x).take (i+1)=(signs x).take i++[c]:=by rw[PJ,hs];rfl
 refine⟨fun q=>⟨fun t ht=>?_,by rw[Pg,List.length_singleton];lia,?_⟩,fun q=>⟨h1,by lia,?_⟩⟩
 .rcases List.mem_append.mp ht with ht|ht
  .exact h1 t ht
  .rw[List.mem_singleton.mp ht]
   exact y8 ok (Pr hs)
 .refine⟨fun z=>by simp at z,fun z=>absurd (z c ?_) q⟩
  rw[e];simp
 .rw[h3,e]
  refine⟨fun z d hd=>?_,fun z d hd=>z d (by simp[hd])⟩;rcases List.mem_append.mp hd with hd|hd
  .exact z d hd
  .rw[List.mem_singleton.mp hd];exact q
theorem wU{K:W.Frag}{H:Hp}{nm x al:Str}{lo hi:Nat}{Q:VK}(ok:PyData.strOk x=true)(xl:x.length<=1000)(hin:∀c,Txt.contains al ⟨#[c]⟩=decide (lo<=c/\c<=hi))
  (k:∀H',ai H H'->Q (.bl (decide (∀c∈signs x,lo<=c/\c<=hi))) H'):
  GK (Gw K) (yB [none] (Mm (qw 0)) (cT 0) (B3 (GK Ce (qw 0) (tC (V.str al)))) (qw 0)) (MY wt) (L2.start [nm] [V.str x]) H Q:=by
 refine⟨_,rfl,x,rfl,?_⟩;refine Bx (fun i ys σ' H'=>H'=H/\(∃v0,σ'=[v0])/\∃ts:List Str,ys=ts.map V.str/\Pk lo hi x i ts) (by lia) ⟨rfl,⟨none,rfl⟩,[],rfl,Pk.nil⟩ (fun i ys σ' H' ⟨_,_,ts,e1,p⟩=>by
  rw[e1,Pe];exact p.2.1) (fun i ys σ' H' c R hc ⟨eH,⟨v0,e0⟩,ts,e1,p⟩ r=>?_) (fun ys σ' H' l0 ⟨eH,_,ts,e1,p⟩ fl=>?_)
 .subst e0
  have hs:(signs x)[i]?=some c:=by unfold signs;simpa using hc
  refine⟨_,rfl,_,_,rfl,rfl,_,rfl,?_⟩;rw[hin];by_cases q:lo<=c/\c<=hi
  .rw[decide_eq_true q]
   exact r _ _ _ ⟨eH,⟨_,rfl⟩,ts,e1,(p.step ok hs).2 q⟩
  .rw[decide_eq_false q]
   exact⟨_,rfl,r _ _ _ ⟨eH,⟨_,rfl⟩,ts++[⟨#[c]⟩],by rw[e1,Pj];rfl,(p.step ok hs).1 q⟩⟩
 .subst eH
  subst e1;refine⟨PQ _,fun l1 f1=>?_⟩;have s1:ai H' (upd H' l0 (.lst (ts.map V.str))):=ai.new fl;have s2:=s1.trans (ai.new (o:= .lst []) f1);have n1:l0≠l1:=fun z=>by rw[←z,af]at f1;cases f1
  have e2:=p.2.2;rw[Pw (by rw[aS];exact PK _)]at e2;refine NB (ts:=ts) (by rw[ao n1,af]) af p.1 ?_;rw[show decide (ts=[])=decide (∀c∈signs x,lo<=c/\c<=hi)from decide_eq_decide.mpr e2];exact k _ s2
def HW(P:Str->Prop):Sp:=fun vs H Q _=>∃x:Str,vs=[.str x]/\x.length<=1000/\PyData.strOk x=true/\∀b:Bool,(b=true↔P x)->∀H',ai H H'->Q (.bl b) H'
section
variable{P:P0}{w:P4}{K:W.Frag}{mg:Str->Option PX}{base:Qd}
theorem qv:aE ["_law_word"] ["_law_word"] (av (top 124)):=⟨rfl,rfl,rfl,by decide+kernel,rfl,by decide+kernel,by decide+kernel⟩
theorem JU{f:PY}{fd:Qc}(F:dU K "_law_is_name" "_law_is_name" (top 124) f fd)(T:T1 mg K):aQ P w K mg base i4 1 f fd ["_law_word"] (HW isNm):=by
 refine F.ok qv (fun vs H Q E h=>?_) (fun cdv A outer s H vs Q E hr h=>?_)
 .obtain⟨x,rfl,_⟩:=h
  rfl
 .obtain⟨x,rfl,xl,ok,k⟩:=h
  refine⟨_,(ag (aN (dm (rm p5 p5 aj (ar cI rfl T.bX (by decide+kernel) (aa (pv 0) ae)) aj)) (ah (ay eT)) ax)
   (ah (ay (iG (wV hr.units) (bU (N:=(["_law_sign"]:List Str)) (ix:=([none]:List (Option Nat))) (aW rfl rfl) rfl (wk (pv 0)) (fun _ _ _ _=>(aA (i:=0) (show List.Nodup (["_law_sign"]:List Str)from by decide+kernel) rfl (Or.inl rfl))) (fun _ _ _ _=>(qL (aw vo (pv 0) ak rfl))) (fun _ _ _ _=>(pv 0))) (bH ae) (aB _))))),?_⟩
  have big:(10000000:Nat)<=P6:=by decide
  have no:¬isNm x->Q (.bl false) H:=fun z=>k false ⟨(fun h=>by cases h),fun h=>absurd h z⟩ H (ai.refl _);refine⟨_,rfl,x,rfl,by lia,_,_,rfl,rfl,_,rfl,?_⟩;by_cases c1:1<=x.length
  case neg=>
   rw[if_neg (by rw[decide_eq_true_eq];lia)];exact⟨_,rfl,no fun z=>c1 z.1⟩
  rw[if_pos (by rw[decide_eq_true_eq];lia)];refine⟨_,_,rfl,rfl,_,rfl,?_⟩;by_cases c2:x.length<=8
  case neg=>
   rw[decide_eq_false (by lia)];exact no fun z=>c2 z.2.1
  rw[decide_eq_true (by lia)];refine wU ok (by lia) rT fun H' s'=>k _ ?_ H' s';rw[decide_eq_true_eq];exact⟨fun z=>⟨c1,c2,z⟩,fun z=>z.2.2⟩
theorem oj:aE ["_law_word"] ["_law_word"] (av (top 125)):=⟨rfl,rfl,rfl,by decide+kernel,rfl,by decide+kernel,by decide+kernel⟩
theorem KI{f:PY}{fd:Qc}(F:dU K "_law_is_number" "_law_is_number" (top 125) f fd)(T:T1 mg K):aQ P w K mg base i4 1 f fd ["_law_word"] (HW j3):=by
 refine F.ok oj (fun vs H Q E h=>?_) (fun cdv A outer s H vs Q E hr h=>?_)
 .obtain⟨x,rfl,_⟩:=h
  rfl
 .obtain⟨x,rfl,xl,ok,k⟩:=h
  refine⟨_,(ag (aN (PW.pt (fu (dm (rm p5 p5 aj (ar cI rfl T.bX (by decide+kernel) (aa (pv 0) ae)) aj)) (dG (PW.pt (pH (aw bR (bC FE (pv 0) aj (fun _ _=>rfl)) ak (aB _)) (lN (aw eC (pv 0) ak (aB _)))))))) (ah (ay eT)) ax)
   (ah (ay (iG (wV hr.units) (bU (N:=(["_law_sign"]:List Str)) (ix:=([none]:List (Option Nat))) (aW rfl rfl) rfl (wk (pv 0)) (fun _ _ _ _=>(aA (i:=0) (show List.Nodup (["_law_sign"]:List Str)from by decide+kernel) rfl (Or.inl rfl))) (fun _ _ _ _=>(qL (aw vo (pv 0) ak rfl))) (fun _ _ _ _=>(pv 0))) (bH ae) (aB _))))),?_⟩
  have big:(10000000:Nat)<=P6:=by decide
  have no:¬j3 x->Q (.bl false) H:=fun z=>k false ⟨(fun h=>by cases h),fun h=>absurd h z⟩ H (ai.refl _);have it:=Df (w:=x);refine⟨_,rfl,x,rfl,by lia,_,_,rfl,rfl,_,rfl,?_⟩;by_cases c1:1<=x.length
  case neg=>
   rw[if_neg (by rw[decide_eq_true_eq];lia)];exact⟨_,rfl,no fun z=>c1 (it.mp z).1.1⟩
  rw[if_pos (by rw[decide_eq_true_eq];lia)];refine⟨_,_,rfl,rfl,_,rfl,?_⟩;by_cases c2:x.length<=9
  case neg=>
   rw[decide_eq_false (by lia)];exact no fun z=>c2 (it.mp z).1.2
  rw[decide_eq_true (by lia)];obtain⟨c0,hc0⟩:∃c0,(signs x)[0]?=some c0:=⟨_,Ph (by rw[aS];lia)⟩;have go:(48=c0->x=Pd "0")->∀H',ai H H'->Q (.bl (decide (∀c∈signs x,48<=c/\c<=57))) H':=fun q H' s'=>k _ (by
   rw[decide_eq_true_eq,it];exact⟨fun z=>⟨⟨c1,c2⟩,fun y=>y.2 (q (PU (y.1.symm.trans hc0))),z⟩,fun z=>z.2.2⟩) H' s'
  have e48:Pd "0" =⟨#[48]⟩:=by decide+kernel
  refine⟨_,rfl,x,0,c0,rfl,rfl,by lia,bN (j:=0) hc0,rfl,_,rfl,cg (fun c=>?_) (fun c=>?_)⟩
  .have ec:c0=48:=by
    rw[e48]at c;have:=of_decide_eq_true c;injection this with q
    injection q with q
    simpa using q
   refine⟨_,rfl,rfl,_,rfl,cg (fun c=>?_) (fun c=>?_)⟩
   .refine no fun z=>(it.mp z).2.1 ⟨by rw[hc0,ec],fun q=>?_⟩
    rw[q]at c;simp at c
   .refine wU ok (by lia) vg (go fun _=>?_)
    apply PV;intro z;exact c (by rw[decide_eq_false (fun q=>z (V.str.inj q))];rfl)
  .refine wU ok (by lia) vg (go fun q=>?_)
   exact absurd (by rw[e48,←q];exact decide_eq_true rfl) c
end
end Sw
namespace L2
open PySem PySem.Spec PyProof.Rows
section
variable{X:Cx}
def LD:V->List V->Hp->VK->Prop:=fun x vs H Q=>∃(a:PY)(kvs:List (Key×V))(k:Key),x= .ref a/\vs=[kV k]/\H a=some (.dK kvs)/\Q ((cQ kvs k).getD .cE) H
theorem Iz:As X "dict.get" LD:=by
 intro pins s σ H x vs v us Q I rx rv h;obtain⟨a,kvs,k,rfl,rfl,ha,q⟩:=h;cases rx;obtain⟨u,rfl,ru⟩:=vals1 rv;obtain⟨z,hd,ps,rel,dd⟩:=yx I.aX ha;have rk:=rel.val k;exact call_meetsIn PySem.F.slot_dict_get dd.typeIs PySem.F.entry_dict_get (PySem.F.args_dict_get_2 _ _) (meets_dict_get _ a (mO ru) hd) ⟨_,dd.mapOf,_,H,I.tok _,ji.getD (d:=V.cE) (d':=PX.none) rk rfl,q⟩
theorem uL{x:Str}{k:Nat}{ps:List Str}{sp:Sp}{p pos:Pos}(F:FnAt X.prog X.w X.K X.mg X.base x k ps sp)(hr:cB k X.A)(hg:Gl X x)(hdb:(x==("__debug__" :Str))=false:=by decide+kernel):PE X (.Call (.Name x p) [] [] pos) (rf sp [] E0 wt):=by
 obtain⟨f,fd,F,hm,hk,hb⟩:=F.ex;exact Ed F hr hg hm hk hb .nil FV hdb
def EA:V->List V->Hp->VK->Prop:=fun x vs H Q=>∃(l:PY)(xs:List V)(i:Int)(y:V),x= .ref l/\vs=[.int i,y]/\H l=some (.lst xs)/\0<=i/\i<=1000000/\xs.length<=1000000/\Q .cE (upd H l (.lst (xs.take i.toNat++y::xs.drop i.toNat)))
theorem Ad:As X "list.insert" EA:=by
 intro pins s σ H x vs v us Q I rx rv h;obtain⟨l,xs,i,y,rfl,rfl,hH,h0,h1,hz,q⟩:=h;cases rx;obtain⟨u,u',rfl,⟨t,rfl⟩,ru⟩:=vals2 rv;obtain⟨z,its,n,r,hl,e⟩:=I.sF hH;have big:(10000000:Nat)<=P6:=by decide
 refine call_meets PySem.F.slot_list_insert ⟨_,e,rfl⟩ PySem.F.entry_list_insert (PySem.F.args_list_insert_3 _ _ _) (PySem.AutoSeq1.list_insert_list_int_val_1 l its.toArray n i t u' (by rw[fitsIndex_both (by lia) (by lia)];simp) (by rw[Pz];lia)) ⟨e,?_⟩;refine⟨.cE,_,I.EO (its':=its.take i.toNat++u'::its.drop i.toNat) hH e ?_ ((r.take _).append (.cons ru (r.drop _))) ?_,rfl,q⟩
 .dsimp only
  rw[if_neg (by lia)];by_cases c:i.toNat<=its.length
  .have:min i.toNat its.toArray.size=i.toNat:=by rw[Pz];lia
   rw[this];exact ET its _ u'
  .have:min i.toNat its.toArray.size=its.length:=by rw[Pz];lia
   rw[this,ET its _ u',Pw (PK _),List.drop_eq_nil_of_le (PK _),Pw (by lia:its.length<=i.toNat),List.drop_eq_nil_of_le (by lia:its.length<=i.toNat)]
 .rw[Pg,Pn,Pl,List.length_drop]
  lia
end
end L2
namespace Sw
open PySem L2
def t8:List (Str×Str):=[("row","NT"),("star","NO"),("home","NO"),("copy","Nn"),("join","Nnn"),("forth","nK"),("back","nK"),("drop","n"),("show","n"),("order","n"),("kind","n"),("least","n"),("parts","n"),("holes","n"),("tree","n"),("cars","n"),
 ("begun","nK"),("count","nK"),("joined","nK"),("lead","nn"),("names","")]
def dC:List (Key×V):=t8.map fun p=>(.inr p.1,.str p.2)
def ng:List Str:=["drop","show","order","kind","least","parts","holes","tree","cars"]
def m7:List Str:=["begun","count","joined"]
theorem Kz:∀i,i<9->putK (dC.take (7+i)) (.inr (ng.getD i "")) (.str (Pd "n"))=dC.take (8+i):=by
 intro i h
 match i,h with
 |0,_|1,_|2,_|3,_|4,_|5,_|6,_|7,_|8,_=>kernel_rfl
theorem JZ:∀i,i<3->putK (dC.take (16+i)) (.inr (m7.getD i "")) (.str (Pd "nK"))=dC.take (17+i):=by
 intro i h
 match i,h with
 |0,_|1,_|2,_=>kernel_rfl
abbrev NU:List (TE×TE):=[(tC (V.str (Pd "row")),tC (V.str (Pd "NT"))),(tC (V.str (Pd "star")),tC (V.str (Pd "NO"))),(tC (V.str (Pd "home")),tC (V.str (Pd "NO"))),(tC (V.str (Pd "copy")),tC (V.str (Pd "Nn"))),(tC (V.str (Pd "join")),tC (V.str (Pd "Nnn"))),(tC (V.str (Pd "forth")),tC (V.str (Pd "nK"))),(tC (V.str (Pd "back")),tC (V.str (Pd "nK")))]
def Cd:Sp:=fun vs H Q _=>vs=[]/\∀a H',H a=none->H' a=some (.dK dC)->ai H H'->Q (.ref a) H'
section
variable{P:P0}{w:P4}{K:W.Frag}{mg:Str->Option PX}{base:Qd}
theorem eh:aE ["_law_some","_law_word"] [] (av (top 128)):=⟨rfl,rfl,rfl,by decide+kernel,rfl,by decide+kernel,by decide+kernel⟩
theorem JV{f:PY}{fd:Qc}(F:dU K "_law_shapes" "_law_shapes" (top 128) f fd)(T:T1 mg K):aQ P w K mg base i4 1 f fd [] Cd:=by
 refine F.ok eh (fun vs H Q E h=>?_) (fun cdv A outer s H vs Q E hr h=>?_)
 .obtain⟨rfl,_⟩:=h
  rfl
 .obtain⟨rfl,k⟩:=h
  have hu:=pZ hr;refine'⟨_,ag ?g1 ?g2,?b⟩
  case g1=>
   refine'(@aC _ _ 0 _ _ _ _ eh.nd rfl (Or.inl rfl) ?g3 (by kernel_rfl) (Or.inr rfl))
   case g3=>
    refine' @Co _ _ _ _ NU ?h1 rfl rfl (List.cons_ne_nil _ _) (Nat.le_of_ble_eq_true rfl);exact eU ak ak (eU ak ak (eU ak ak (eU ak ak (eU ak ak (eU ak ak (eU ak ak Bv))))))
  case g2=>
   refine' ag ?k1 ?k2
   case k1=>exact(@cP _ _ _ _ _ _ _ _ PassesOwn.never rfl (@aV _ K _ _ _ rfl (@bH _ _ _ _ (@gZ _ _ (ng.map V.str) rfl))) (aA (i:=1) eh.nd rfl (Or.inl rfl)) (@ah _ _ _ (@mh _ _ _ _ _ _ _ _ _ hu (pv 0) (pv 1) ak rfl)) (fun _=>rfl))
   case k2=>
    refine' ag ?l1 ?l2
    case l1=>exact(@cP _ _ _ _ _ _ _ _ PassesOwn.never rfl (@aV _ K _ _ _ rfl (@bH _ _ _ _ (@gZ _ _ (m7.map V.str) rfl))) (aA (i:=1) eh.nd rfl (Or.inl rfl)) (@ah _ _ _ (@mh _ _ _ _ _ _ _ _ _ hu (pv 0) (pv 1) ak rfl)) (fun _=>rfl))
    case l2=>
     refine' ag ?m1 ?m2
     case m1=>exact(@mh _ _ _ _ _ _ _ _ _ hu (pv 0) ak ak rfl)
     case m2=>
      refine' ag ?n1 ?n2
      case n1=>exact(@mh _ _ _ _ _ _ _ _ _ hu (pv 0) ak ak rfl)
      case n2=>exact(ah (ay (pv 0)))
  intro p hp;refine⟨af,dC.take 7,by kernel_rfl,by decide,?_⟩;have e0:mS [] (dC.take 7)=dC.take 7:=by kernel_rfl
  rw[e0];have z0:upd (upd H p (.dK [])) p (.dK (dC.take 7)) p=some (.dK (dC.take 7)):=af;have s0:ai H (upd (upd H p (.dK [])) p (.dK (dC.take 7))):=fun b o e=>by
   have ne:b≠p:=fun z=>by rw[z,hp]at e;cases e
   rw[ao ne,ao ne];exact e
  generalize upd (upd H p (.dK [])) p (.dK (dC.take 7))=H1 at z0 s0⊢;have big:(100:Nat)<=P6:=by decide
  show AY _ _ _ [some (.ref p),none] H1;refine⟨by show(ng.map V.str).length<=P6;exact PN (by decide) big,fun l1 f1=>⟨l1,rfl,⟨_,aI.of af⟩,?_⟩⟩;have np1:p≠l1:=fun z=>by rw[z,f1]at z0;cases z0
  have z1:upd H1 l1 (.lst (ng.map V.str)) p=some (.dK (dC.take 7)):=by rw[ao np1];exact z0
  have q1:upd H1 l1 (.lst (ng.map V.str)) l1=some (.lst (ng.map V.str)):=af;have s1:=s0.trans (ai.new (o:= .lst (ng.map V.str)) f1);generalize upd H1 l1 (.lst (ng.map V.str))=H2 at z1 q1 s1⊢;have off:∀{G:Hp}{b:PY}{o u:HO},H b=some o->G b=some o->upd G p u b=some o:=fun{G b o u} e g=>by
   have ne:b≠p:=fun z=>by rw[z,hp]at e;cases e
   rw[ao ne];exact g
  refine gu (K:=K) (a:=l1) (xs:=ng.map V.str) (fun i σ H'=>∃v,σ=[some (.ref p),v]/\H' p=some (.dK (dC.take (7+i)))/\ai H H'/\H' l1=some (.lst (ng.map V.str))) ⟨_,rfl,z1,s1,q1⟩ ?_ ?_ ?_
  .rintro i σ H' _ ⟨v,rfl,_,_,q⟩
   exact aI.of q
  .rintro i x σ H' hx ⟨v,rfl,hd,sm,q⟩
   have il:i<9:=by have:=(List.getElem?_eq_some_iff.mp hx).1;simpa [ng]using this
   have ex:x= .str (ng.getD i ""):=by
    have:(ng.map V.str)[i]?=some (V.str (ng.getD i "")):=by
     rw[Pf,Pq,Ph (by exact il)];rfl
    rw[this]at hx;exact(PU hx).symm
   subst ex;have lt:(dC.take (7+i)).length<P6:=PL (Nat.lt_of_le_of_lt (List.length_take_le' _ _) (by decide:dC.length<100)) big;refine⟨_,rfl,_,rfl,p,_,rfl,.inl ⟨_,.inr (ng.getD i ""),hd,rfl,lt,rfl⟩,⟨_,rfl,by rw[af,Kz i il,show 8+i=7+(i+1) by lia],fun b o e=>off e (sm _ _ e),?_⟩⟩;rw[ao (fun z=>by rw[z,hd]at q;cases q)];exact q
  rintro σ H' ⟨v,rfl,hd,sm,_⟩;refine⟨by show(m7.map V.str).length<=P6;exact PN (by decide) big,fun l2 f2=>⟨l2,rfl,⟨_,aI.of af⟩,?_⟩⟩;have np2:p≠l2:=fun z=>by rw[z,f2]at hd;cases hd
  have z2:upd H' l2 (.lst (m7.map V.str)) p=some (.dK (dC.take 16)):=by rw[ao np2];exact hd
  have q2:upd H' l2 (.lst (m7.map V.str)) l2=some (.lst (m7.map V.str)):=af;have s2:=sm.trans (ai.new (o:= .lst (m7.map V.str)) f2);generalize upd H' l2 (.lst (m7.map V.str))=H3 at z2 q2 s2⊢;refine gu (K:=K) (a:=l2) (xs:=m7.map V.str) (fun i σ H'=>∃v,σ=[some (.ref p),v]/\H' p=some (.dK (dC.take (16+i)))/\ai H H'/\H' l2=some (.lst (m7.map V.str))) ⟨_,rfl,z2,s2,q2⟩ ?_ ?_ ?_
  .rintro i σ H' _ ⟨v,rfl,_,_,q⟩
   exact aI.of q
  .rintro i x σ H' hx ⟨v,rfl,hd,sm,q⟩
   have il:i<3:=by have:=(List.getElem?_eq_some_iff.mp hx).1;simpa [m7]using this
   have ex:x= .str (m7.getD i ""):=by
    have:(m7.map V.str)[i]?=some (V.str (m7.getD i "")):=by
     rw[Pf,Pq,Ph (by exact il)];rfl
    rw[this]at hx;exact(PU hx).symm
   subst ex;have lt:(dC.take (16+i)).length<P6:=PL (Nat.lt_of_le_of_lt (List.length_take_le' _ _) (by decide:dC.length<100)) big;refine⟨_,rfl,_,rfl,p,_,rfl,.inl ⟨_,.inr (m7.getD i ""),hd,rfl,lt,rfl⟩,⟨_,rfl,by rw[af,JZ i il,show 17+i=16+(i+1) by lia],fun b o e=>off e (sm _ _ e),?_⟩⟩;rw[ao (fun z=>by rw[z,hd]at q;cases q)];exact q
  rintro σ H5 ⟨v,rfl,hd5,sm5,_⟩;have hd5:H5 p=some (.dK (dC.take 19)):=hd5;have l19:(dC.take 19).length<P6:=PL (by decide) big;have l20:(dC.take 20).length<P6:=PL (by decide) big;refine⟨_,rfl,p,_,rfl,.inl ⟨_,.inr (Pd "lead"),hd5,rfl,l19,rfl⟩,?_⟩;have p1:putK (dC.take 19) (.inr (Pd "lead")) (.str (Pd "nn"))=dC.take 20:=by kernel_rfl
  have p2:putK (dC.take 20) (.inr (Pd "names")) (.str (Pd ""))=dC:=by kernel_rfl
  rw[p1];refine⟨_,rfl,p,_,rfl,.inl ⟨_,.inr (Pd "names"),af,rfl,l20,rfl⟩,?_⟩;rw[p2];refine⟨_,rfl,?_⟩;exact k p _ hp af fun b o e=>off e (off e (sm5 _ _ e))
end
theorem NW{K:W.Frag}{H:Hp}{l m:PY}{vs ws:List V}{r q:List (Int×Int)}{Q:VK}(h1:H l=some (.lst vs))(x1:jm H vs r)(h2:H m=some (.lst ws))(x2:jm H ws q)(hq:Q (.bl (decide (r=q))) H):Gw K (.ref l) (.ref m) H Q:=by
 obtain⟨P,dx,dy,d1,d2,c1,c2,dd,e⟩:=O5 (K:=K) (Q:=fun v _=>v= .bl (!decide (r=q))) h1 x1 h2 x2 rfl;refine⟨P,dx,dy,d1,d2,c1,c2,dd,?_⟩;have:PyData.eqv dx dy=decide (r=q):=by
  injection e with e
  simpa using e
 rw[this];exact hq
def Kr(row:List (Int×Int)):Prop:=∀e∈row,0<=e.1/\0<=e.2/\e.1<100/\e.2<100
theorem yL{row:List (Int×Int)}(h:Kr row):(eJ row).length<=row.length*6+4:=by
 unfold eJ
 split
 .rename_i z
  rw[z];decide+kernel
 .have h1:=StrLaws.join_length_le (Pd ",") (row.map gA)
  have h2:=StrLaws.sumLen_le (B:=5) (row.map gA) (fun y hy=>by
   obtain⟨⟨a,b⟩,he,rfl⟩:=List.mem_map.mp hy;obtain⟨a0,b0,a9,b9⟩:=h _ he;unfold gA;rw[Str.length_append,Str.length_append];have l1:(aF a).length<=2:=PyProof.Rows.toString_length_le a0 (by decide) (show a<10^2 by lia);have l2:(aF b).length<=2:=PyProof.Rows.toString_length_le b0 (by decide) (show b<10^2 by lia);have:(Pd "-").length=1:=by decide+kernel
   dsimp only;lia)
  have h3:(Pd ",").length=1:=by decide+kernel
  rw[Pe]at h1 h2;rw[h3]at h1;lia
def B5:Sp:=fun vs H Q _=>∃(l:PY)(es:List V)(row:List (Int×Int)),vs=[.ref l]/\H l=some (.lst es)/\jm H es row/\row.length<=70/\Kr row/\∀H',ai H H'->Q (.str (eJ row)) H'
structure NP(mg:Str->Option PX)(K:W.Frag):Prop extends T1 mg K where
 di:mg "str" =none
def IX:Sp:=fun vs H Q _=>∃(t:PY)(n:Int)(xs:List Int),vs=[.ref t]/\H t=some (.tup (xs.map V.int))/\Ord n xs/\1<=n/\n<=12/\∀H',ai H H'->Q (.str (fk (bj n xs))) H'
structure NS(P:P0)(w:P4)(K:W.Frag)(mg:Str->Option PX)(base:Qd):Prop extends T1 mg K where
 di:mg "str" =none
 mM:FnAt P w K mg base "_law_rounds" 1 ["_law_order_here"] jh
def Nk(r:List Int):Str:=Pd "(" ++iM r++Pd ")"
theorem BU{r:List Int}(h:∀x∈r,1<=x/\x<=12)(l:r.length<=12):(iM r).length<=40:=by
 rw[←AK fun x hx=>by have:=h x hx;lia,J2];have h1:=StrLaws.join_length_le (Pd " ") (r.map aF);have h2:=StrLaws.sumLen_le (B:=2) (r.map aF) (fun y hy=>by
  obtain⟨a,ha,rfl⟩:=List.mem_map.mp hy;have:=h a ha;exact PyProof.Rows.toString_length_le (by lia) (by decide) (show a<10^2 by lia))
 have h3:(Pd " ").length=1:=by decide+kernel
 rw[Pe]at h1 h2;rw[h3]at h1;unfold qz;lia
section
variable{P:P0}{w:P4}{K:W.Frag}{mg:Str->Option PX}{base:Qd}
theorem pj:aE ["_law_row_here"] ["_law_row_here"] (av (top 121)):=⟨rfl,rfl,rfl,by decide+kernel,rfl,by decide+kernel,by decide+kernel⟩
theorem Ku{f:PY}{fd:Qc}(F:dU K "_law_row_word" "_law_row_word" (top 121) f fd)(T:NP mg K):aQ P w K mg base i4 1 f fd ["_law_row_here"] B5:=by
 refine F.ok pj (fun vs H Q E h=>?_) (fun cdv A outer s H vs Q E hr h=>?_)
 .obtain⟨l,es,row,rfl,_⟩:=h
  rfl
 .obtain⟨l,es,row,rfl,hl,hx,h60,hs,k⟩:=h
  refine⟨_,(ag (aN (aw (wV hr.units) (pv 0) (bH ae) (aB _)) (ah (ay ak)) ax)
   (ah (ay (aP (K:=K) rfl PySem.F.plainAttrs_str PySem.F.slot_str_join PySem.F.type_str_join (iE (K:=K) rfl) ak (aa (bU (N:=(["_law_a","_law_b"]:List Str)) (ix:=([none,none]:List (Option Nat))) (aW rfl rfl) rfl (aV (K:=K) rfl (pv 0)) (fun _ _ _ _=>(gV (K:=K) (n:=2) rfl rfl (bD (aA (i:=0) (show List.Nodup (["_law_a","_law_b"]:List Str)from by decide+kernel) rfl (Or.inl rfl)) (bD (aA (i:=1) (show List.Nodup (["_law_a","_law_b"]:List Str)from by decide+kernel) rfl (Or.inl rfl)) gS)))) (fun _ _ _ _=>bq) (fun _ _ _ _=>(aG bM (aG bM (aY cH rfl T.di (by decide+kernel) (aa (pv 0) ae)) ak) (aY cH rfl T.di (by decide+kernel) (aa (pv 1) ae))))) ae))))),?_⟩
  have big:(10000000:Nat)<=P6:=by decide
  have el:=hx.length;refine⟨_,rfl,PQ _,fun le fle=>?_⟩;have s1:ai H (upd H le (.lst [])):=ai.new fle;refine NW (s1 _ _ hl) (hx.keep (ai.fD s1)) (ws:=[]) (q:=[]) af .nil ⟨_,rfl,?_⟩;generalize upd H le (.lst [])=H1 at s1⊢;by_cases hz:row=[]
  .subst hz
   exact FG (decide_eq_true rfl) (k H1 s1)
  .refine pB (decide_eq_false hz) ?_
   have rl:=List.length_pos_iff.mpr hz;have hl1:=s1 _ _ hl;have hx1:=hx.keep (ai.fD s1);refine⟨rfl,_,rfl,l,rfl,⟨_,aI.of hl1⟩,EN (K:=K) (a:=l) (xs:=es) (fun j ys σ' H'=>ys=((row.take j).map gA).map V.str/\(∃v0 v1,σ'=[v0,v1])/\H'=H1) (by lia) ⟨rfl,⟨none,none,rfl⟩,rfl⟩ (fun j ys σ' H' _ q=>by rw[q.2.2];exact aI.of hl1) (fun j ys σ' H' q=>by rw[q.1,Pe,Pe,Pn];lia) ?_ ?_⟩
   .rintro j ys σ' H' x R hx' ⟨rfl,⟨v0,v1,rfl⟩,rfl⟩ done
    obtain⟨t,b,c,rfl,ht,hr'⟩:=hx1.get hx';obtain⟨a0,b0,a9,b9⟩:=hs (b,c) (Pr hr');dsimp only at a0 b0 a9 b9;have al:=eQ a0 (by lia);have bl:=eQ b0 (by lia);have dl:(Pd "-").length=1:=by decide+kernel
    refine⟨t,_,rfl,gL.of ht,rfl,_,_,rfl,_,_,rfl,rfl,?_⟩;refine⟨_,rfl,b,rfl,c7 a0 (by lia),_,_,rfl,rfl,(by show(aF b).length+(Pd "-").length<=P6;lia),_,rfl,c,rfl,c7 b0 (by lia),_,_,rfl,rfl,(by show(aF b++Pd "-").length+(aF c).length<=P6;rw[Str.length_append];lia),?_⟩;refine done _ _ _ ⟨?_,⟨_,_,rfl⟩,rfl⟩;rw[aR gA hr',Pj];rfl
   .rintro ys σ' H' q ⟨rfl,⟨v0,v1,rfl⟩,e0⟩ fq
    have e0:=e0.symm;subst e0;rw[Pw (by lia)];refine⟨_,q,row.map gA,rfl,rfl,aI.of af,cf (B:=19) (by decide+kernel) (fun y hy=>?_) (by decide) (by rw[Pe];lia),?_⟩
    .obtain⟨⟨b,c⟩,he,rfl⟩:=List.mem_map.mp hy
     obtain⟨a0,b0,a9,b9⟩:=hs _ he;exact qO a0 b0 (by lia) (by lia)
    .have kk:=k _ (s1.trans (ai.new (o:= .lst ((row.map gA).map V.str)) fq))
     unfold eJ at kk;rw[if_neg hz]at kk;exact kk
theorem hW:aE ["_law_order_here","_law_some"] ["_law_order_here"] (av (top 122)):=⟨rfl,rfl,rfl,by decide+kernel,rfl,by decide+kernel,by decide+kernel⟩
theorem Lf{f:PY}{fd:Qc}(F:dU K "_law_order_word" "_law_order_word" (top 122) f fd)(T:NS P w K mg base):aQ P w K mg base i4 2 f fd ["_law_order_here"] IX:=by
 refine F.ok hW (fun vs H Q E h=>?_) (fun cdv A outer s H vs Q E hr h=>?_)
 .obtain⟨l,ws,S,rfl,_⟩:=h
  rfl
 .obtain⟨t,n,xs,rfl,ht,o,n1,n2,k⟩:=h
  refine⟨_,(ag (lZ (i:=1) hW.nd rfl rfl (N:=(["_law_part"]:List Str)) (ix:=([none]:List (Option Nat))) (aW rfl rfl) rfl (aV (K:=K) rfl (aq T.mM (hr.mono (by first|decide|lia)) rfl (aa (pv 0) ae))) (fun _ _ _ _=>(aA (i:=0) (show List.Nodup (["_law_part"]:List Str)from by decide+kernel) rfl (Or.inl rfl))) (fun _ _ _ _=>bq) (fun _ _ _ _=>(aP (K:=K) rfl PySem.F.plainAttrs_str PySem.F.slot_str_join PySem.F.type_str_join (iE (K:=K) rfl) ak (aa (bU (N:=(["_law_thing"]:List Str)) (ix:=([none]:List (Option Nat))) (aW rfl rfl) rfl (aV (K:=K) rfl (pv 0)) (fun _ _ _ _=>(aA (i:=0) (show List.Nodup (["_law_thing"]:List Str)from by decide+kernel) rfl (Or.inl rfl))) (fun _ _ _ _=>bq) (fun _ _ _ _=>(aY cH rfl T.di (by decide+kernel) (aa (pv 0) ae)))) ae))))
   (ah (ay (aP (K:=K) rfl PySem.F.plainAttrs_str PySem.F.slot_str_join PySem.F.type_str_join (iE (K:=K) rfl) ak (aa (bU (N:=(["_law_word"]:List Str)) (ix:=([none]:List (Option Nat))) (aW rfl rfl) rfl (aV (K:=K) rfl (pv 1)) (fun _ _ _ _=>(aA (i:=0) (show List.Nodup (["_law_word"]:List Str)from by decide+kernel) rfl (Or.inl rfl))) (fun _ _ _ _=>bq) (fun _ _ _ _=>(aG bM (aG bM ak (pv 0)) ak))) ae))))),?_⟩
  have big:(10000000:Nat)<=P6:=by decide
  have q:=lX o;have rl:=kB (rs:=bj n xs) fun r hr=>(q.2.1 r hr).1;refine⟨_,rfl,t,n,xs,rfl,ht,o,by lia,fun l ws H1 fl hl xl _ _ s1=>?_⟩;have wl:=xl.length;have gg:∀r∈bj n xs,r.length<=12/\∀x∈r,1<=x/\x<=12:=fun r hr'=>⟨by have:=(q.2.1 r hr').2.1;lia,fun x hx=>by have:=(q.2.1 r hr').2.2 x hx;lia⟩;refine⟨l,rfl,⟨_,aI.of hl⟩,iC (K:=K) (a:=l) (xs:=ws) (k:=0) (fun i ys σ' H'=>ys=(((bj n xs).take i).map iM).map V.str/\(∃v0,σ'=[v0])/\ai H1 H') (by lia) ⟨rfl,⟨none,rfl⟩,ai.refl _⟩ (fun i ys σ' H' _ q=>aI.of (q.2.2 _ _ hl)) (fun i ys σ' H' q=>by rw[q.1,Pe,Pe,Pn];lia) ?_ ?_⟩
  .rintro i ys σ' H2 x R hx ⟨rfl,⟨v0,rfl⟩,s2⟩ done
   obtain⟨b,r,rfl,hb,hr'⟩:=(xl.keep s2).get hx;have g:=gg r (Pr hr');refine⟨rfl,_,rfl,b,rfl,⟨_,aI.of hb⟩,iC (K:=K) (a:=b) (xs:=r.map V.int) (k:=0) (fun i ys σ' H'=>ys=((r.take i).map aF).map V.str/\(∃v0,σ'=[v0])/\H'=H2) (by rw[Pe];lia) ⟨rfl,⟨none,rfl⟩,rfl⟩ (fun i ys σ' H' _ q=>by rw[q.2.2];exact aI.of hb) (fun i ys σ' H' q=>by rw[q.1,Pe,Pe,Pn];lia) ?_ ?_⟩
   .rintro j zs σ2 H' x' R' hx' ⟨rfl,⟨v1,rfl⟩,rfl⟩ done'
    obtain⟨z,rfl,hz⟩:=qZ hx';have zz:=g.2 z (Pr hz);refine⟨_,rfl,z,rfl,c7 (by lia) (by lia),done' _ _ _ ⟨?_,⟨_,rfl⟩,rfl⟩⟩;rw[aR aF hz,Pj];rfl
   .rintro zs σ2 H' q' ⟨rfl,⟨v1,rfl⟩,e0⟩ fq
    have e0:=e0.symm;subst e0;rw[Pw (by rw[Pe];lia)];refine⟨_,q',r.map aF,rfl,rfl,aI.of af,cf (B:=9) (by decide+kernel) (fun y hy=>?_) (by decide) (by rw[Pe];lia),done _ _ _ ⟨?_,⟨_,rfl⟩,s2.trans (ai.new fq)⟩⟩
    .obtain⟨z,hz,rfl⟩:=List.mem_map.mp hy
     have:=g.2 z hz;exact eQ (by lia) (by lia)
    .rw[aR iM hr',Pj]
     rfl
  .rintro ys σ' H2 lq ⟨rfl,⟨v0,rfl⟩,s2⟩ fq
   rw[Pw (by lia)];have s3:=s1.trans (s2.trans (ai.new (o:= .lst (((bj n xs).map iM).map V.str)) fq));have hq:upd H2 lq (.lst (((bj n xs).map iM).map V.str)) lq=some (.lst (((bj n xs).map iM).map V.str)):=af;generalize upd H2 lq (.lst (((bj n xs).map iM).map V.str))=H3 at s3 hq⊢;refine⟨rfl,_,rfl,lq,rfl,⟨_,aI.of hq⟩,iC (K:=K) (a:=lq) (xs:=((bj n xs).map iM).map V.str) (k:=0) (fun i ys σ' H'=>ys=(((bj n xs).take i).map Nk).map V.str/\(∃v0,σ'=[v0])/\H'=H3) (by rw[Pe,Pe];lia) ⟨rfl,⟨none,rfl⟩,rfl⟩ (fun i ys σ' H' _ q=>by rw[q.2.2];exact aI.of hq) (fun i ys σ' H' q=>by rw[q.1,Pe,Pe,Pn];lia) ?_ ?_⟩
   .rintro i ys σ' H' x R hx ⟨rfl,⟨v0,rfl⟩,rfl⟩ done
    obtain⟨r,hr',rfl⟩:∃r,(bj n xs)[i]?=some r/\x= .str (iM r):=by
     rw[Pf,Pf]at hx
     cases e:(bj n xs)[i]? with
     |none=>rw[e]at hx;cases hx
     |some r=>rw[e]at hx;exact⟨r,rfl,(PU hx).symm⟩
    have g:=gg r (Pr hr');have tl:=BU g.2 g.1;have bl:(Pd "(").length=1:=by decide+kernel
    have cl:(Pd ")").length=1:=by decide+kernel
    refine⟨_,rfl,_,_,rfl,rfl,(by show(Pd "(").length+(iM r).length<=P6;lia),_,_,rfl,rfl,(by show(Pd "(" ++iM r).length+(Pd ")").length<=P6;rw[Str.length_append];lia),done _ _ _ ⟨?_,⟨_,rfl⟩,rfl⟩⟩;rw[aR Nk hr',Pj];rfl
   .rintro ys σ' H' lr ⟨rfl,⟨v0,rfl⟩,e0⟩ fr
    have e0:=e0.symm;subst e0;rw[Pw (by rw[Pe,Pe];exact PK _)];refine⟨_,lr,(bj n xs).map Nk,rfl,rfl,aI.of af,cf (B:=202) (by decide+kernel) (fun y hy=>?_) (by decide) (by rw[Pe];lia),k _ (s3.trans (ai.new fr))⟩;obtain⟨r,hr',rfl⟩:=List.mem_map.mp hy;have g:=gg r hr';have tl:=BU g.2 g.1;have bl:(Pd "(").length=1:=by decide+kernel
    have cl:(Pd ")").length=1:=by decide+kernel
    unfold Nk;rw[Str.length_append,Str.length_append];lia
end
theorem yt{n:Int}:Good n []:=fun e h=>absurd h (PB)
theorem Hy{n r:Int}(h1:2<=n)(r0:0<=r)(r3:r<3):∃m:Int,wm [V.int n,V.int n,V.int (if(3:Int)<n then 3 else n)] r=some (.int m)/\1<=m/\m<=n:=by
 have:r=0\/r=1\/r=2:=by lia
 rcases this with rfl|rfl|rfl
 .exact⟨n,rfl,by lia,by lia⟩
 .exact⟨n,rfl,by lia,by lia⟩
 .exact⟨_,rfl,by split<;>lia,by split<;>lia⟩
theorem FN{n one r:Int}(h1:2<=n)(o1:1<=one)(o2:one<=n)(r0:0<=r)(r1:r<n-1):1<=1+(one+r)%n/\1+(one+r)%n<=n/\1+(one+r)%n≠one:=by
 have m0:=Int.emod_nonneg (one+r) (by lia:n≠0);have m1:=Int.emod_lt_of_pos (one+r) (by lia:0<n);refine⟨by lia,by lia,fun z=>?_⟩;by_cases h:one+r<n
 .rw[Int.emod_eq_of_lt (by lia) h]at z
  lia
 .have e:(one+r)%n=one+r-n:=by
   rw[←Int.sub_emod_right,Int.emod_eq_of_lt (by lia) (by lia)]
  rw[e]at z;lia
def Gv:Sp:=fun vs H Q _=>∃(p:PY)(c:Nat)(n m:Int),vs=[.ref p,.int n,.int m]/\bo H p c/\c<=90000/\1<=n/\n<=100/\0<=m/\m<=100/\
 ∀l es row H',H l=none->H' l=some (.lst es)->jm H' es row->Good n row->(row.length:Int)<=m->bo H' p (c+300)->aL p H H'->Q (.ref l) H'
structure Ov(P:P0)(w:P4)(K:W.Frag)(mg:Str->Option PX)(base:Qd):Prop extends T1 mg K where
 az:FnAt P w K mg base "_law_take" 1 ["_law_purse_here","_law_many"] mV
 ic:mg "min" =none
 qe:mg "max" =none
section
variable{P:P0}{w:P4}{K:W.Frag}{mg:Str->Option PX}{base:Qd}
theorem dR:aE ["_law_purse_here","_law_n","_law_most","_law_found","_law_near","_law_k","_law_one","_law_other"] ["_law_purse_here","_law_n","_law_most"] (av (top 118)):=⟨rfl,rfl,rfl,by decide+kernel,rfl,by decide+kernel,by decide+kernel⟩
theorem JN{f:PY}{fd:Qc}(F:dU K "_law_row" "_law_row" (top 118) f fd)(T:Ov P w K mg base):aQ P w K mg base i4 2 f fd ["_law_purse_here","_law_n","_law_most"] Gv:=by
 refine F.ok dR (fun vs H Q E h=>?_) (fun cdv A outer s H vs Q E hr h=>?_)
 .obtain⟨p,c,n,m,rfl,_⟩:=h
  rfl
 .obtain⟨p,c,n,m,rfl,pu,hc,hn,hn2,hm,hm2,k⟩:=h
  refine⟨_,(ag (aC (i:=3) dR.nd rfl (Or.inl rfl) (bH ae))
   (ag (aN (aw BA (pv 1) aj (aB _)) (ah (ay (pv 3))) ax)
   (ag (aC (i:=4) dR.nd rfl (Or.inl rfl) (bC (aJ (K:=K) rfl) (bH (@aa _ _ _ _ _ (pv 1) (@aa _ _ _ _ _ (pv 1) (@aa _ _ _ _ _ (ar (lP rfl) rfl T.ic (by decide+kernel) (aa (pv 1) (aa aj ae))) ae cU) bA) bA)) (aq T.az (hr.mono (by first|decide|lia)) rfl (aa (pv 0) (aa aj ae))) (fun _ _=>rfl)))
   (ag (cP PassesOwn.never rfl (jj rfl T.cS (aa (aq T.az (hr.mono (by first|decide|lia)) rfl (aa (pv 0) (aa (aG bG (pv 2) aj) ae))) ae)) (aA (i:=5) dR.nd rfl (Or.inl rfl)) (ag (aC (i:=6) dR.nd rfl (Or.inl rfl) (aG bG aj (aq T.az (hr.mono (by first|decide|lia)) rfl (aa (pv 0) (aa (pv 4) ae)))))
   (ag (aC (i:=7) dR.nd rfl (Or.inl rfl) (aG bG aj (aG h7 (aG bG (pv 6) (aq T.az (hr.mono (by first|decide|lia)) rfl (aa (pv 0) (aa (aG ku (pv 1) aj) ae)))) (pv 1))))
   (ah (cj (aP (K:=K) rfl PySem.F.plainAttrs_list PySem.F.slot_list_append PySem.F.type_list_append c8 (pv 3) (aa (EU (aa (ar (lP rfl) rfl T.ic (by decide+kernel) (aa (pv 6) (aa (pv 7) ae))) (aa (ar (oR rfl) rfl T.qe (by decide+kernel) (aa (pv 6) (aa (pv 7) ae))) ae))) ae)))))))
   (ah (ay (pv 3))))))),?_⟩
  refine⟨PQ _,fun l hl=>?_⟩;have npl:p≠l:=by obtain⟨_,e⟩:=pu.at;exact au e hl
  refine⟨_,rfl,_,_,rfl,rfl,_,rfl,cg (fun c2=>?_) (fun c2=>?_)⟩
  .exact⟨_,rfl,k l [] [] _ hl af .nil yt (by simpa using hm) ((pu.upd npl).mono (by lia) (by lia)) (aL.new hl)⟩
  .have c2:2<=n:=by simpa using c2
   refine⟨_,rfl,_,rfl,_,rfl,_,_,rfl,(by show 3<=P6;decide),fun l2 hl2=>?_⟩;have np2:p≠l2:=by obtain⟨_,e⟩:=(pu.upd npl (o:= .lst [])).at;exact au e hl2
   have nl2:l≠l2:=by intro z;subst z;rw[af]at hl2;cases hl2
   refine⟨_,rfl,p,c,3,rfl,(pu.upd npl).upd np2,by lia,by decide,by decide,fun r H1 r0 r1 pu1 s1=>?_⟩;obtain⟨near,hat,q1,q2⟩:=Hy c2 r0 r1;refine⟨l2,_,_,_,rfl,rfl,aI.of (s1 l2 _ np2.symm af),hat,?_⟩;have sa:aL p H H1:=(aL.new hl).trans ((aL.new hl2).trans s1);have hl1:H1 l=some (.lst []):=s1 l _ npl.symm (by rw[ao nl2,af]);refine⟨_,rfl,_,rfl,_,_,rfl,rfl,p,c+1,m+1,rfl,pu1,by lia,by lia,by lia,fun r2 H2 r20 r21 pu2 s2=>⟨r2,rfl,by lia,by lia,?_⟩⟩;refine gX (fun i σ H'=>∃es row v5 v6 v7,σ=[some (.ref p),some (.int n),some (.int m),some (.ref l),some (.int near),v5,v6,v7]/\aL p H H'/\H' l=some (.lst es)/\jm H' es row/\Good n row/\row.length=i/\bo H' p (c+2+2*i))
    ⟨[],[],none,none,none,rfl,sa.trans s2,s2 l _ npl.symm hl1,.nil,yt,rfl,pu2⟩ ?_ ?_
   .rintro i σ H' hi ⟨es,row,v5,v6,v7,rfl,s3,h3,x3,g3,l3,pu3⟩
    have hi2:(i:Int)<r2:=by lia
    refine⟨_,rfl,_,rfl,p,_,near,rfl,pu3,by lia,by lia,by lia,fun r3 H4 r30 r31 pu4 s4=>⟨_,_,rfl,rfl,?_⟩⟩;refine⟨_,rfl,_,rfl,_,rfl,_,_,rfl,rfl,p,_,n-1,rfl,pu4,by lia,by lia,by lia,fun r4 H5 r40 r41 pu5 s5=>⟨_,_,rfl,rfl,_,rfl,_,_,rfl,rfl,(by show(0:Int)<n;lia),_,_,rfl,rfl,?_⟩⟩;have h5:H5 l=some (.lst es):=s5 l _ npl.symm (s4 l _ npl.symm h3);obtain⟨o1,o2,o3⟩:=FN (n:=n) (one:=1+r3) (r:=r4) c2 (by lia) (by lia) r40 r41;refine⟨_,rfl,.inl ⟨rfl,_,aI.of h5⟩,_,rfl,_,rfl,_,_,rfl,_,rfl,_,rfl,_,_,rfl,(by show 2<=P6;decide),fun t ht=>?_⟩;have nlt:l≠t:=au h5 ht;have lx:=x3.length;have npt:p≠t:=by obtain⟨_,e⟩:=pu5.at;exact au e ht
    refine⟨l,_,_,rfl,rfl,(by rw[ao nlt];exact h5),?_,?_⟩
    .have:(100:Nat)<P6:=by decide
     lia
    .refine⟨es++[.ref t],row++[(if 1+(1+r3+r4)%n<1+r3 then 1+(1+r3+r4)%n else 1+r3,if 1+(1+r3+r4)%n>1+r3 then 1+(1+r3+r4)%n else 1+r3)],_,_,_,rfl,?_,af,?_,?_,?_,?_⟩
     .intro b o hb e
      have e5:=s5 b o hb (s4 b o hb (s3 b o hb e));rw[ao (au e hl),ao (au e5 ht)];exact e5
     .refine jm.snoc (jm.keep (fun b xs e=>?_) (aL.OH s5 pu4 (aL.OH s4 pu3 x3))) (by rw[ao (Ne.symm nlt),af])
      rw[ao (Ga e h5 (by intro z;cases z)),ao (au e ht)];exact e
     .refine g3.append fun e he=>?_
      rw[List.mem_singleton.mp he];dsimp only
      split<;>split<;>lia
     .rw[Pg,l3];rfl
     .refine bo.mono ((pu5.upd npt).upd npl) (by lia) (by lia)
   .rintro σ H' ⟨es,row,v5,v6,v7,rfl,s3,h3,x3,g3,l3,pu3⟩
    refine⟨_,rfl,k l es row H' hl h3 x3 g3 (by rw[l3];lia) (pu3.mono (by lia) (by lia)) s3⟩
end
structure TO(P:P0)(w:P4)(K:W.Frag)(mg:Str->Option PX)(base:Qd):Prop extends T1 mg K where
 az:FnAt P w K mg base "_law_take" 1 ["_law_purse_here","_law_many"] mV
section
variable{P:P0}{w:P4}{K:W.Frag}{mg:Str->Option PX}{base:Qd}
theorem bh:aE ["_law_purse_here","_law_n","_law_sort","_law_left","_law_at","_law_some","_law_goals","_law_k","_law_found","_law_one","_law_other"] ["_law_purse_here","_law_n"] (av (top 120)):=⟨rfl,rfl,rfl,by decide+kernel,rfl,by decide+kernel,by decide+kernel⟩
theorem Ey{f:PY}{fd:Qc}(F:dU K "_law_order" "_law_order" (top 120) f fd)(T:TO P w K mg base):aQ P w K mg base i4 3 f fd ["_law_purse_here","_law_n"] Cg:=by
 refine F.ok bh (fun vs H Q E h=>?_) (fun cdv A outer s H vs Q E hr h=>?_)
 .obtain⟨p,c,n,rfl,_⟩:=h
  rfl
 .obtain⟨p,c,n,rfl,pu,hc,hn,hn2,k⟩:=h
  have hu:=pZ hr;refine⟨_,(ag (aC (i:=2) bh.nd rfl (Or.inl rfl) (aq T.az (hr.mono (by first|decide|lia)) rfl (aa (pv 0) (aa aj ae))))
   (ag (aC (i:=3) bh.nd rfl (Or.inr rfl) (aY (t7 rfl) rfl T.wY (by decide+kernel) (aa (aY sY rfl T.cS (by decide+kernel) (aa aj (aa (aG bG (pv 1) aj) ae))) ae)))
   (ag (aN (aw BA (pv 2) aj (aB _)) (ag (aC (i:=8) bh.nd rfl (Or.inl rfl) (bH ae))
   (ag (cP PassesOwn.never rfl (jj rfl T.cS (aa (pv 1) ae)) (aA (i:=7) bh.nd rfl (Or.inl rfl)) (ah (cj (aP (K:=K) rfl PySem.F.plainAttrs_list PySem.F.slot_list_append PySem.F.type_list_append c8 (pv 8) (aa (aP (K:=K) rfl PySem.F.plainAttrs_list PySem.F.slot_list_pop PySem.F.type_list_pop yr (pv 3) (aa (aq T.az (hr.mono (by first|decide|lia)) rfl (aa (pv 0) (aa (ar (aZ (K:=K) rfl) rfl T.bX (by decide+kernel) (aa (pv 3) ae)) ae))) ae)) ae)))))
   (ah (ay (aY (cz (K:=K) rfl) rfl T.gT (by decide+kernel) (aa (pv 8) ae)))))) ax)
   (ag (aN (aw bR (pv 2) aj (aB _)) (ag (cP PassesOwn.never rfl (jj rfl T.cS (aa (aq T.az (hr.mono (by first|decide|lia)) rfl (aa (pv 0) (aa aj ae))) ae)) (aA (i:=7) bh.nd rfl (Or.inl rfl)) (ag (aC (i:=9) bh.nd rfl (Or.inl rfl) (aq T.az (hr.mono (by first|decide|lia)) rfl (aa (pv 0) (aa (pv 1) ae))))
   (ag (aC (i:=10) bh.nd rfl (Or.inl rfl) (aq T.az (hr.mono (by first|decide|lia)) rfl (aa (pv 0) (aa (pv 1) ae))))
   (ah (pJ (EU (aa (bC (aJ (K:=K) rfl) (pv 3) (pv 10) (fun _ _=>rfl)) (aa (bC (aJ (K:=K) rfl) (pv 3) (pv 9) (fun _ _=>rfl)) ae))) (gV (K:=K) (n:=2) rfl rfl (bD (pK (pv 3) (pv 9) set_list) (bD (pK (pv 3) (pv 10) set_list) gS))))))))
   (ah (ay (aY (cz (K:=K) rfl) rfl T.gT (by decide+kernel) (aa (pv 3) ae))))) ax)
   (ag (aC (i:=4) bh.nd rfl (Or.inr rfl) (aq T.az (hr.mono (by first|decide|lia)) rfl (aa (pv 0) (aa (pv 1) ae))))
   (ag (lZ (i:=5) bh.nd rfl rfl (N:=(["_law_k","_law_left","_law_at","_law_purse_here","_law_n"]:List Str)) (ix:=([none,some 3,some 4,some 0,some 1]:List (Option Nat))) (aW rfl rfl) rfl (jj rfl T.cS (aa (pv 1) ae)) (fun _ _ _ _=>(aA (i:=0) (show List.Nodup (["_law_k","_law_left","_law_at","_law_purse_here","_law_n"]:List Str)from by decide+kernel) rfl (Or.inl rfl))) (fun _ _ _ _=>bq) (fun _ _ _ _=>(aP (K:=K) rfl PySem.F.plainAttrs_list PySem.F.slot_list_pop PySem.F.type_list_pop yr (pv 1) (aa (aG h7 (aG bG (pv 2) (aq T.az (hr.mono (by first|decide|lia)) rfl (aa (pv 3) (aa (pv 4) ae)))) (ar (aZ (K:=K) rfl) rfl T.bX (by decide+kernel) (aa (pv 1) ae))) ae))))
   (ag (aC (i:=6) bh.nd rfl (Or.inr rfl) xN)
   (ag (cP PassesOwn.never rfl (jj rfl T.cS (aa (pv 1) ae)) (aA (i:=7) bh.nd rfl (Or.inl rfl)) (ah (mh hu (pv 6) (bC (aJ (K:=K) rfl) (pv 5) (pv 7) (fun _ _=>rfl)) (bC (aJ (K:=K) rfl) (pv 5) (aG h7 (aG bG (pv 7) aj) (pv 1)) (fun _ _=>rfl)) rfl)))
   (ah (ay (aY (cz (K:=K) rfl) rfl T.gT (by decide+kernel) (aa (bU (N:=(["_law_thing","_law_goals"]:List Str)) (ix:=([none,some 6]:List (Option Nat))) (aW rfl rfl) rfl (gY rfl T.cS (aa aj (aa (aG bG (pv 1) aj) ae))) (fun _ _ _ _=>(aA (i:=0) (show List.Nodup (["_law_thing","_law_goals"]:List Str)from by decide+kernel) rfl (Or.inl rfl))) (fun _ _ _ _=>bq) (fun _ _ _ _=>(n5 hu (pv 1) (pv 0) (fun _ _=>rfl)))) ae)))))))))))),?_⟩
  refine⟨_,rfl,p,c,4,rfl,pu,by lia,by decide,by decide,fun r H1 r0 r1 pu1 s1=>?_⟩;refine⟨_,rfl,_,_,rfl,rfl,.inr ⟨_,_,rfl,fun rg hrg=>⟨rg,_,_,rfl,af,by lia,by lia,by lia,by lia,fun l hl=>?_⟩⟩⟩;have sa:aL p H (upd H1 rg (.w9 1 (n+1))):=s1.trans (aL.new hrg);have nl:H l=none:=by
   cases e:H l with
   |none=>rfl
   |some o=>
    by_cases z:l=p
    .obtain⟨xs,e'⟩:=(pu1.upd (pu1.ne hrg) (o:= .w9 1 (n+1))).at
     rw[z,e']at hl;cases hl
    .rw[sa l o z e]at hl
     cases hl
  have pu2:bo (upd (upd H1 rg (.w9 1 (n+1))) l (.lst ((cZ 1 (n+1)).map V.int))) p (c+1):=by
   have p2:=pu1.upd (pu1.ne hrg) (o:= .w9 1 (n+1));exact p2.upd (p2.ne hl)
  have npl:p≠l:=pu.ne nl;have s2:aL p H (upd (upd H1 rg (.w9 1 (n+1))) l (.lst ((cZ 1 (n+1)).map V.int))):=aL.put sa nl;have h2:upd (upd H1 rg (.w9 1 (n+1))) l (.lst ((cZ 1 (n+1)).map V.int)) l=some (.lst ((cZ 1 (n+1)).map V.int)):=af;generalize upd (upd H1 rg (.w9 1 (n+1))) l (.lst ((cZ 1 (n+1)).map V.int))=H2 at pu2 s2 h2⊢;clear sa s1 pu1 hl hrg;have big:(100000:Nat)<=P6:=by decide
  refine⟨_,rfl,_,_,rfl,rfl,_,rfl,cg (fun _=>?_) (fun _=>?_)⟩
  ·
   refine⟨PQ _,fun lf hlf=>?_⟩;have nlf:l≠lf:=au h2 hlf;have npf:p≠lf:=pu2.ne hlf;have hf:H lf=none:=eF s2 npf hlf;refine⟨_,rfl,_,rfl,by lia,by lia,?_⟩;refine gX (fun i σ H'=>∃fs ls v4 v5 v6 v7 v9 v10,σ=[some (.ref p),some (.int n),some (.int r),some (.ref l),v4,v5,v6,v7,some (.ref lf),v9,v10]/\aL p H H'/\H' l=some (.lst (ls.map V.int))/\H' lf=some (.lst (fs.map V.int))/\fs.length=i/\Ord n (fs++ls)/\bo H' p (c+1+i))
    ⟨[],cZ 1 (n+1),_,_,_,_,_,_,rfl,aL.put s2 hf,by rw[ao nlf];exact h2,af,rfl,jn n,pu2.upd npf⟩ ?_ ?_
   .rintro i σ H' hi ⟨fs,ls,v4,v5,v6,v7,v9,v10,rfl,s3,hl,hF,fl,o,pu3⟩
    have ol:=o.length;rw[Pg]at ol;refine⟨_,rfl,.inl ⟨rfl,_,aI.of hF⟩,_,rfl,.inl ⟨rfl,_,aI.of hl⟩,_,rfl,_,rfl,l,_,rfl,.inl (aI.of hl),?_⟩;refine⟨p,_,_,rfl,pu3,by lia,by rw[Pe];lia,by rw[Pe];lia,fun r3 H4 r30 r31 pu4 s4=>?_⟩;rw[Pe]at r31;obtain⟨y,hy⟩:=o5 (ns:=ls) (k:=r3.toNat) (by lia);have hl4:=s4 l _ npl.symm hl;have hF4:=s4 lf _ npf.symm hF;refine⟨l,_,r3,r3.toNat,_,rfl,rfl,hl4,by lia,by lia,(qN (sA r30 (by rw[Pe];exact r31))).1,B1 hy,?_⟩;refine⟨lf,fs.map V.int,_,rfl,rfl,by rw[ao nlf.symm];exact hF4,by rw[Pe];lia,?_⟩;refine⟨fs++[y],ls.eraseIdx r3.toNat,v4,v5,v6,_,v9,v10,rfl,aL.put (aL.put (s3.trans s4) nl) hf,?_,?_,?_,zi o hy,?_⟩
    .rw[ao nlf,af,nY]
    .rw[af,Pj];rfl
    .rw[Pg,fl];rfl
    .exact(pu4.upd npl).upd npf
   .rintro σ H' ⟨fs,ls,v4,v5,v6,v7,v9,v10,rfl,s3,hl,hF,fl,o,pu3⟩
    have ol:=o.length;rw[Pg]at ol;have:ls=[]:=List.length_eq_zero_iff.mp (by lia);subst this;rw[PD]at o;refine⟨_,rfl,lf,_,rfl,.inl ⟨aI.of hF,fun t ht=>?_⟩⟩;have npt:p≠t:=pu3.ne ht;exact k t fs _ (eF s3 npt ht) af o ((pu3.upd npt).mono (by lia) (by lia)) (aL.put s3 (eF s3 npt ht))
  .refine⟨_,rfl,rfl,_,rfl,cg (fun _=>?_) (fun _=>?_)⟩
   ·
    refine⟨_,rfl,p,c+1,4,rfl,pu2,by lia,by decide,by decide,fun r2 H3 r20 r21 pu3 s3=>⟨_,rfl,by lia,by lia,?_⟩⟩;refine gX (fun i σ H'=>∃ls v4 v5 v6 v7 v8 v9 v10,σ=[some (.ref p),some (.int n),some (.int r),some (.ref l),v4,v5,v6,v7,v8,v9,v10]/\aL p H H'/\H' l=some (.lst (ls.map V.int))/\Ord n ls/\bo H' p (c+2+2*i))
     ⟨cZ 1 (n+1),_,_,_,_,_,_,_,rfl,s2.trans s3,s3 l _ npl.symm h2,jn n,pu3⟩ ?_ ?_
    .rintro i σ H' hi ⟨ls,v4,v5,v6,v7,v8,v9,v10,rfl,s4,hl,o,pu4⟩
     have ol:=o.length;refine⟨_,rfl,_,rfl,p,_,_,rfl,pu4,by lia,by lia,by lia,fun a H5 a0 a1 pu5 s5=>?_⟩;refine⟨_,rfl,_,rfl,p,_,_,rfl,pu5,by lia,by lia,by lia,fun b H6 b0 b1 pu6 s6=>?_⟩;have hl6:=s6 l _ npl.symm (s5 l _ npl.symm hl);obtain⟨x,hx⟩:=o5 (ns:=ls) (k:=a.toNat) (by lia);obtain⟨y,hy⟩:=o5 (ns:=ls) (k:=b.toNat) (by lia);refine⟨_,rfl,_,rfl,l,_,_,_,rfl,rfl,aI.of hl6,jC b0 hy,_,rfl,_,rfl,l,_,_,_,rfl,rfl,aI.of hl6,jC a0 hx,(by show 2<=P6;decide),fun t ht=>?_⟩;have nlt:l≠t:=au hl6 ht;have npt:p≠t:=pu6.ne ht;refine⟨t,_,rfl,gL.of af,rfl,_,_,rfl,_,rfl,_,rfl,l,_,_,a.toNat,rfl,rfl,(by rw[ao nlt];exact hl6),sA a0 (by rw[Pe];lia),?_⟩;refine⟨_,_,rfl,_,rfl,_,rfl,l,_,_,b.toNat,rfl,rfl,af,sA b0 (by rw[List.length_set,Pe];lia),rfl,?_⟩;refine⟨(ls.set a.toNat y).set b.toNat x,v4,v5,v6,_,v8,_,_,rfl,aL.put (aL.put (aL.put (s4.trans (s5.trans s6)) (eF (s4.trans (s5.trans s6)) npt ht)) nl) nl,?_,swap_perm o hx hy,?_⟩
     .rw[af,List.map_set,List.map_set]
     .exact((((pu6.upd npt).upd npl).upd npl)).mono (by lia) (by lia)
    .rintro σ H' ⟨ls,v4,v5,v6,v7,v8,v9,v10,rfl,s4,hl,o,pu4⟩
     refine⟨_,rfl,l,_,rfl,.inl ⟨aI.of hl,fun t ht=>?_⟩⟩;have npt:p≠t:=pu4.ne ht;exact k t ls _ (eF s4 npt ht) af o ((pu4.upd npt).mono (by lia) (by lia)) (aL.put s4 (eF s4 npt ht))
   ·
    refine⟨_,rfl,_,rfl,p,_,_,rfl,pu2,by lia,by lia,by lia,fun a H3 a0 a1 pu3 s3=>?_⟩;have hl3:=s3 l _ npl.symm h2;refine⟨_,rfl,_,rfl,by lia,by lia,ye (k:=0) (fun i ys σ' H'=>∃fs ls v,ys=fs.map V.int/\σ'=[v,some (.ref l),some (.int a),some (.ref p),some (.int n)]/\aL p H H'/\H' l=some (.lst (ls.map V.int))/\fs.length=i/\Ord n (fs++ls)/\bo H' p (c+2+i)) (by lia)
     ⟨[],cZ 1 (n+1),none,rfl,rfl,s2.trans s3,hl3,rfl,jn n,pu3⟩ (fun i ys σ' H' ⟨fs,_,_,e,_,_,_,e2,_⟩=>by rw[e,Pe,e2];exact PK _) ?_ ?_⟩
    .rintro i ys σ' H' R hi ⟨fs,ls,v,rfl,rfl,s4,hl,fl,o,pu4⟩ done
     have ol:=o.length;rw[Pg]at ol;refine⟨_,rfl,.inl ⟨rfl,_,aI.of hl⟩,_,rfl,_,rfl,_,rfl,p,_,_,rfl,pu4,by lia,by lia,by lia,fun r3 H5 r30 r31 pu5 s5=>?_⟩;have hl5:=s5 l _ npl.symm hl;have lpos:(0:Int)<((ls.map V.int).length:Int):=by rw[Pe];lia
     refine⟨_,_,rfl,rfl,_,rfl,l,_,rfl,.inl (aI.of hl5),_,_,rfl,rfl,lpos,?_⟩;have m0:=Int.emod_nonneg (a+r3) (Int.ne_of_gt lpos);have m1:=Int.emod_lt_of_pos (a+r3) lpos;obtain⟨m,em⟩:∃m,(a+r3)%((ls.map V.int).length:Int)=m:=⟨_,rfl⟩;rw[em]at m0 m1;obtain⟨y,hy⟩:=o5 (ns:=ls) (k:=m.toNat) (by rw[Pe]at m1;lia);refine⟨l,_,m,m.toNat,_,rfl,(by rw[←em]),hl5,by lia,(by rw[Pe]at m1;lia),(qN (sA m0 m1)).1,B1 hy,done _ _ _ ?_⟩;refine⟨fs++[y],ls.eraseIdx m.toNat,_,by rw[Pj];rfl,rfl,aL.put (s4.trans s5) nl,?_,?_,zi o hy,pu5.upd npl⟩
     .rw[af,nY]
     .rw[Pg,fl];rfl
    .rintro ys σ' H' ps ⟨fs,ls,v,rfl,rfl,s4,hl,fl,o,pu4⟩ hps
     have ol:=o.length;rw[Pg]at ol;have:ls=[]:=List.length_eq_zero_iff.mp (by lia);subst this;rw[PD]at o;have np1:p≠ps:=pu4.ne hps;have f1:H ps=none:=eF s4 np1 hps;have s5:=aL.put s4 f1 (o:= .lst (fs.map V.int));have pu5:=pu4.upd np1 (o:= .lst (fs.map V.int));have h5:upd H' ps (.lst (fs.map V.int)) ps=some (.lst (fs.map V.int)):=af;generalize upd H' ps (.lst (fs.map V.int))=H5 at s5 pu5 h5⊢;refine fun pd hpd=>?_;have np2:p≠pd:=pu5.ne hpd;have f2:H pd=none:=eF s5 np2 hpd;have n12:ps≠pd:=au h5 hpd;have nz:∀{i:Nat}{x:Int},fs[i]?=some x->xK fs x=fs.getD ((i+1)%fs.length) 0:=fun h=>A6 o.nodup h;refine⟨_,rfl,_,rfl,by lia,by lia,?_⟩;refine gX (fun i σ H'=>∃kvs v7 v8 v9 v10,σ=[some (.ref p),some (.int n),some (.int r),some (.ref l),some (.int a),some (.ref ps),some (.ref pd),v7,v8,v9,v10]/\aL p H H'/\H' ps=some (.lst (fs.map V.int))/\H' pd=some (.dK kvs)/\kvs.length<=i/\(∀j x,j<i->fs[j]?=some x->cQ kvs (Sum.inl x:Key)=some (.int (xK fs x)))/\bo H' p (c+200))
      ⟨[],_,_,_,_,rfl,aL.put s5 f2,by rw[ao n12];exact h5,af,PK _,fun j x h=>absurd h (Nat.not_lt_zero _),(pu5.upd np2).mono (by lia) (by lia)⟩ ?_ ?_
     .rintro i σ H' hi ⟨kvs,v7,v8,v9,v10,rfl,s6,h6,hd6,kl,kv,pu6⟩
      obtain⟨x,hx⟩:=o5 (ns:=fs) (k:=i) (by lia);have lpos:(0:Int)<n:=by lia
      have fln:(fs.length:Int)=n:=by lia
      have ei:((i:Int)+1)%n=(((i+1)%fs.length:Nat):Int):=by rw[←fln];rfl
      obtain⟨y,hy⟩:=o5 (ns:=fs) (k:=(i+1)%fs.length) (Nat.mod_lt _ (by lia));have hy':fs[(((i:Int)+1)%n).toNat]?=some y:=by rw[ei,Int.toNat_natCast];exact hy
      have hx':fs[(0+(i:Int)).toNat]?=some x:=by rw[Int.zero_add,Int.toNat_natCast];exact hx
      have ny:xK fs x=y:=by rw[nz hx,Pq,hy];rfl
      refine⟨_,rfl,_,rfl,_,_,rfl,rfl,_,rfl,_,_,rfl,rfl,lpos,ps,_,_,_,rfl,rfl,aI.of h6,jC (Int.emod_nonneg _ (by lia)) (by rw[Int.zero_add];exact hy'),?_⟩;refine⟨_,rfl,_,rfl,_,rfl,ps,_,_,_,rfl,rfl,aI.of h6,jC (by lia) hx',pd,_,rfl,Dk.k (k:=Sum.inl x) hd6 (by lia),?_⟩;refine⟨putK kvs (Sum.inl x) (.int y),_,v8,v9,v10,rfl,aL.put s6 f2,by rw[ao n12];exact h6,af,?_,?_,pu6.upd np2⟩
      .have:=iJ kvs (Sum.inl x:Key) (.int y)
       lia
      .intro j z hj hz
       rw[F5];by_cases e:z=x
       .subst e
        rw[if_pos rfl,ny]
       .rw[if_neg (by intro q;apply e;cases q;rfl)]
        have:j≠i:=by intro q;subst q;rw[hx]at hz;cases hz;exact e rfl
        exact kv j z (by lia) hz
     .rintro σ H' ⟨kvs,v7,v8,v9,v10,rfl,s6,h6,hd6,kl,kv,pu6⟩
      refine⟨_,rfl,_,_,rfl,rfl,1,n+1,rfl,⟨by decide,by decide,by lia,by lia⟩,ye (k:=0) (fun i ys σ' H''=>ys=((cZ 1 (n+1)).take i).map (fun x=>V.int (xK fs x))/\(∃v,σ'=[v,some (.ref pd)])/\H''=H') (by lia) ⟨rfl,⟨none,rfl⟩,rfl⟩
       (fun i ys σ' H'' q=>by rw[q.1,Pe,Pn];lia) ?_ ?_⟩
      .rintro i ys σ' H'' R hi ⟨rfl,⟨v,rfl⟩,rfl⟩ done
       have hin:1+(i:Int)∈fs:=o.mem.mpr (by lia);obtain⟨j,hj,hj2⟩:=Ks hin;refine⟨_,rfl,_,rfl,pd,.int (xK fs (1+(i:Int))),rfl,?_,done _ _ _ ⟨?_,⟨_,rfl⟩,rfl⟩⟩
       .have q:=kU.k (k:=(Sum.inl (1+(i:Int)):Key)) hd6
        rw[kv j _ (by lia) hj]at q;exact q
       .exact(aR (fun x=>V.int (xK fs x)) (eD hi)).symm
      .rintro ys σ' H'' pl ⟨rfl,_,rfl⟩ hpl
       have np3:p≠pl:=pu6.ne hpl;have f3:=eF s6 np3 hpl;refine⟨pl,_,rfl,.inl ⟨aI.of af,fun t ht=>?_⟩⟩;have pu7:=pu6.upd np3 (o:= .lst (((cZ 1 (n+1)).take (n+1-1).toNat).map (fun x=>V.int (xK fs x))));have s7:=aL.put s6 f3 (o:= .lst (((cZ 1 (n+1)).take (n+1-1).toNat).map (fun x=>V.int (xK fs x))));have npt:p≠t:=pu7.ne ht;refine k t ((cZ 1 (n+1)).map (xK fs)) _ (eF s7 npt ht) ?_ (IB o) ((pu7.upd npt).mono (by lia) (by lia)) (aL.put s7 (eF s7 npt ht));rw[af,Pp,Pw (by rw[aO];exact PK _)];rfl
end
end Sw
namespace L2
open PySem PySem.Spec PyProof.Rows
section
variable{X:Cx}{K:W.Frag}
def Ij:V->List V->Hp->VK->Prop:=fun x vs H Q=>∃(t:PY)(bs:List Bool)(b:Bool)(j:Nat),x= .ref t/\vs=[.bl b]/\H t=some (.lst (bs.map V.bl))/\bs[j]?=some b/\(∀m,m<j->bs[m]?≠some b)/\Q (.int (j:Int)) H
theorem Dt:As X "list.index" Ij:=by
 intro pins s σ H x vs v us Q I rx rv h;obtain⟨l,bs,b,j,rfl,rfl,hH,hj,hno,q⟩:=h;cases rx;obtain⟨u,rfl,ru⟩:=rv.one;cases(show u=PX.bool b from ru);obtain⟨z,its,n,r,hl,e⟩:=I.sF hH;have eq:=jE r;subst eq;have jl:j<(bs.map PX.bool).length:=by
  rw[Pe];exact(List.getElem?_eq_some_iff.mp hj).1
 have sz:(bs.map PX.bool).length<=P6:=by have:=r.length;lia
 refine call_meets F.slot_list_index ⟨_,e,rfl⟩ F.entry_list_index (F.args_list_index_2 _ _) (MeetsSeq.list_index l (bs.map PX.bool).toArray n (.bool b) (fun y=>y== .bool b) (fun y hy=>?_) j (by simpa using jl) ?_ ?_ ?_) ⟨e,?_⟩
 .obtain⟨c,_,rfl⟩:=List.mem_map.mp (Array.mem_def.mp hy)
  have:((PX.bool c==PX.bool b):Bool)=(c==b):=by cases c<;>cases b<;>rfl
  rw[this];exact fun prog w A E s Q hq=>(SeqAt.EqAt.bool_bool (A:=A) (s:=s) c b) prog w E Q hq
 .have:P6<2^63-1:=by decide
  lia
 .obtain⟨h1,h2⟩:=List.getElem?_eq_some_iff.mp hj
  simp[h2]
 .intro m hm lt
  have:=hno m lt;have hm':m<bs.length:=by simpa using hm
  rw[Ph hm']at this;simp;intro z;apply this;generalize bs[m]=c at z⊢;revert z;cases c<;>cases b<;>intro z<;>first|rfl|cases z
 .exact⟨.int (j:Int),H,I.tok _,⟨_,rfl⟩,q⟩
end
section
variable{X:Cx}{K:W.Frag}
def HU:V->List V->Hp->VK->Prop:=fun x vs H Q=>∃(t:PY)(ts:List Str)(w:Str)(j:Nat),x= .ref t/\vs=[.str w]/\H t=some (.lst (ts.map V.str))/\ts[j]?=some w/\(∀m,m<j->ts[m]?≠some w)/\Q (.int (j:Int)) H
theorem pE:As X "list.index" HU:=by
 intro pins s σ H x vs v us Q I rx rv h;obtain⟨l,ts,w,j,rfl,rfl,hH,hj,hno,q⟩:=h;cases rx;obtain⟨u,rfl,ru⟩:=rv.one;obtain⟨tk,rfl⟩:=ru;obtain⟨z,its,n,r,hl,e⟩:=I.sF hH;have at_:∀m(hm:m<its.toArray.size),∃(z:Str)(t:Tok),its.toArray[m]= .str z t/\ts[m]?=some z:=fun m hm=>by
  have hm1:m<its.length:=by simpa using hm
  have hm2:m<(ts.map V.str).length:=by have:=r.length;lia
  obtain⟨u,hu',ru⟩:=r.get (Ph hm2);rw[Ph hm1]at hu';have hm3:m<ts.length:=by rw[Pe]at hm2;exact hm2
  rw[List.getElem_map]at ru;obtain⟨t,ht⟩:=ru;refine⟨ts[m],t,?_,Ph hm3⟩;rw[List.getElem_toArray,PU hu',ht]
 have jl:j<its.length:=by
  have:=r.length;rw[Pe]at this;have:=(List.getElem?_eq_some_iff.mp hj).1;lia
 have sz:its.length<=P6:=by lia
 refine call_meets F.slot_list_index ⟨_,e,rfl⟩ F.entry_list_index (F.args_list_index_2 _ _) (MeetsSeq.list_index l its.toArray n (.str w tk) (fun y=>match y with| .str z _=>z.cps.toList==w.cps.toList|_=>false) (fun y hy=>?_) j (by simpa using jl) ?_ ?_ ?_) ⟨e,?_⟩
 .obtain⟨m,hm,rfl⟩:=Array.mem_iff_getElem.mp hy
  obtain⟨z,tk',e1,e2⟩:=at_ m hm
  rw[e1];exact SeqRoads2.EqGives.str z w tk' tk
 .have:P6<2^63-1:=by decide
  lia
 .obtain⟨z,tk',e1,e2⟩:=at_ j (by simpa using jl)
  rw[e1];rw[hj]at e2;cases e2;simp
 .intro m hm lt
  obtain⟨z,tk',e1,e2⟩:=at_ m hm
  rw[e1];have:=hno m lt;rw[e2]at this;exact beq_eq_false_iff_ne.mpr fun z'=>this (by rw[Str.ext' (Array.toList_inj.mp z')])
 .exact⟨.int (j:Int),H,I.tok _,⟨_,rfl⟩,q⟩
def Mb:V->List V->Hp->VK->Prop:=fun x vs H Q=>∃(z y:Str),x= .str z/\vs=[.str y]/\(y.length==0)=false/\z.length<=P6/\∀l,H l=none->Q (.ref l) (upd H l (.tup [.str (Txt.partition z y).1,.str (Txt.partition z y).2.1,.str (Txt.partition z y).2.2]))
theorem wB:As X "str.partition" Mb:=by
 intro pins s σ H x vs v us Q I rx rv h;obtain⟨z,y,rfl,rfl,hy,hz,q⟩:=h;obtain⟨t,rfl⟩:=rx;obtain⟨u,rfl,t',rfl⟩:=rv.one;have key:∀(a b c:Str)(ta tb tc:Tok)(tk:Nat),Txt.partition z y=(a,b,c)->EP X pins σ Q (.ref s.heap.objs.size) {s with toks:=tk,heap:=s.heap.push {cls:= .type "tuple",data:= .seq #[.str a ta,.str b tb,.str c tc]}}:=fun a b c ta tb tc tk e=>by
  rw[e]at q;refine⟨.ref s.heap.objs.size,_,I.laid (o:= .tup [.str a,.str b,.str c]) (fun b o e=>Qd.get?_push_of_some _ e) (PK _) ?_,rfl,q _ (I.aX.fresh (PK _))⟩;exact⟨(by show 3<=P6;decide),[.str a ta,.str b tb,.str c tc],Paired.cons ⟨_,rfl⟩ (Paired.cons ⟨_,rfl⟩ (Paired.cons ⟨_,rfl⟩ Paired.nil)),IsTup.new s.heap #[.str a ta,.str b tb,.str c tc]⟩
 refine call_meets F.slot_str_partition (typeIs_str _ _ _) F.entry_str_partition (F.args_str_partition_2 _ _) (meets_str_partition z y t t' hy hz) ?_
 cases ho:Qi.Str.occurrences z y 0 z.length 1 with
 |nil=>exact key _ _ _ _ _ _ _ (by unfold Txt.partition;rw[ho])
 |cons i tl=>exact key _ _ _ _ _ _ _ (by unfold Txt.partition;rw[ho])
end
end L2
namespace Sw
open PySem L2
def Jn:Sp:=fun vs H Q _=>∃(n:Int)(x:Str),vs=[.int n,.str x]/\1<=n/\n<=12/\x.length<=990/\32∉signs x/\∀b:Bool,(b=true↔∃R,lg n (.str (bl x)) R)->∀H',ai H H'->Q (.bl b) H'
structure Oh(mg:Str->Option PX)(K:W.Frag):Prop extends T1 mg K where
 di:mg "str" =none
theorem E1{x:Str}(h:32∉signs x):Txt.contains x (Pd " ")=false:=by
 rw[Ko];unfold Txt.contains;rw[StrLaws.found_one];exact decide_eq_false h
section
variable{P:P0}{w:P4}{K:W.Frag}{mg:Str->Option PX}{base:Qd}
theorem cw:aE ["_law_n","_law_word","_law_things","_law_part","_law_one","_law_line","_law_other"] ["_law_n","_law_word"] (av (top 126)):=⟨rfl,rfl,rfl,by decide+kernel,rfl,by decide+kernel,by decide+kernel⟩
theorem De{f:PY}{fd:Qc}(F:dU K "_law_is_row" "_law_is_row" (top 126) f fd)(T:Oh mg K):aQ P w K mg base i4 2 f fd ["_law_n","_law_word"] Jn:=by
 refine F.ok cw (fun vs H Q E h=>?_) (fun cdv A outer s H vs Q E hr h=>?_)
 .obtain⟨n,x,rfl,_⟩:=h
  rfl
 .obtain⟨n,x,rfl,n1,n2,xl,nb,k⟩:=h
  refine⟨_,(ag (lZ (i:=2) cw.nd rfl rfl (N:=(["_law_k"]:List Str)) (ix:=([none]:List (Option Nat))) (aW rfl rfl) rfl (gY rfl T.cS (aa aj (aa (aG bG (pv 0) aj) ae))) (fun _ _ _ _=>(aA (i:=0) (show List.Nodup (["_law_k"]:List Str)from by decide+kernel) rfl (Or.inl rfl))) (fun _ _ _ _=>bq) (fun _ _ _ _=>(aY cH rfl T.di (by decide+kernel) (aa (pv 0) ae))))
   (ag (aN (aw bR (pv 1) ak (aB _)) (ah (ay eT)) ax)
   (ag (aN (PW.pt (fu (aw qo (ar (aZ (K:=K) rfl) rfl T.bX (by decide+kernel) (aa (aP (K:=K) rfl PySem.F.plainAttrs_str PySem.F.slot_str_split PySem.F.type_str_split ck (pv 1) (aa ak ae)) ae)) aj (aB _)) (dG (aw ES ak (pv 1) rfl)))) (ah (ay eT)) ax)
   (ag (cP PassesOwn.never rfl (aV (K:=K) rfl (aP (K:=K) rfl PySem.F.plainAttrs_str PySem.F.slot_str_split PySem.F.type_str_split ck (pv 1) (aa ak ae))) (aA (i:=3) cw.nd rfl (Or.inl rfl)) (ag (pJ (aP (K:=K) rfl PySem.F.plainAttrs_str PySem.F.slot_str_partition PySem.F.type_str_partition wB (pv 3) (aa ak ae)) (gV (K:=K) (n:=3) rfl rfl (bD (aA (i:=4) cw.nd rfl (Or.inl rfl)) (bD (aA (i:=5) cw.nd rfl (Or.inl rfl)) (bD (aA (i:=6) cw.nd rfl (Or.inl rfl)) gS)))))
   (ah (aN (PW.pt (fu (aw (lV (K:=K) rfl) (pv 4) (pv 2) rfl) (fu (aw (lV (K:=K) rfl) (pv 6) (pv 2) rfl) (dG (aw Ji (aP (K:=K) rfl PySem.F.plainAttrs_list PySem.F.slot_list_index PySem.F.type_list_index pE (pv 2) (aa (pv 4) ae)) (aP (K:=K) rfl PySem.F.plainAttrs_list PySem.F.slot_list_index PySem.F.type_list_index pE (pv 2) (aa (pv 6) ae)) (aB _)))))) (ah (ay eT)) ax))))
   (ah (ay eT)))))),?_⟩
  have big:(10000000:Nat)<=P6:=by decide
  have rw_:=fun R=>N6 (n:=n) (w:=x) (R:=R) nb;have yes:∀R,x=eJ R->Good n R->R.length<=60->∀H',ai H H'->Q (.bl true) H':=fun R e g l H' s'=>k true ⟨fun _=>⟨R,(rw_ R).mpr ⟨e,g,l⟩⟩,fun _=>rfl⟩ H' s';have no:(∀R,x=eJ R->Good n R->R.length<=60->False)->∀H',ai H H'->Q (.bl false) H':=fun h H' s'=>k false ⟨(fun z=>by cases z),fun⟨R,z⟩=>((h R ((rw_ R).mp z).1 ((rw_ R).mp z).2.1 ((rw_ R).mp z).2.2).elim)⟩ H' s';clear rw_ k;refine⟨_,rfl,_,_,rfl,rfl,1,n+1,rfl,⟨by decide,by decide,by lia,by lia⟩,ye (k:=0) (fun i ys σ' H'=>ys=(((cZ 1 (n+1)).take i).map aF).map V.str/\(∃v,σ'=[v])/\H'=H) (by lia) ⟨rfl,⟨none,rfl⟩,rfl⟩ (fun i ys σ' H' q=>by rw[q.1,Pe,Pe,Pn];lia) ?_ ?_⟩
  .rintro i ys σ' H' R hi ⟨rfl,⟨v0,rfl⟩,rfl⟩ done
   refine⟨_,rfl,1+(i:Int),rfl,c7 (by lia) (by lia),done _ _ _ ⟨?_,⟨_,rfl⟩,rfl⟩⟩;rw[aR aF (eD (lo:=1) (hi:=n+1) (i:=i) hi),Pj];rfl
  rintro ys σ' H' lw ⟨rfl,⟨v0,rfl⟩,e0⟩ flw;have e0:=e0.symm;subst e0;rw[Pw (by rw[aO];exact PK _)];rw[show(cZ 1 (n+1)).map aF=wn n from rfl];have s1:ai H (upd H lw (.lst ((wn n).map V.str))):=ai.new flw;have hw1:upd H lw (.lst ((wn n).map V.str)) lw=some (.lst ((wn n).map V.str)):=af;generalize upd H lw (.lst ((wn n).map V.str))=H1 at s1 hw1⊢;refine⟨_,rfl,rfl,_,rfl,cg (fun c=>?_) (fun c=>?_)⟩
  .have c:x=Pd "none" :=by
    have:=of_decide_eq_true c;injection this
   exact yes [] (by rw[c];rfl) (fun e h=>absurd h PB) (PQ _) _ s1
  have nn:x≠Pd "none" :=by
   intro z;exact c (decide_eq_true (by rw[z]))
  have nf:∀R,x=eJ R->Good n R->R.length<=60->Txt.split x (Pd ",")=R.map gA:=fun R e g l=>by
   rw[e];exact A1 (fun z=>nn (by rw[e,z];rfl)) fun e he=>by have:=g e he;lia
  have wl:=split_le x (Pd ",");have wp:∀z∈Txt.split x (Pd ","),z.length<=x.length:=fun z hz=>bO hz;have fin:∀R,Txt.split x (Pd ",")=R.map gA->x=eJ R:=fun R e=>tY e;refine⟨_,rfl,rfl,_,_,rfl,rfl,by decide+kernel,by lia,fun l1 f1=>⟨l1,_,rfl,.inl (aI.of af),_,_,rfl,rfl,_,rfl,?_⟩⟩;generalize hws:Txt.split x (Pd ",")=ws at wl wp fin nf⊢;have s2:ai H1 (upd H1 l1 (.lst (ws.map V.str))):=ai.new f1;generalize upd H1 l1 (.lst (ws.map V.str))=H2 at s2⊢;refine cg (fun c=>?_) (fun c=>?_)
  .refine no (fun R e g l=>?_) H2 (s1.trans s2)
   have e:=nf R e g l;have c:=of_decide_eq_true c;rw[e,Pe,Pe]at c;lia
  have w60:ws.length<=60:=by
   have:¬((ws.map V.str).length:Int)>60:=fun z=>c (decide_eq_true z);rw[Pe]at this;lia
  refine⟨_,rfl,_,_,rfl,rfl,_,rfl,?_⟩;rw[E1 nb];have b2:=s1.trans s2;refine⟨_,rfl,rfl,_,_,rfl,rfl,by decide+kernel,by lia,fun l2 f2=>⟨l2,rfl,⟨_,aI.of af⟩,?_⟩⟩;rw[hws];have s4:ai H2 (upd H2 l2 (.lst (ws.map V.str))):=ai.new f2;have h4:upd H2 l2 (.lst (ws.map V.str)) l2=some (.lst (ws.map V.str)):=af;generalize upd H2 l2 (.lst (ws.map V.str))=H4 at s4 h4⊢;have b4:=b2.trans s4;have hw4:=s4 _ _ (s2 _ _ hw1);have wll:(ws.map V.str).length=ws.length:=by rw[Pe]
  refine gu (K:=K) (a:=l2) (xs:=ws.map V.str) (fun i σ H'=>∃v4 v5 v6 v7 R,σ=[some (.int n),some (.str x),some (.ref lw),v4,v5,v6,v7]/\ai H4 H'/\Good n R/\R.length=i/\ws.take i=R.map gA) ⟨_,_,_,_,[],rfl,ai.refl _,fun e h=>absurd h PB,rfl,rfl⟩ (fun i σ H' _ q=>by
   obtain⟨_,_,_,_,_,_,sx,_⟩:=q;exact aI.of (sx _ _ h4)) ?_ ?_
  .rintro i z σ H5 hx ⟨v4,v5,v6,v7,R,rfl,sx,g5,rl,tk⟩
   obtain⟨wd,hwd,rfl⟩:∃wd,ws[i]?=some wd/\V.str wd=z:=by
    rw[Pf]at hx
    cases e:ws[i]? with
    |none=>rw[e]at hx;cases hx
    |some e'=>rw[e]at hx;exact⟨e',rfl,PU hx⟩
   have wdl:=wp wd (Pr hwd);have il:=(List.getElem?_eq_some_iff.mp hwd).1;have bad:∀(h:∀a b:Int,1<=a->a<b->b<=n->wd≠gA (a,b)),∀R,x=eJ R->Good n R->R.length<=60->False:=fun h R e g l=>by
    have e:=nf R e g l;rw[e,Pf]at hwd
    cases e2:R[i]? with
    |none=>rw[e2]at hwd;cases hwd
    |some p=>
     rw[e2]at hwd;have gp:=g p (Pr e2);exact h p.1 p.2 gp.1 gp.2.1 gp.2.2 (PU hwd).symm
   refine⟨_,rfl,rfl,_,_,rfl,rfl,by decide+kernel,by lia,fun t ft=>?_⟩;have np:∀{a b:Int},1<=a->1<=b->wd=gA (a,b)->(Txt.partition wd (Pd "-")).1=aF a/\(Txt.partition wd (Pd "-")).2.2=aF b:=fun{a b} ha hb e=>by rw[e,vI (by lia) (by lia)];exact⟨rfl,rfl⟩
   have pe:=fun{a b:Int}(ha:0<=a)(hb:0<=b)=>HJ (w:=wd) ha hb;generalize Txt.partition wd (Pd "-")=pr at np pe ft⊢;obtain⟨w1,w2,w3⟩:=pr;dsimp only at np pe ft⊢;have s6:ai H5 (upd H5 t (.tup [.str w1,.str w2,.str w3])):=ai.new ft;have ht6:upd H5 t (.tup [.str w1,.str w2,.str w3]) t=some (.tup [.str w1,.str w2,.str w3]):=af;generalize upd H5 t (.tup [.str w1,.str w2,.str w3])=H6 at s6 ht6⊢;have sx6:=sx.trans s6;have hw6:=sx6 _ _ hw4;refine⟨t,_,rfl,gL.of ht6,rfl,_,_,rfl,_,_,rfl,_,_,rfl,rfl,?_⟩;refine⟨_,rfl,_,rfl,lw,_,rfl,.inl (aI.of hw6),rfl,l7 _,_,rfl,cg (fun c=>?_) (fun c=>?_)⟩
   .refine no (bad fun a b ha hab hb e=>?_) H6 (b4.trans sx6)
    have:=(np (by lia) (by lia) e).1;rw[iI]at c;have m:w1∈wn n:=oQ.mpr ⟨a,ha,by lia,this⟩;rw[decide_eq_true m]at c;exact absurd c (by decide)
   have m1:w1∈wn n:=by
    rw[iI]at c;by_cases m:w1∈wn n
    .exact m
    .rw[decide_eq_false m]at c;exact absurd rfl c
   refine⟨_,rfl,_,rfl,lw,_,rfl,.inl (aI.of hw6),rfl,l7 _,_,rfl,cg (fun c=>?_) (fun c=>?_)⟩
   .refine no (bad fun a b ha hab hb e=>?_) H6 (b4.trans sx6)
    have:=(np (by lia) (by lia) e).2;rw[iI]at c;have m:w3∈wn n:=oQ.mpr ⟨b,by lia,by lia,this⟩;rw[decide_eq_true m]at c;exact absurd c (by decide)
   have m3:w3∈wn n:=by
    rw[iI]at c;by_cases m:w3∈wn n
    .exact m
    .rw[decide_eq_false m]at c;exact absurd rfl c
   obtain⟨a,a1,a2,rfl⟩:=oQ.mp m1;obtain⟨b,b1,b2',rfl⟩:=oQ.mp m3;obtain⟨ja,na⟩:=Fx a1 a2 (by lia);obtain⟨jb,nb'⟩:=Fx b1 b2' (by lia);have ewd:=pe (a:=a) (b:=b) (by lia) (by lia) rfl rfl;refine⟨_,rfl,.inl ⟨rfl,_,aI.of hw6⟩,_,rfl,lw,_,_,_,rfl,rfl,hw6,ja,na,_,rfl,.inl ⟨rfl,_,aI.of hw6⟩,_,rfl,lw,_,_,_,rfl,rfl,hw6,jb,nb',_,_,rfl,rfl,_,rfl,cg (fun c=>?_) (fun c=>?_)⟩
   .refine no (bad fun a' b' ha hab hb e=>?_) H6 (b4.trans sx6)
    obtain⟨p1,p2⟩:=np (by lia) (by lia) e;have e1:=gU (by lia) (by lia) (by lia) (by lia) p1;have e2:=gU (by lia) (by lia) (by lia) (by lia) p2;have c:=of_decide_eq_true c;lia
   have ab:a<b:=by
    have c:¬(((a-1).toNat:Int)≥((b-1).toNat:Int)):=fun z=>c (decide_eq_true z);lia
   refine⟨_,_,_,_,R++[(a,b)],rfl,sx6,fun e he=>?_,by rw[Pg];show _+1=_;lia,?_⟩
   .rcases List.mem_append.mp he with he|he
    .exact g5 e he
    .rw[List.mem_singleton.mp he];exact⟨a1,ab,b2'⟩
   .rw[PJ,hwd,tk,Pj,ewd]
    rfl
  .rintro σ H5 ⟨v4,v5,v6,v7,R,rfl,sx,g5,rl,tk⟩
   rw[Pw (by lia)]at tk;exact yes R (fin R tk) g5 (by lia) H5 (b4.trans sx)
end
def KB(a b:PY)(H H':Hp):Prop:=∀c o,c≠a->c≠b->H c=some o->H' c=some o
theorem KB.refl {a b:PY}{H:Hp}:KB a b H H:=fun _ _ _ _ e=>e
theorem KB.trans {a b:PY}{H G J:Hp}(h:KB a b H G)(g:KB a b G J):KB a b H J:=fun c o n m e=>g c o n m (h c o n m e)
theorem ai.kb {a b:PY}{H G:Hp}(s:ai H G):KB a b H G:=fun c o _ _ e=>s c o e
theorem KB.one {a b:PY}{H:Hp}{o:HO}:KB a b H (upd H a o):=fun c o' n _ e=>by rw[ao n];exact e
theorem KB.two {a b:PY}{H:Hp}{o:HO}:KB a b H (upd H b o):=fun c o' _ n e=>by rw[ao n];exact e
theorem KB.same {a b:PY}{H G J:Hp}(s:ai H G)(k:KB a b G J)(ha:H a=none)(hb:H b=none):ai H J:=fun c o e=>k c o (fun z=>by rw[z,ha]at e;cases e) (fun z=>by rw[z,hb]at e;cases e) (s c o e)
theorem Fu{Z:List (List Int)}{i j:Nat}{L:List Int}{a:Int}(nd:Z.flatten.Nodup)(hL:Z[i]?=some L)(ha:L[j]?=some a):a∉(Z.take i).flatten++L.take j:=by
 obtain⟨hi,hi'⟩:=List.getElem?_eq_some_iff.mp hL;obtain⟨hj,hj'⟩:=List.getElem?_eq_some_iff.mp ha;have e1:Z=Z.take i++L::Z.drop (i+1):=by rw[←hi',←List.drop_eq_getElem_cons hi,List.take_append_drop]
 have e2:L=L.take j++a::L.drop (j+1):=by rw[←hj',←List.drop_eq_getElem_cons hj,List.take_append_drop]
 rw[e1,List.flatten_append,List.flatten_cons]at nd;have nd2:((Z.take i).flatten++(L.take j++(a::(L.drop (j+1)++(Z.drop (i+1)).flatten)))).Nodup:=by
  have e3:L++(Z.drop (i+1)).flatten=L.take j++(a::(L.drop (j+1)++(Z.drop (i+1)).flatten)):=by
   conv=>lhs;rw[e2]
   simp
  rw[←e3];exact nd
 rw[←PF]at nd2;intro z;exact(List.nodup_append.mp nd2).2.2 a z a Pt rfl
theorem zw{ms:List Int}{a:Int}(ha:1<=a/\a<=12)(hm:∀x∈ms,1<=x/\x<=12):aF a∈ms.map aF↔a∈ms:=by
 rw[List.mem_map];constructor
 .rintro⟨b,hb,e⟩
  have:=hm b hb;rw[gU (by lia) (by lia) (by lia) (by lia) e]at hb;exact hb
 .exact fun h=>⟨a,h,rfl⟩
theorem B7:∀{L:List Int},L≠[]->∃M∈L,∀a∈L,M<=a
 |[],h=>absurd rfl h
 |[a],_=>⟨a,List.mem_singleton.mpr rfl,fun b hb=>by rw[List.mem_singleton.mp hb];lia⟩
 |a::b::r,_=>by
  obtain⟨M,h1,h2⟩:=B7 (L:=b::r) (by simp);by_cases c:a<=M
  .exact⟨a,Pt,fun z hz=>by
    rcases List.mem_cons.mp hz with rfl|hz
    .lia
    .have:=h2 z hz;lia⟩
  .exact⟨M,Pu _ h1,fun z hz=>by
    rcases List.mem_cons.mp hz with rfl|hz
    .lia
    .exact h2 z hz⟩
theorem LW{r:List Int}(ne:r≠[])(h:∀x∈r,1<=x/\x<=12):mY r:=⟨ne,fun x hx=>by have:=h x hx;lia⟩
def Jj:Sp:=fun vs H Q _=>∃(n:Int)(x:Str),vs=[.int n,.str x]/\1<=n/\n<=12/\x.length<=990/\32∉signs x/\∀b:Bool,(b=true↔∃xs,kI (.str (bl x)) n xs)->∀H',ai H H'->Q (.bl b) H'
structure NT(mg:Str->Option PX)(K:W.Frag):Prop extends T1 mg K where
 di:mg "str" =none
 ic:mg "min" =none
 gh:mg "sorted" =none
theorem NR{K:W.Frag}{H:Hp}{p q:PY}{xs ys:List Int}{Q:VK}(h1:H p=some (.lst (xs.map V.int)))(h2:H q=some (.lst (ys.map V.int)))(k:Q (.bl (decide (xs=ys))) H):Gw K (.ref p) (.ref q) H Q:=by
 refine⟨fun _=>True,.list (xs.map PyData.int),.list (ys.map PyData.int),.lst (aI.of h1) True.intro (sj xs),.lst (aI.of h2) True.intro (sj ys),?_,?_,?_,?_⟩
 .unfold PyData.canLay0;exact lay_ints xs
 .unfold PyData.canLay0;exact lay_ints ys
 .unfold PyData.depth;rw[sT xs];decide
 .have:PyData.eqv (.list (xs.map PyData.int)) (.list (ys.map PyData.int))=decide (xs=ys):=by unfold PyData.eqv;exact xT xs ys
  rw[this];exact k
theorem Ar{a b:List Int}(ha:a.Pairwise (·<=·))(hb:b.Pairwise (·<=·))(p:a.Perm b):a=b:=p.eq_of_pairwise (fun x y _ _ h1 h2=>by lia) ha hb
theorem Eb{n:Int}{l:List Int}(nd:l.Nodup)(h:∀y∈l,1<=y/\y<=n)(c:(l.length:Int)=n):l.Perm (cZ 1 (n+1)):=by
 refine(List.perm_ext_iff_of_nodup nd (lO _ _)).mpr fun x=>⟨fun hx=>c6.mpr (by have:=h x hx;lia),fun hx=>PV fun z=>?_⟩;have:=xj (as:=x::l) (List.nodup_cons.mpr ⟨z,nd⟩) (bs:=cZ 1 (n+1)) fun y hy=>by
  rcases List.mem_cons.mp hy with rfl|hy
  .exact hx
  .exact c6.mpr (by have:=h y hy;lia)
 rw[aO,Pl]at this;lia
section
variable{P:P0}{w:P4}{K:W.Frag}{mg:Str->Option PX}{base:Qd}
theorem bJ:aE ["_law_n","_law_word","_law_things","_law_met","_law_firsts","_law_part","_law_thing","_law_some"] ["_law_n","_law_word"] (av (top 127)):=⟨rfl,rfl,rfl,by decide+kernel,rfl,by decide+kernel,by decide+kernel⟩
theorem DN{f:PY}{fd:Qc}(F:dU K "_law_is_order" "_law_is_order" (top 127) f fd)(T:NT mg K):aQ P w K mg base i4 2 f fd ["_law_n","_law_word"] Jj:=by
 refine F.ok bJ (fun vs H Q E h=>?_) (fun cdv A outer s H vs Q E hr h=>?_)
 .obtain⟨n,x,rfl,_⟩:=h
  rfl
 .obtain⟨n,x,rfl,n1,n2,xl,nb,k⟩:=h
  refine⟨_,(ag (aC (i:=2) bJ.nd rfl (Or.inr rfl) (bU (N:=(["_law_k"]:List Str)) (ix:=([none]:List (Option Nat))) (aW rfl rfl) rfl (gY rfl T.cS (aa aj (aa (aG bG (pv 0) aj) ae))) (fun _ _ _ _=>(aA (i:=0) (show List.Nodup (["_law_k"]:List Str)from by decide+kernel) rfl (Or.inl rfl))) (fun _ _ _ _=>bq) (fun _ _ _ _=>(aY cH rfl T.di (by decide+kernel) (aa (pv 0) ae)))))
   (ag (aN (PW.pt (fu (aw eC (eR oM (pv 1) jv (eO aj)) ak (aB _)) (dG (aw eC (eR oM (pv 1) (eO (yR rz aj)) jv) ak (aB _))))) (ah (ay eT)) ax)
   (ag (aC (i:=3) bJ.nd rfl (Or.inl rfl) (bH ae))
   (ag (aC (i:=4) bJ.nd rfl (Or.inl rfl) (bH ae))
   (ag (cP PassesOwn.never rfl (aV (K:=K) rfl (aP (K:=K) rfl PySem.F.plainAttrs_str PySem.F.slot_str_split PySem.F.type_str_split ck (eR oM (pv 1) (eO aj) (eO (yR rz aj))) (aa ak ae))) (aA (i:=5) bJ.nd rfl (Or.inl rfl)) (ag (cP PassesOwn.never rfl (aV (K:=K) rfl (aP (K:=K) rfl PySem.F.plainAttrs_str PySem.F.slot_str_split PySem.F.type_str_split ck (pv 5) (aa ak ae))) (aA (i:=6) bJ.nd rfl (Or.inl rfl)) (ag (aN (PW.pt (fu (aw (lV (K:=K) rfl) (pv 6) (pv 2) rfl) (dG (aw (Ap (K:=K) rfl) (pv 6) (pv 3) rfl)))) (ah (ay eT)) ax)
   (ah (cj (aP (K:=K) rfl PySem.F.plainAttrs_list PySem.F.slot_list_append PySem.F.type_list_append c8 (pv 3) (aa (pv 6) ae))))))
   (ag (lZ (i:=7) bJ.nd rfl rfl (N:=(["_law_thing","_law_things"]:List Str)) (ix:=([none,some 2]:List (Option Nat))) (aW rfl rfl) rfl (aV (K:=K) rfl (aP (K:=K) rfl PySem.F.plainAttrs_str PySem.F.slot_str_split PySem.F.type_str_split ck (pv 5) (aa ak ae))) (fun _ _ _ _=>(aA (i:=0) (show List.Nodup (["_law_thing","_law_things"]:List Str)from by decide+kernel) rfl (Or.inl rfl))) (fun _ _ _ _=>bq) (fun _ _ _ _=>(aP (K:=K) rfl PySem.F.plainAttrs_list PySem.F.slot_list_index PySem.F.type_list_index pE (pv 1) (aa (pv 0) ae))))
   (ag (aN (aw eC (bC (aJ (K:=K) rfl) (pv 7) aj (fun _ _=>rfl)) (ar (vb (K:=K) rfl rfl) rfl T.ic (by decide+kernel) (aa (pv 7) ae)) (aB _)) (ah (ay eT)) ax)
   (ah (cj (aP (K:=K) rfl PySem.F.plainAttrs_list PySem.F.slot_list_append PySem.F.type_list_append c8 (pv 4) (aa (bC (aJ (K:=K) rfl) (pv 7) aj (fun _ _=>rfl)) ae))))))))
   (ah (ay (wK (iG bR (ar (aZ (K:=K) rfl) rfl T.bX (by decide+kernel) (aa (pv 3) ae)) (pv 0) (aB _)) (wR (iG (wV hr.units) (pv 4) (ar (y3 (K:=K) rfl) rfl T.gh (by decide+kernel) (aa (pv 4) ae)) (aB _))))))))))),?_⟩
  have big:(10000000:Nat)<=P6:=by decide
  have ow:=fun Z=>Nz (n:=n) (w:=x) (xs:=Z) nb;have yes:∀Z,x=fk (bj n Z)->Ord n Z->∀H',ai H H'->Q (.bl true) H':=fun Z e o H' s'=>k true ⟨fun _=>⟨Z,(ow Z).mpr ⟨e,o,n1,n2⟩⟩,fun _=>rfl⟩ H' s';have no:(∀Z,x=fk (bj n Z)->Ord n Z->False)->∀H',ai H H'->Q (.bl false) H':=fun h H' s'=>k false ⟨(fun z=>by cases z),fun⟨Z,z⟩=>(h Z ((ow Z).mp z).1 ((ow Z).mp z).2.1).elim⟩ H' s';clear ow k;refine⟨_,rfl,_,_,rfl,rfl,1,n+1,rfl,⟨by decide,by decide,by lia,by lia⟩,ye (k:=0) (fun i ys σ' H'=>ys=(((cZ 1 (n+1)).take i).map aF).map V.str/\(∃v,σ'=[v])/\H'=H) (by lia) ⟨rfl,⟨none,rfl⟩,rfl⟩ (fun i ys σ' H' q=>by rw[q.1,Pe,Pe,Pn];lia) ?_ ?_⟩
  .rintro i ys σ' H' R hi ⟨rfl,⟨v0,rfl⟩,rfl⟩ done
   refine⟨_,rfl,1+(i:Int),rfl,c7 (by lia) (by lia),done _ _ _ ⟨?_,⟨_,rfl⟩,rfl⟩⟩;rw[aR aF (eD (lo:=1) (hi:=n+1) (i:=i) hi),Pj];rfl
  rintro ys σ' H' lw ⟨rfl,⟨v0,rfl⟩,e0⟩ flw;have e0:=e0.symm;subst e0;rw[Pw (by rw[aO];exact PK _)];rw[show(cZ 1 (n+1)).map aF=wn n from rfl];have s1:ai H (upd H lw (.lst ((wn n).map V.str))):=ai.new flw;have hw1:upd H lw (.lst ((wn n).map V.str)) lw=some (.lst ((wn n).map V.str)):=af;generalize upd H lw (.lst ((wn n).map V.str))=H1 at s1 hw1⊢;have xls:x.length<=P6:=by lia
  have brk:∀Z,x=fk (bj n Z)->Ord n Z->Txt.slice x none (some 1)=Pd "("/\Txt.slice x (some (-1)) none=Pd ")" :=fun Z e o=>by
   rw[e];exact F6 (ko o n1 n2).1
  refine⟨_,rfl,1,rfl,_,rfl,xls,rfl,_,rfl,cg (fun c=>?_) (fun c1=>?_)⟩
  .refine no (fun Z e o=>?_) H1 s1
   rw[(brk Z e o).1,decide_eq_true rfl]at c;exact absurd c (by decide)
  refine⟨_,rfl,_,rfl,-1,rfl,_,rfl,xls,rfl,_,rfl,cg (fun c=>?_) (fun c2=>?_)⟩
  .refine no (fun Z e o=>?_) H1 s1
   rw[(brk Z e o).2,decide_eq_true rfl]at c;exact absurd c (by decide)
  have b1:Txt.slice x none (some 1)=Pd "(" :=by
   apply PV;intro z;exact c1 (by rw[decide_eq_false (fun q=>z (by injection q))];rfl)
  have b2:Txt.slice x (some (-1)) none=Pd ")" :=by
   apply PV;intro z;exact c2 (by rw[decide_eq_false (fun q=>z (by injection q))];rfl)
  refine⟨PQ _,fun lm fm=>?_⟩;have s2:ai H1 (upd H1 lm (.lst [])):=ai.new fm;have hm2:upd H1 lm (.lst []) lm=some (.lst []):=af;have nwm:lw≠lm:=au hw1 fm;have flm:H lm=none:=s1.free fm;generalize upd H1 lm (.lst [])=H2 at s2 hm2⊢;refine⟨PQ _,fun lf ff=>?_⟩;have s3:ai H2 (upd H2 lf (.lst [])):=ai.new ff;have hf3:upd H2 lf (.lst []) lf=some (.lst []):=af;have nwf:lw≠lf:=au (s2 _ _ hw1) ff;have nmf:lm≠lf:=au hm2 ff;have flf:H lf=none:=(s1.trans s2).free ff;generalize upd H2 lf (.lst [])=H3 at s3 hf3⊢;have hm3:=s3 _ _ hm2;have hw3:=s3 _ _ (s2 _ _ hw1);have b3:=s1.trans (s2.trans s3);have sll:(Txt.slice x (some 1) (some (-1))).length<=x.length:=Txt.slice_le _ _ _;refine⟨_,rfl,1,rfl,_,rfl,_,rfl,_,rfl,by lia,rfl,_,_,rfl,rfl,by decide+kernel,by lia,fun l1 f1=>⟨l1,rfl,⟨_,aI.of af⟩,?_⟩⟩;have wl:=split_le (Txt.slice x (some 1) (some (-1))) (Pd ")(");have wp:∀z∈Txt.split (Txt.slice x (some 1) (some (-1))) (Pd ")("),z.length<=x.length:=fun z hz=>PN (bO hz) sll;have wne:=dv (Txt.slice x (some 1) (some (-1))) (Pd ")(");have fwd:∀Z,x=fk (bj n Z)->Ord n Z->Txt.split (Txt.slice x (some 1) (some (-1))) (Pd ")(")=(bj n Z).map iM/\(∀r∈bj n Z,mY r):=fun Z e o=>by
   obtain⟨ne,ok,_,_⟩:=ko o n1 n2;rw[e];exact⟨AM ne fun r hr i hi=>((ok r hr).2 i hi).1,ok⟩
  have bwd:∀S,S≠[]->Txt.split (Txt.slice x (some 1) (some (-1))) (Pd ")(")=S.map iM->x=fk S:=fun S ne h=>wg ne b1 b2 h;generalize Txt.split (Txt.slice x (some 1) (some (-1))) (Pd ")(")=ps at wl wp wne fwd bwd⊢;have s4:ai H3 (upd H3 l1 (.lst (ps.map V.str))):=ai.new f1;have h4:upd H3 l1 (.lst (ps.map V.str)) l1=some (.lst (ps.map V.str)):=af;have n1m:l1≠lm:=(au hm3 f1).symm;have n1f:l1≠lf:=(au hf3 f1).symm;generalize upd H3 l1 (.lst (ps.map V.str))=H4 at s4 h4⊢;have b4:=b3.trans s4;have hm4:=s4 _ _ hm3;have hf4:=s4 _ _ hf3;have hw4:=s4 _ _ hw3;have sm:∀{G:Hp},KB lm lf H4 G->ai H G:=fun kb=>KB.same b4 kb flm flf;have pll:(ps.map V.str).length=ps.length:=by rw[Pe]
  refine gu (K:=K) (a:=l1) (xs:=ps.map V.str) (fun i σ H'=>∃v5 v6 v7 S,σ=[some (.int n),some (.str x),some (.ref lw),some (.ref lm),some (.ref lf),v5,v6,v7]/\KB lm lf H4 H'/\S.length=i/\ps.take i=S.map iM/\(∀r∈S,r≠[]/\∀y∈r,1<=y/\y<=n)/\H' lm=some (.lst ((S.flatten.map aF).map V.str))/\H' lf=some (.lst ((S.map fun r=>tP r-1).map V.int))/\S.flatten.Nodup/\∀L∈S,∀y∈L,tP L<=y) ⟨_,_,_,[],rfl,KB.refl,rfl,rfl,(fun r h=>nomatch h),hm4,hf4,List.nodup_nil,(fun r h=>nomatch h)⟩ (fun i σ H' _ q=>by
   obtain⟨_,_,_,_,_,kb,_⟩:=q;exact aI.of (kb _ _ n1m n1f h4)) ?_ ?_
  .rintro i z σ H5 hx ⟨v5,v6,v7,S,rfl,kb5,Sl,tk,bS,hm5,hf5,ndS,hdS⟩
   obtain⟨pt,hpt,rfl⟩:∃pt,ps[i]?=some pt/\V.str pt=z:=by
    rw[Pf]at hx
    cases e:ps[i]? with
    |none=>rw[e]at hx;cases hx
    |some e'=>rw[e]at hx;exact⟨e',rfl,PU hx⟩
   have ptl:=wp pt (Pr hpt);have okS:∀r∈S,mY r:=fun r hr'=>LW (bS r hr').1 fun y hy=>by have:=(bS r hr').2 y hy;lia
   have here:∀Z,x=fk (bj n Z)->Ord n Z->(bj n Z).take i=S/\∃L,(bj n Z)[i]?=some L/\pt=iM L/\mY L/\(∀y∈L,1<=y/\y<=n)/\(bj n Z).flatten.Nodup:=fun Z eZ o=>by
    obtain⟨e,b⟩:=fwd Z eZ o;obtain⟨_,_,bd,_⟩:=ko o n1 n2;have nd:=lQ o;rw[e]at hpt tk;rw[←List.map_take]at tk;refine⟨kA (fun r hr'=>b r (List.mem_of_mem_take hr')) okS tk,?_⟩;rw[Pf]at hpt
    cases e2:(bj n Z)[i]? with
    |none=>rw[e2]at hpt;cases hpt
    |some L=>
     rw[e2]at hpt;have m:=Pr e2;exact⟨L,rfl,(PU hpt).symm,b L m,fun y hy=>bd L m y hy,nd⟩
   refine⟨_,rfl,rfl,_,_,rfl,rfl,by decide+kernel,by lia,fun l2 f2=>⟨l2,rfl,⟨_,aI.of af⟩,?_⟩⟩;have wl2:=split_le pt (Pd ",");have wp2:∀z∈Txt.split pt (Pd ","),z.length<=pt.length:=fun z hz=>bO hz;have wne2:=dv pt (Pd ",");have fwd2:∀L,pt=iM L->mY L->Txt.split pt (Pd ",")=L.map aF:=fun L e o=>by rw[e];exact oW o.1 fun i hi=>(o.2 i hi).1
   have bwd2:∀r,Txt.split pt (Pd ",")=r.map aF->pt=iM r:=fun r h=>wO h;generalize hwd:Txt.split pt (Pd ",")=wd at wl2 wp2 wne2 fwd2 bwd2⊢;have s6:ai H5 (upd H5 l2 (.lst (wd.map V.str))):=ai.new f2;have h6:upd H5 l2 (.lst (wd.map V.str)) l2=some (.lst (wd.map V.str)):=af;have n2m:l2≠lm:=(au hm5 f2).symm;have n2f:l2≠lf:=(au hf5 f2).symm;generalize upd H5 l2 (.lst (wd.map V.str))=H6 at s6 h6⊢;have kb6:=kb5.trans (ai.kb s6);have hm6:=s6 _ _ hm5;have hf6:=s6 _ _ hf5;have hw6:=kb6 _ _ nwm nwf hw4;refine gu (K:=K) (a:=l2) (xs:=wd.map V.str) (D:={nx:=_,rt:=_}) (fun j σ H'=>∃v6 v7 r,σ=[some (.int n),some (.str x),some (.ref lw),some (.ref lm),some (.ref lf),some (.str pt),v6,v7]/\KB lm lf H6 H'/\wd.take j=r.map aF/\(∀y∈r,1<=y/\y<=n)/\H' lm=some (.lst (((S.flatten++r).map aF).map V.str))/\H' lf=some (.lst ((S.map fun r=>tP r-1).map V.int))/\(S.flatten++r).Nodup) ⟨_,_,[],rfl,KB.refl,rfl,(fun y h=>nomatch h),by rw[PD];exact hm6,hf6,by rw[PD];exact ndS⟩ (fun j σ H' _ q=>by
    obtain⟨_,_,_,_,kb,_⟩:=q;exact aI.of (kb _ _ n2m n2f h6)) ?_ ?_
   .rintro j z σ H7 hx7 ⟨v6,v7,r,rfl,kb7,tk7,br,hm7,hf7,nd7⟩
    obtain⟨wo,hwo,rfl⟩:∃wo,wd[j]?=some wo/\V.str wo=z:=by
     rw[Pf]at hx7
     cases e:wd[j]? with
     |none=>rw[e]at hx7;cases hx7
     |some e'=>rw[e]at hx7;exact⟨e',rfl,PU hx7⟩
    have hw7:=kb7 _ _ nwm nwf hw6;have alln:∀y∈S.flatten++r,1<=y/\y<=n:=fun y hy=>by
     rcases List.mem_append.mp hy with hy|hy
     .obtain⟨q,hq,hy⟩:=List.mem_flatten.mp hy
      exact(bS q hq).2 y hy
     .exact br y hy
    have all12:∀y∈S.flatten++r,1<=y/\y<=12:=fun y hy=>by have:=alln y hy;lia
    have there:∀Z,x=fk (bj n Z)->Ord n Z->∃a,wo=aF a/\1<=a/\a<=n/\a∉S.flatten++r:=fun Z eZ o=>by
     obtain⟨e1,L,hL,e2,o,bL,nd⟩:=here Z eZ o;have e3:=fwd2 L e2 o;rw[e3]at hwo tk7;rw[Pf]at hwo
     cases e4:L[j]? with
     |none=>rw[e4]at hwo;cases hwo
     |some a=>
      rw[e4]at hwo;have ba:=bL a (Pr e4);refine⟨a,(PU hwo).symm,ba.1,ba.2,?_⟩;rw[←List.map_take]at tk7;have e5:=gn (fun y hy=>by have:=bL y (List.mem_of_mem_take hy);lia) (fun y hy=>by have:=br y hy;lia) tk7;rw[←e1,←e5];exact Fu nd hL e4
    refine⟨_,rfl,_,rfl,lw,_,rfl,.inl (aI.of hw7),rfl,l7 _,_,rfl,cg (fun c=>?_) (fun c=>?_)⟩
    .refine no (fun Z eZ o=>?_) H7 (sm (kb6.trans kb7))
     obtain⟨a,rfl,a1,a2,_⟩:=there Z eZ o;rw[iI,decide_eq_true (oQ.mpr ⟨a,a1,a2,rfl⟩)]at c;exact absurd c (by decide)
    have m1:wo∈wn n:=by
     rw[iI]at c;by_cases m:wo∈wn n
     .exact m
     .rw[decide_eq_false m]at c;exact absurd rfl c
    obtain⟨a,a1,a2,rfl⟩:=oQ.mp m1;refine⟨_,rfl,_,rfl,lm,_,rfl,.inl (aI.of hm7),rfl,l7 _,_,rfl,cg (fun c=>?_) (fun c=>?_)⟩
    .refine no (fun Z eZ o=>?_) H7 (sm (kb6.trans kb7))
     obtain⟨b,e,b1,b2,no⟩:=there Z eZ o;have e:=gU (by lia) (by lia) (by lia) (by lia) e;subst e;rw[iI]at c;exact no ((zw ⟨b1,by lia⟩ all12).mp (of_decide_eq_true c))
    have m2:a∉S.flatten++r:=fun z=>by
     rw[iI]at c;exact c (decide_eq_true ((zw ⟨a1,by lia⟩ all12).mpr z))
    have LJ:(S.flatten++r).length<=12:=by
     have:=xj nd7 (bs:=cZ 1 13) fun y hy=>c6.mpr (by have:=all12 y hy;lia);rw[aO]at this;exact this
    refine⟨_,rfl,.inl ⟨rfl,_,aI.of hm7⟩,_,rfl,lm,_,_,rfl,rfl,hm7,by rw[Pe,Pe];lia,?_⟩;refine⟨_,_,r++[a],rfl,kb7.trans KB.one,?_,fun y hy=>?_,?_,by rw[ao nmf.symm];exact hf7,?_⟩
    .rw[PJ,hwo,tk7,Pj]
     rfl
    .rcases List.mem_append.mp hy with hy|hy
     .exact br y hy
     .rw[List.mem_singleton.mp hy];exact⟨a1,a2⟩
    .rw[af];simp
    .rw[←PF]
     refine List.nodup_append.mpr ⟨nd7,by simp,fun y hy w hw z=>?_⟩;rw[List.mem_singleton.mp hw]at z;exact m2 (z▸hy)
   .rintro σ H7 ⟨v6,v7,r,rfl,kb7,tk7,br,hm7,hf7,nd7⟩
    rw[Pw (by rw[Pe];exact PK _)]at tk7;subst tk7;have rne:r≠[]:=fun z=>wne2 (by rw[z];rfl);have ept:=bwd2 r rfl;have hw7:=kb7 _ _ nwm nwf hw6;refine⟨_,rfl,rfl,_,_,rfl,rfl,by decide+kernel,by lia,fun l3 f3=>⟨l3,rfl,⟨_,aI.of af⟩,?_⟩⟩;rw[hwd];have s8:ai H7 (upd H7 l3 (.lst ((r.map aF).map V.str))):=ai.new f3;have h8:upd H7 l3 (.lst ((r.map aF).map V.str)) l3=some (.lst ((r.map aF).map V.str)):=af;generalize upd H7 l3 (.lst ((r.map aF).map V.str))=H8 at s8 h8⊢;have hw8:=s8 _ _ hw7;have rl2:r.length<=1000:=by rw[Pe]at wl2;lia
    refine iC (K:=K) (a:=l3) (xs:=(r.map aF).map V.str) (k:=0) (fun j ys σ' H'=>ys=((r.take j).map (·-1)).map V.int/\(∃v0,σ'=[v0,some (.ref lw)])/\H'=H8) (by rw[Pe,Pe];lia) ⟨rfl,⟨none,rfl⟩,rfl⟩ (fun j ys σ' H' _ q=>by rw[q.2.2];exact aI.of h8) (fun j ys σ' H' q=>by rw[q.1,Pe,Pe,Pn];lia) ?_ ?_
    .rintro j ys σ' H' z R hz ⟨rfl,⟨v0,rfl⟩,rfl⟩ done
     obtain⟨a,ha,rfl⟩:∃a,r[j]?=some a/\V.str (aF a)=z:=by
      rw[Pf,Pf]at hz
      cases e:r[j]? with
      |none=>rw[e]at hz;cases hz
      |some e'=>rw[e]at hz;exact⟨e',rfl,PU hz⟩
     have ba:=br a (Pr ha);obtain⟨ja,na⟩:=Fx (n:=n) ba.1 ba.2 (by lia);refine⟨_,rfl,.inl ⟨rfl,_,aI.of hw8⟩,_,rfl,lw,_,_,_,rfl,rfl,hw8,ja,na,?_⟩;rw[show((a-1).toNat:Int)=a-1 by lia];refine done _ _ _ ⟨?_,⟨_,rfl⟩,rfl⟩;rw[aR (·-1) ha,Pj];rfl
    .rintro ys σ' H' q ⟨rfl,_,e0⟩ fq
     have e0:=e0.symm;subst e0;rw[Pw (by rw[Pe,Pe];exact PK _)];have s9:ai H8 (upd H8 q (.lst ((r.map (·-1)).map V.int))):=ai.new fq;have h9:upd H8 q (.lst ((r.map (·-1)).map V.int)) q=some (.lst ((r.map (·-1)).map V.int)):=af;generalize upd H8 q (.lst ((r.map (·-1)).map V.int))=H9 at s9 h9⊢;have s79:=s8.trans s9;have hm9:=s79 _ _ hm7;have hf9:=s79 _ _ hf7;have il:=(List.getElem?_eq_some_iff.mp hpt).1;have h0:=oU rne;obtain⟨M,hM,hmin⟩:=B7 rne;have h0':wm ((r.map (·-1)).map V.int) 0=some (.int (tP r-1)):=jC (by decide) (by rw[Pf,show(0:Int).toNat=0 from rfl,h0];rfl);have hmin':∀a∈r.map (·-1),M-1<=a:=fun a ha=>by
      obtain⟨b,hb,rfl⟩:=List.mem_map.mp ha;have:=hmin b hb;lia
     refine⟨_,rfl,q,_,0,_,rfl,rfl,aI.of h9,h0',_,rfl,q,_,M-1,rfl,aI.of h9,List.mem_map.mpr ⟨M,hM,rfl⟩,hmin',rfl,_,rfl,cg (fun c=>?_) (fun c=>?_)⟩
     .refine no (fun Z eZ o=>?_) H9 ((sm (kb6.trans kb7)).trans s79)
      obtain⟨e1,L,hL,e2,ok,bL,nd⟩:=here Z eZ o;have e3:=fwd2 L e2 ok;have e4:=gn (fun y hy=>by have:=br y hy;lia) (fun y hy=>by have:=bL y hy;lia) e3;subst e4;have e5:=CS (Pr hL) M hM;have e6:=hmin (tP r) (Pr h0);have e7:tP r=M:=by lia
      rw[e7,decide_eq_true rfl]at c;exact absurd c (by decide)
     have eM:tP r=M:=by
      apply PV;intro z;exact c (by rw[decide_eq_false (fun q=>z (by injection q;lia))];rfl)
     refine⟨_,rfl,.inl ⟨rfl,_,aI.of hf9⟩,_,rfl,q,_,0,_,rfl,rfl,aI.of h9,h0',lf,_,_,rfl,rfl,hf9,by rw[Pe,Pe];lia,?_⟩;refine⟨_,_,_,S++[r],rfl,kb6.trans (kb7.trans ((ai.kb s79).trans KB.two)),by rw[Pg,List.length_singleton];lia,?_,fun q' hq'=>?_,?_,?_,?_,fun L hL=>?_⟩
     .rw[PJ,hpt,tk,Pj,ept]
      rfl
     .rcases List.mem_append.mp hq' with hq'|hq'
      .exact bS q' hq'
      .rw[List.mem_singleton.mp hq'];exact⟨rne,br⟩
     .rw[ao nmf];simpa using hm9
     .rw[af];simp
     .simpa using nd7
     .rcases List.mem_append.mp hL with hL|hL
      .exact hdS L hL
      .rw[List.mem_singleton.mp hL,eM];exact hmin
  .rintro σ H5 ⟨v5,v6,v7,S,rfl,kb5,Sl,tk,bS,hm5,hf5,ndS,hdS⟩
   rw[Pw (by lia)]at tk;have Sne:S≠[]:=fun z=>wne (by rw[tk,z];rfl);have ex:=bwd S Sne tk;have okS:∀r∈S,mY r:=fun r hr'=>LW (bS r hr').1 fun y hy=>by have:=(bS r hr').2 y hy;lia
   have only:∀Z,x=fk (bj n Z)->Ord n Z->bj n Z=S:=fun Z eZ o=>by
    obtain⟨e,b⟩:=fwd Z eZ o;exact kA b okS (e.symm.trans tk)
   have sH:=sm kb5;refine⟨_,rfl,lm,_,rfl,.inl (aI.of hm5),_,rfl,rfl,_,rfl,?_⟩;rw[Pe,Pe];by_cases c:(S.flatten.length:Int)=n
   case neg=>
    rw[if_neg (by rw[decide_eq_true_eq];exact fun z=>c (V.int.inj z))];refine no (fun Z eZ o=>?_) H5 sH;have:=(ko o n1 n2).2.2.2;rw[only Z eZ o]at this;exact c this
   rw[if_pos (by rw[decide_eq_true_eq,c])];have LJ:S.length<64:=by
    have:=kB (rs:=S) fun r hr=>(bS r hr).1;lia
   refine⟨_,rfl,_,rfl,lf,S.map fun r=>tP r-1,rfl,aI.of hf5,by rw[Pe];exact LJ,fun ls ns fls pm zo=>?_⟩;have nsl:lf≠ls:=au hf5 fls;have sU:ai H5 (upd H5 ls (.lst (ns.map V.int))):=ai.new fls;refine NR (xs:=S.map fun r=>tP r-1) (ys:=ns) (sU _ _ hf5) af ?_;by_cases c2:(S.map fun r=>tP r-1)=ns
   .rw[decide_eq_true c2]
    have cv:GI n S:=by
     refine⟨fun r hr=>(bS r hr).1,Eb ndS (fun y hy=>?_) c⟩;obtain⟨r,hr,hy⟩:=List.mem_flatten.mp hy;exact(bS r hr).2 y hy
    have rise:(S.map tP).Pairwise (·<·):=by
     rw[←c2,List.pairwise_map]at zo;rw[List.pairwise_map];have dj:=(List.pairwise_flatten.mp ndS).2;refine(zo.and dj).imp_of_mem fun{a b} ha hb z=>?_;have ne:=z.2 _ (Pr (oU (bS a ha).1)) _ (Pr (oU (bS b hb).1));have:=z.1;lia
    have er:bj n (eE n S)=S:=Kt cv hdS rise;exact yes (eE n S) (by rw[er];exact ex) (sy cv) _ (sH.trans sU)
   .rw[decide_eq_false c2]
    refine no (fun Z eZ o=>?_) _ (sH.trans sU);have hd:=CP n Z;rw[only Z eZ o,List.pairwise_map]at hd;refine c2 (Ar ?_ zo pm.symm);rw[List.pairwise_map];exact hd.imp fun z=>by lia
end
def gz(n:Int)(sg x:Str):Prop:=
 if sg=Pd "K"then j3 x else if sg=Pd "T"then∃R,lg n (.str (bl x)) R else if sg=Pd "O"then∃xs,kI (.str (bl x)) n xs else isNm x
def IQ:Sp:=fun vs H Q _=>∃(n:Int)(sg x:Str),vs=[.int n,.str sg,.str x]/\1<=n/\n<=12/\x.length<=990/\PyData.strOk x=true/\32∉signs x/\∀b:Bool,(b=true↔gz n sg x)->∀H',ai H H'->Q (.bl b) H'
structure L7(P:P0)(w:P4)(K:W.Frag)(mg:Str->Option PX)(base:Qd):Prop extends T1 mg K where
 jd:FnAt P w K mg base "_law_is_number" 1 ["_law_word"] (HW j3)
 kX:FnAt P w K mg base "_law_is_name" 1 ["_law_word"] (HW isNm)
 mz:FnAt P w K mg base "_law_is_row" 2 ["_law_n","_law_word"] Jn
 j6:FnAt P w K mg base "_law_is_order" 2 ["_law_n","_law_word"] Jj
section
variable{P:P0}{w:P4}{K:W.Frag}{mg:Str->Option PX}{base:Qd}
theorem wF:aE ["_law_n","_law_sign","_law_word"] ["_law_n","_law_sign","_law_word"] (av (top 129)):=⟨rfl,rfl,rfl,by decide+kernel,rfl,by decide+kernel,by decide+kernel⟩
theorem KC{f:PY}{fd:Qc}(F:dU K "_law_fits" "_law_fits" (top 129) f fd)(T:L7 P w K mg base):aQ P w K mg base i4 3 f fd ["_law_n","_law_sign","_law_word"] IQ:=by
 refine F.ok wF (fun vs H Q E h=>?_) (fun cdv A outer s H vs Q E hr h=>?_)
 .obtain⟨n,sg,x,rfl,_⟩:=h
  rfl
 .obtain⟨n,sg,x,rfl,n1,n2,lx,ok,no,k⟩:=h
  refine⟨_,(ag (aN (aw bR (pv 1) ak (aB _)) (ah (ay (aq T.jd (hr.mono (by first|decide|lia)) rfl (aa (pv 2) ae)))) ax)
   (ag (aN (aw bR (pv 1) ak (aB _)) (ah (ay (aq T.mz (hr.mono (by first|decide|lia)) rfl (aa (pv 0) (aa (pv 2) ae))))) ax)
   (ag (aN (aw bR (pv 1) ak (aB _)) (ah (ay (aq T.j6 (hr.mono (by first|decide|lia)) rfl (aa (pv 0) (aa (pv 2) ae))))) ax)
   (ah (ay (aq T.kX (hr.mono (by first|decide|lia)) rfl (aa (pv 2) ae))))))),?_⟩
  by_cases c1:sg=Pd "K"
  .refine⟨_,rfl,rfl,_,rfl,kc (by simp[c1]) ?_⟩
   exact⟨_,rfl,x,rfl,by lia,ok,fun b hb H' sm=>k b (by rw[hb];unfold gz;rw[if_pos c1]) H' sm⟩
  refine⟨_,rfl,rfl,_,rfl,bI (by simp[c1]) ?_⟩;by_cases c2:sg=Pd "T"
  .refine⟨_,rfl,rfl,_,rfl,kc (by simp[c2]) ?_⟩
   exact⟨_,rfl,_,rfl,n,x,rfl,n1,n2,lx,no,fun b hb H' sm=>k b (by rw[hb];unfold gz;rw[if_neg c1,if_pos c2]) H' sm⟩
  refine⟨_,rfl,rfl,_,rfl,bI (by simp[c2]) ?_⟩;by_cases c3:sg=Pd "O"
  .refine⟨_,rfl,rfl,_,rfl,kc (by simp[c3]) ?_⟩
   exact⟨_,rfl,_,rfl,n,x,rfl,n1,n2,lx,no,fun b hb H' sm=>k b (by rw[hb];unfold gz;rw[if_neg c1,if_neg c2,if_pos c3]) H' sm⟩
  refine⟨_,rfl,rfl,_,rfl,bI (by simp[c3]) ?_⟩;exact⟨_,rfl,x,rfl,by lia,ok,fun b hb H' sm=>k b (by rw[hb];unfold gz;rw[if_neg c1,if_neg c2,if_neg c3]) H' sm⟩
end
def kD(w:Str):Option Str:=(t8.find? fun p=>p.1=w).map (·.2)
theorem Fn(k:Str):cQ dC (Sum.inr k:Key)=(kD k).map V.str:=by
 unfold dC kD cQ;generalize t8=l
 induction l with
 |nil=>rfl
 |cons p t ih=>
  rw[Pm,List.find?_cons,List.find?_cons];by_cases h:p.1=k
  .have:decide ((Sum.inr p.1:Key)=Sum.inr k)=true:=decide_eq_true (by rw[h])
   simp only[this,h,decide_true];rfl
  .have:decide ((Sum.inr p.1:Key)=Sum.inr k)=false:=decide_eq_false fun z=>h (Sum.inr.inj z)
   simp only[this,decide_eq_false h];exact ih
def lY(x:Str):List Str:=x.cps.toList.map fun c=>⟨#[c]⟩
theorem Jd(x:Str):Ke x=(lY x).map V.str:=by unfold Ke lY;rw[Pp];rfl
theorem me(x:Str):(lY x).length=x.length:=by unfold lY;rw[Pe];rfl
def ik(sg:Str):Str:=if sg=Pd "K"then Pd "number"else if sg=Pd "T"then Pd "row"else if sg=Pd "O"then Pd "order"else if sg=Pd "N"then Pd "new"else Pd "name"
theorem yZ:(∀w∈CJ.map (·.1),qp w=(kD w).map fun sh=>(lY sh).map ik)/\∀p∈t8,p.1∈CJ.map (·.1):=by decide+kernel
theorem Lg(w:Str):qp w=(kD w).map fun sh=>(lY sh).map ik:=by
 by_cases c:w∈CJ.map (·.1)
 .exact yZ.1 w c
 .have e1:qp w=none:=by
   unfold qp;rw[List.find?_eq_none.mpr fun p hp z=>c (by simp only[decide_eq_true_eq]at z;rw[←z];exact List.mem_map_of_mem hp)];rfl
  have e2:kD w=none:=by
   unfold kD;rw[List.find?_eq_none.mpr fun p hp z=>c (by simp only[decide_eq_true_eq]at z;rw[←z];exact yZ.2 p hp)];rfl
  rw[e1,e2];rfl
theorem EK:∀p∈t8,(p.2.cps.all (·<128)=true/\p.2.length<=3)/\∀s∈lY p.2,s=Pd "K"\/s=Pd "T"\/s=Pd "O"\/s=Pd "N"\/s=Pd "n" :=by decide+kernel
theorem sq{w sh:Str}(h:kD w=some sh):∃p∈t8,p.2=sh:=by
 unfold kD at h;cases e:t8.find? (fun p=>decide (p.1=w))with
 |none=>rw[e]at h;cases h
 |some p=>rw[e]at h;exact⟨p,List.mem_of_find?_eq_some e,PU h⟩
theorem Bu{n:Int}{s x:Str}(n12:n<=12)(hs:s=Pd "K"\/s=Pd "T"\/s=Pd "O"\/s=Pd "N"\/s=Pd "n"):
  (gz n s x->∃y,dn n (ik s) x=some y/\(s=Pd "n"->y= .txt x))/\(¬gz n s x->dn n (ik s) x=none):=by
 rcases hs with rfl|rfl|rfl|rfl|rfl
 .have e:ik (Pd "K")=Pd "number" :=by decide+kernel
  have f:gz n (Pd "K") x=j3 x:=by unfold gz;rw[if_pos rfl]
  rw[e,f];refine⟨fun h=>?_,yP⟩;obtain⟨i,rfl,h0,h9⟩:=h;exact⟨_,Cp h0 h9,fun z=>absurd z (by decide+kernel)⟩
 .have e:ik (Pd "T")=Pd "row" :=by decide+kernel
  have f:gz n (Pd "T") x=∃R,lg n (.str (bl x)) R:=by unfold gz;rw[if_neg (by decide+kernel),if_pos rfl]
  rw[e,f];exact⟨fun⟨R,h⟩=>⟨_,sR (by lia) h,fun z=>absurd z (by decide+kernel)⟩,fun h=>zg fun R z=>h ⟨R,z⟩⟩
 .have e:ik (Pd "O")=Pd "order" :=by decide+kernel
  have f:gz n (Pd "O") x=∃xs,kI (.str (bl x)) n xs:=by unfold gz;rw[if_neg (by decide+kernel),if_neg (by decide+kernel),if_pos rfl]
  rw[e,f];exact⟨fun⟨R,h⟩=>⟨_,yV h,fun z=>absurd z (by decide+kernel)⟩,fun h=>su fun R z=>h ⟨R,z⟩⟩
 .have e:ik (Pd "N")=Pd "new" :=by decide+kernel
  have f:gz n (Pd "N") x=isNm x:=by unfold gz;rw[if_neg (by decide+kernel),if_neg (by decide+kernel),if_neg (by decide+kernel)]
  rw[e,f];exact⟨fun h=>⟨_,BV h,fun z=>absurd z (by decide+kernel)⟩,(nM (by decide+kernel) (by decide+kernel) (by decide+kernel)).2⟩
 .have e:ik (Pd "n")=Pd "name" :=by decide+kernel
  have f:gz n (Pd "n") x=isNm x:=by unfold gz;rw[if_neg (by decide+kernel),if_neg (by decide+kernel),if_neg (by decide+kernel)]
  rw[e,f];exact⟨fun h=>⟨_,yA h,fun _=>rfl⟩,(nM (by decide+kernel) (by decide+kernel) (by decide+kernel)).2⟩
open Classical in
noncomputable def cO(n:Int)(m:Kept):List Str->Option Nat
 |[]=>none
 |word::args=>match kD word with
  |none=>some 10
  |some sh=>if args.length≠sh.length then some 10 else if¬∀p∈(lY sh).zip args,gz n p.1 p.2 then some 10 else if∃p∈(lY sh).zip args,p.1=Pd "n"/\rowOf m p.2=none then some 11 else none
theorem zq{α β γ:Type}(f:α->γ):∀(a:List α)(b:List β),(a.map f).zip b=(a.zip b).map fun p=>(f p.1,p.2)
 |[],b=>by simp
 |x::a,[]=>by simp
 |x::a,y::b=>by simp[zq f a b]
theorem zc{α β:Type}{f:α->Option β}:∀{l:List α},(∀x∈l,∃y,f x=some y)->∃ys,fB f l=some ys
 |[],_=>⟨[],rfl⟩
 |x::l,h=>by
  obtain⟨y,e⟩:=h x (by simp);obtain⟨ys,e2⟩:=zc (l:=l) fun z hz=>h z (by simp[hz]);exact⟨y::ys,by unfold fB;rw[e,e2];rfl⟩
theorem HL{α β:Type}{f:α->Option β}{l:List α}{x:α}(hx:x∈l)(e:f x=none):fB f l=none:=by
 obtain⟨i,hi⟩:=List.getElem?_of_mem hx;exact jr hi e
theorem Ds{ans:Str->Int->List Wd->Option (Except PY Str)}{U:Str->Bool}{CT CN CB CM:PY}{n:Int}{m:Kept}{ws:List Str}{i:Nat}(n12:n<=12)(h:cO n m ws=some i):
  (nH (fun _=>true) ans U CT CN CB CM).out n m ws=some (.tM (if i=10 then CT else CN))/\(i=10\/i=11):=by
 cases ws with
 |nil=>cases h
 |cons word args=>
  unfold cO at h;dsimp only at h;unfold dX.out nH;dsimp only;rw[Lg word]
  cases hsh:kD word with
  |none=>
   rw[hsh]at h;cases h;exact⟨rfl,.inl rfl⟩
  |some sh=>
   rw[hsh]at h;dsimp only[Option.map_some]at h⊢;have hl:((lY sh).map ik).length=sh.length:=by rw[Pe,me]
   obtain⟨pp,hp,rfl⟩:=sq hsh;obtain⟨_,hsg⟩:=EK pp hp;by_cases c1:args.length≠pp.2.length
   .rw[if_pos c1]at h
    cases h;rw[if_pos (by rw[hl];exact fun z=>c1 z.symm)];exact⟨rfl,.inl rfl⟩
   .rw[if_neg c1]at h
    have c1:args.length=pp.2.length:=Classical.not_not.mp c1;rw[if_neg (by rw[hl];exact fun z=>z c1.symm),if_neg (by simp)];have ez:((lY pp.2).map ik).zip args=((lY pp.2).zip args).map fun p=>(ik p.1,p.2):=zq _ _ _;by_cases c2:∀p∈(lY pp.2).zip args,gz n p.1 p.2
    .rw[if_neg (fun z=>z c2)]at h
     have all:∀p∈(lY pp.2).zip args,∃y,dn n (ik p.1) p.2=some y/\(p.1=Pd "n"->y= .txt p.2):=fun p hp2=>(Bu n12 (hsg p.1 (List.of_mem_zip hp2).1)).1 (c2 p hp2);obtain⟨read,hr⟩:=zc (f:=fun p:Str×Str=>dn n p.1 p.2) (l:=((lY pp.2).map ik).zip args) (by
      rw[ez];intro x hx;obtain⟨p,hp2,rfl⟩:=List.mem_map.mp hx;obtain⟨y,e,_⟩:=all p hp2;exact⟨y,e⟩)
     rw[hr];dsimp only;by_cases c3:∃p∈(lY pp.2).zip args,p.1=Pd "n"/\rowOf m p.2=none
     .rw[if_pos c3]at h
      cases h;obtain⟨p,hp2,e1,e2⟩:=c3;obtain⟨j,hj⟩:=List.getElem?_of_mem hp2;have hj2:(((lY pp.2).map ik).zip args)[j]?=some (ik p.1,p.2):=by rw[ez,Pf,hj];rfl
      obtain⟨y,hy,hf⟩:=sI hr hj2;obtain⟨y',hy',hn⟩:=all p hp2;have hf:dn n (ik p.1) p.2=some y:=hf;have:y= .txt p.2:=by rw[hf]at hy';cases hy';exact hn e1
      subst this;have hd:((lY pp.2).map ik)[j]?=some (ik p.1):=(List.getElem?_zip_eq_some.mp hj2).1;have hz:(((lY pp.2).map ik).zip read)[j]?=some (ik p.1,.txt p.2):=by rw[List.getElem?_zip_eq_some];exact⟨hd,hy⟩
      have hg:xM m (ik p.1) (.txt p.2)=none:=by
       rw[e1];unfold xM;rw[if_pos (by decide+kernel)];dsimp only;rw[e2];rfl
      rw[jr (f:=fun p:Str×Wd=>xM m p.1 p.2) hz hg];exact⟨rfl,.inr rfl⟩
     .rw[if_neg c3]at h
      cases h
    .rw[if_pos c2]at h
     cases h;obtain⟨p,hp2⟩:=Classical.not_forall.mp c2;obtain⟨hp2,hf⟩:=Classical.not_imp.mp hp2;rw[HL (f:=fun p:Str×Str=>dn n p.1 p.2) (x:=(ik p.1,p.2)) (by rw[ez];exact List.mem_map.mpr ⟨p,hp2,rfl⟩) ((Bu n12 (hsg p.1 (List.of_mem_zip hp2).1)).2 hf)];exact⟨rfl,.inl rfl⟩
def IY(t:Str):Prop:=t.length<=60/\PyData.strOk t=true
theorem K4(e:Int×Int):PyData.strOk (gA e)=true:=iH (iH (qW _) (dA "-")) (qW _)
theorem Ei(R:List (Int×Int)):PyData.strOk (eJ R)=true:=by
 unfold eJ
 split
 .exact dA "none"
 .refine kP (dA ",") fun t ht=>?_
  obtain⟨e,_,rfl⟩:=List.mem_map.mp ht;exact K4 e
theorem FR(rs:List (List Int)):PyData.strOk (fk rs)=true:=by
 refine kP (dA "") fun t ht=>?_;obtain⟨r,_,rfl⟩:=List.mem_map.mp ht;exact iH (iH (dA "(") (Gi r)) (dA ")")
theorem n4{α:Type}{f g:α->Nat}:∀{l:List α},(∀x∈l,f x<=g x)->(l.map f).sum<=(l.map g).sum
 |[],_=>PK _
 |x::l,h=>by
  rw[Pm,Pm,List.sum_cons,List.sum_cons];have:=h x (by simp);have:=n4 (f:=f) (g:=g) (l:=l) fun y hy=>h y (by simp[hy]);lia
theorem FT{r:List Int}(h:∀x∈r,1<=x/\x<=12):(iM r).length<=3*r.length:=by
 have h1:=StrLaws.join_length_le (Pd ",") (r.map aF);rw[Pp,Pe,show(Pd ",").length=1 by decide+kernel]at h1;have h2:=n4 (f:=(fun x:Str=>x.length)∘aF) (g:=fun _=>2) (l:=r) fun x hx=>PyProof.Rows.toString_length_le (by have:=h x hx;lia) (by decide) (show x<10^2 by have:=h x hx;lia);have h3:∀l:List Int,(l.map fun _=>2).sum=2*l.length:=fun l=>by induction l with
  |nil=>rfl
  |cons a l ih=>rw[Pm,List.sum_cons,ih,Pl];lia
 rw[h3]at h2;unfold iM;lia
theorem Aq{n:Int}{xs:List Int}(o:Ord n xs)(n1:1<=n)(n12:n<=12):(fk (bj n xs)).length<=60:=by
 obtain⟨_,f2,f3,f4⟩:=ko o n1 n12;have h1:=StrLaws.join_length_le (Pd "") ((bj n xs).map fun r=>Pd "(" ++iM r++Pd ")");rw[Pp,show(Pd "").length=0 by decide+kernel]at h1;have h2:=n4 (f:=(fun x:Str=>x.length)∘fun r=>Pd "(" ++iM r++Pd ")") (g:=fun r=>5*r.length) (l:=bj n xs) fun r hr=>by
  have q:=FT (r:=r) fun x hx=>by have:=f3 r hr x hx;lia
  have ne:=(f2 r hr).1;have:1<=r.length:=by cases r with
   |nil=>exact absurd rfl ne
   |cons a l=>simp
  show(Pd "(" ++iM r++Pd ")").length<=_;rw[Str.length_append,Str.length_append,show(Pd "(").length=1 by decide+kernel,show(Pd ")").length=1 by decide+kernel];lia
 have h3:∀l:List (List Int),(l.map fun r=>5*r.length).sum=5*l.flatten.length:=fun l=>by induction l with
  |nil=>rfl
  |cons a l ih=>rw[Pm,List.sum_cons,ih,List.flatten_cons,Pg];lia
 rw[h3]at h2;unfold fk;lia
theorem y0{ts:List Str}(h:∀t∈ts,IY t)(l:ts.length<=6):(Str.join (Pd " ") ts).length<=400/\PyData.strOk (Str.join (Pd " ") ts)=true/\JoinOk (Pd " ") ts=true:=by
 refine⟨?_,kP (dA " ") fun t ht=>(h t ht).2,cf (B:=60) (by decide+kernel) (fun y hy=>(h y hy).1) (by decide) (by lia)⟩;have h1:=StrLaws.join_length_le (Pd " ") ts;rw[show(Pd " ").length=1 by decide+kernel]at h1;have h2:=n4 (f:=fun x:Str=>x.length) (g:=fun _=>60) (l:=ts) fun x hx=>(h x hx).1;have h3:∀l:List Str,(l.map fun _=>60).sum=60*l.length:=fun l=>by induction l with
  |nil=>rfl
  |cons a l ih=>rw[Pm,List.sum_cons,ih,Pl];lia
 rw[h3]at h2;lia
theorem bo.Je {H H':Hp}{p:PY}{c:Nat}(pu:bo H p c)(s:aL p H H'):∀b xs,H b=some (.tup xs)->H' b=some (.tup xs):=by
 intro b xs hb;obtain⟨ys,hy⟩:=pu.at;exact s b _ (fun z=>by rw[z,hy]at hb;cases hb) hb
def yy:List Str:=["","A","a1","abcdefghi","01","-1","1234567890","1-1","2-1","1-2,","(1)(1)","x.y"]
def rJ:List Str:=["a","b","c","none"]
theorem sD:(∀w∈t8.map (·.1),w.length<=60/\PyData.strOk w=true/\(kD w).isSome=true)/\(∀w∈yy,w.length<=60/\PyData.strOk w=true)/\∀w∈rJ,w.length<=60/\PyData.strOk w=true:=by decide+kernel
def EY:Sp:=fun vs H Q _=>∃(p l:PY)(c:Nat)(n:Int)(es:List V)(row:List (Int×Int)),vs=[.ref p,.int n,.ref l]/\l≠p/\bo H p c/\c<=80000/\1<=n/\n<=12/\H l=some (.lst es)/\jm H es row/\row.length<=6/\Kr row/\
 ∀x H' c',x.length<=400->PyData.strOk x=true->bo H' p c'->c'<=c+2000->aL p H H'->Q (.str x) H'
structure JA(P:P0)(w:P4)(K:W.Frag)(mg:Str->Option PX)(base:Qd):Prop extends T1 mg K where
 az:FnAt P w K mg base "_law_take" 1 ["_law_purse_here","_law_many"] mV
 dw:FnAt P w K mg base "_law_shapes" 1 [] Cd
 bV:FnAt P w K mg base "_law_row_word" 1 ["_law_row_here"] B5
 iA:FnAt P w K mg base "_law_order_word" 2 ["_law_order_here"] IX
 nI:FnAt P w K mg base "_law_order" 3 ["_law_purse_here","_law_n"] Cg
 gh:mg "sorted" =none
 di:mg "str" =none
 ic:mg "min" =none
 qe:mg "max" =none
section
variable{P:P0}{w:P4}{K:W.Frag}{mg:Str->Option PX}{base:Qd}
theorem aU:aE ["_law_purse_here","_law_n","_law_row_here","_law_shapes_here","_law_word","_law_odd","_law_sort","_law_at","_law_which","_law_many","_law_said_here","_law_sign","_law_more","_law_name"] ["_law_purse_here","_law_n","_law_row_here"] (av (top 131)):=⟨rfl,rfl,rfl,by decide+kernel,rfl,by decide+kernel,by decide+kernel⟩
theorem Iv{f:PY}{fd:Qc}(F:dU K "_law_said" "_law_said" (top 131) f fd)(T:JA P w K mg base):aQ P w K mg base i4 5 f fd ["_law_purse_here","_law_n","_law_row_here"] EY:=by
 refine F.ok aU (fun vs H Q E h=>?_) (fun cdv A outer s H vs Q E hr h=>?_)
 .obtain⟨p,l,c,n,es,row,rfl,h⟩:=h
  rfl
 .obtain⟨p,l,c,n,es,row,rfl,pnp,pu,hc,n1,n2,hl,hx,rl,sx,k⟩:=h
  have hu:=pZ hr;refine⟨_,(@ag _ _ _ _ _ (aC (i:=3) aU.nd rfl (Or.inl rfl) (uL T.dw (hr.mono (by first|decide|lia)) rfl))
   (@ag _ _ _ _ _ (aC (i:=4) aU.nd rfl (Or.inl rfl) (bC (aJ (K:=K) rfl) (ar (nP rfl) rfl T.gh (by decide+kernel) (aa (pv 3) ae)) (aq T.az (hr.mono (by first|decide|lia)) rfl (aa (pv 0) (aa (ar CL rfl T.bX (by decide+kernel) (aa (pv 3) ae)) ae))) (fun _ _=>rfl)))
   (@ag _ _ _ _ _ (aC (i:=5) aU.nd rfl (Or.inl rfl) (aq T.az (hr.mono (by first|decide|lia)) rfl (aa (pv 0) (aa aj ae))))
   (@ag _ _ _ _ _ (aC (i:=6) aU.nd rfl (Or.inl rfl) (aq T.az (hr.mono (by first|decide|lia)) rfl (aa (pv 0) (aa aj ae))))
   (@ag _ _ _ _ _ (aC (i:=7) aU.nd rfl (Or.inl rfl) (aq T.az (hr.mono (by first|decide|lia)) rfl (aa (pv 0) (aa aj ae))))
   (@ag _ _ _ _ _ (aC (i:=8) aU.nd rfl (Or.inl rfl) (aq T.az (hr.mono (by first|decide|lia)) rfl (aa (pv 0) (aa aj ae))))
   (@ag _ _ _ _ _ (@aC _ _ 9 _ _ _ _ aU.nd rfl (Or.inl rfl) (@bC _ _ _ _ _ _ _ (aJ (K:=K) rfl) (@bH _ _ _ _ (@aa _ _ _ _ _ (pv 1) (@aa _ _ _ _ _ (pv 1) (@aa _ _ _ _ _ (aG ku (pv 1) aj) (@aa _ _ _ _ _ (aG bG (pv 1) aj) (@aa _ _ _ _ _ (aG bG aj (aq T.az (hr.mono (by first|decide|lia)) rfl (aa (pv 0) (aa aj ae)))) ae sO) sO) sO) bA) bA)) (pv 8) (fun _ _=>rfl)) (by rfl) (by first|exact .inl rfl|exact .inr rfl))
   (@ag _ _ _ _ _ (aC (i:=10) aU.nd rfl (Or.inl rfl) (bH (aa (pv 4) ae)))
   (@ag _ _ _ _ _ (cP PassesOwn.never rfl (wk (n5 hu (pv 3) (pv 4) (fun _ _=>rfl))) (aA (i:=11) aU.nd rfl (Or.inl rfl)) (@ag _ _ _ _ _ (@aC _ _ 13 _ _ _ _ aU.nd rfl (Or.inl rfl) (@bC _ _ _ _ _ _ _ (aJ (K:=K) rfl) (@bH _ _ _ _ (@gZ _ _ [V.str (Pd "a"),V.str (Pd "b"),V.str (Pd "c"),V.str (Pd "none")] rfl)) (aq T.az (hr.mono (by first|decide|lia)) rfl (aa (pv 0) (aa aj ae))) (fun _ _=>rfl)) (by rfl) (by first|exact .inl rfl|exact .inr rfl))
   (ag (aN (aw bR (pv 11) ak (aB _)) (ah (aC (i:=13) aU.nd rfl (Or.inl rfl) (aY cH rfl T.di (by decide+kernel) (aa (aq T.az (hr.mono (by first|decide|lia)) rfl (aa (pv 0) (aa aj ae))) ae)))) ax)
   (ag (aN (aw bR (pv 11) ak (aB _)) (ah (aC (i:=13) aU.nd rfl (Or.inl rfl) (aq T.bV (hr.mono (by first|decide|lia)) rfl (aa (pv 2) ae)))) ax)
   (ag (aN (aw bR (pv 11) ak (aB _)) (ah (aC (i:=13) aU.nd rfl (Or.inl rfl) (aq T.iA (hr.mono (by first|decide|lia)) rfl (aa (aq T.nI (hr.mono (by first|decide|lia)) rfl (aa (pv 0) (aa (ar (lP rfl) rfl T.ic (by decide+kernel) (aa aj (aa (ar (oR rfl) rfl T.qe (by decide+kernel) (aa aj (aa (pv 9) ae))) ae))) ae))) ae)))) ax)
   (ah (cj (aP (K:=K) rfl PySem.F.plainAttrs_list PySem.F.slot_list_append PySem.F.type_list_append c8 (pv 10) (aa (pv 13) ae)))))))))
   (@ag _ _ _ _ _ (@aC _ _ 12 _ _ _ _ aU.nd rfl (Or.inl rfl) (@bC _ _ _ _ _ _ _ (aJ (K:=K) rfl) (@bH _ _ _ _ (@gZ _ _ [V.str (Pd ""),V.str (Pd "A"),V.str (Pd "a1"),V.str (Pd "abcdefghi"),V.str (Pd "01"),V.str (Pd "-1"),V.str (Pd "1234567890"),V.str (Pd "1-1"),V.str (Pd "2-1"),V.str (Pd "1-2,"),V.str (Pd "(1)(1)"),V.str (Pd "x.y")] rfl)) (pv 6) (fun _ _=>rfl)) (by rfl) (by first|exact .inl rfl|exact .inr rfl))
   (ag (aN (aw bR (pv 5) aj (aB _)) (ah (pJ (pv 12) (pK (pv 10) (aG h7 (pv 7) (ar (aZ (K:=K) rfl) rfl T.bX (by decide+kernel) (aa (pv 10) ae))) set_list))) ax)
   (ag (aN (aw bR (pv 5) aj (aB _)) (ah (cj (aP (K:=K) rfl PySem.F.plainAttrs_list PySem.F.slot_list_insert PySem.F.type_list_insert Ad (pv 10) (aa (pv 7) (aa (pv 12) ae))))) ax)
   (ag (aN (PW.pt (pH (aw bR (pv 5) aj (aB _)) (lN (aw qo (pv 7) aj (aB _))))) (ah (cj (om (K:=K) rfl PySem.F.plainAttrs_list PySem.F.slot_list_pop PySem.F.type_list_pop JW (pv 10)))) ax)
   (ah (ay (aP (K:=K) rfl PySem.F.plainAttrs_str PySem.F.slot_str_join PySem.F.type_str_join (iE (K:=K) rfl) ak (aa (pv 10) ae))))))))))))))))),?_⟩
  have big:(10000000:Nat)<=P6:=by decide
  refine⟨rfl,fun d H1 fd hd s1=>?_⟩;have pu1:=pu.keep s1;refine⟨_,rfl,d,dC,t8.map (·.1),rfl,hd,by kernel_rfl,by decide,fun l1 ks f1 pm so=>?_⟩;have kl:ks.length=21:=by rw[pm.length_eq];rfl
  have s2:=s1.trans (ai.new (o:= .lst (ks.map V.str)) f1);have hd2:=ai.new (o:= .lst (ks.map V.str)) f1 _ _ hd;have q2:upd H1 l1 (.lst (ks.map V.str)) l1=some (.lst (ks.map V.str)):=af;have pu2:=pu.keep s2;generalize upd H1 l1 (.lst (ks.map V.str))=H2 at s2 hd2 q2 pu2⊢;refine⟨_,rfl,_,rfl,d,dC,rfl,hd2,p,c,21,rfl,pu2,by lia,by decide,by decide,fun r H3 r0 r1 pu3 x3=>?_⟩;obtain⟨w0,hw0⟩:∃w0,ks[r.toNat]?=some w0:=⟨_,Ph (by lia)⟩;have w0m:w0∈t8.map (·.1):=pm.mem_iff.mp (Pr hw0);obtain⟨w0a,w0b,w0c⟩:=sD.1 w0 w0m;obtain⟨sh,hsh⟩:=Option.isSome_iff_exists.mp w0c;obtain⟨pp,hpp,epp⟩:=sq hsh;obtain⟨⟨asc,l3⟩,hsg⟩:=EK pp hpp;rw[epp]at asc l3 hsg;have pne1:l1≠p:=fun z=>by
   have:=pu.at;obtain⟨ys,hy⟩:=this;have:=s1 _ _ hy;rw[z]at f1;rw[f1]at this;cases this
  have pned:d≠p:=fun z=>by
   obtain⟨ys,hy⟩:=pu2.at;rw[z,hy]at hd2;cases hd2
  refine⟨l1,_,r,.str w0,rfl,rfl,aI.of (x3 _ _ pne1 q2),by
   obtain⟨j,rfl⟩:=Int.eq_ofNat_of_zero_le r0;exact bN (j:=j) (by rw[Pf];rw[Int.toNat_natCast]at hw0;rw[hw0];rfl),?_⟩
  have x3':=(s2.x (p:=p)).trans x3;have hd3:=x3 _ _ pned hd2;refine⟨_,rfl,p,c+1,4,rfl,pu3,by lia,by decide,by decide,fun odd H4 o0 o1 pu4 x4=>?_⟩;refine⟨_,rfl,p,c+2,12,rfl,pu4,by lia,by decide,by decide,fun zo H5 q0 q1 pu5 x5=>?_⟩;refine⟨_,rfl,p,c+3,4,rfl,pu5,by lia,by decide,by decide,fun at_ H6 a0 a1 pu6 x6=>?_⟩;refine⟨_,rfl,p,c+4,5,rfl,pu6,by lia,by decide,by decide,fun wh H7 h0 h1 pu7 x7=>?_⟩;refine⟨_,rfl,_,rfl,_,rfl,_,_,rfl,rfl,_,rfl,_,_,rfl,rfl,_,rfl,p,c+5,12,rfl,pu7,by lia,by decide,by decide,fun t12 H8 g0 g1 pu8 x8=>?_⟩;refine⟨_,_,rfl,rfl,by show(5:Nat)<=_;lia,fun l8 f8=>?_⟩;obtain⟨many,hmany⟩:∃many:Int,wm [V.int n,V.int n,V.int (n-1),V.int (n+1),V.int (1+t12)] wh=some (V.int many):=by
   have:wh=0\/wh=1\/wh=2\/wh=3\/wh=4:=by lia
   rcases this with rfl|rfl|rfl|rfl|rfl
   .exact⟨_,rfl⟩
   .exact⟨_,rfl⟩
   .exact⟨_,rfl⟩
   .exact⟨_,rfl⟩
   .exact⟨_,rfl⟩
  have q8:upd H8 l8 (.lst [V.int n,V.int n,V.int (n-1),V.int (n+1),V.int (1+t12)]) l8=some (.lst [V.int n,V.int n,V.int (n-1),V.int (n+1),V.int (1+t12)]):=af;refine⟨_,rfl,l8,_,wh,.int many,rfl,rfl,aI.of q8,hmany,?_⟩;have x9:aL p H (upd H8 l8 (.lst [V.int n,V.int n,V.int (n-1),V.int (n+1),V.int (1+t12)])):=(((((x3'.trans x4).trans x5).trans x6).trans x7).trans x8).trans (ai.new f8).x;have pu9:bo (upd H8 l8 (.lst [V.int n,V.int n,V.int (n-1),V.int (n+1),V.int (1+t12)])) p (c+6):=pu8.keep (ai.new f8);have hd9:=(ai.new (o:= .lst [V.int n,V.int n,V.int (n-1),V.int (n+1),V.int (1+t12)]) f8) _ _ (x8 _ _ pned (x7 _ _ pned (x6 _ _ pned (x5 _ _ pned (x4 _ _ pned hd3)))));generalize upd H8 l8 (.lst [V.int n,V.int n,V.int (n-1),V.int (n+1),V.int (1+t12)])=Hb at x9 pu9 hd9⊢;clear q8 hmany;refine⟨_,rfl,by show(1:Nat)<=_;lia,fun ls fl=>?_⟩;have pnl:ls≠p:=fun z=>by
   obtain⟨ys,hy⟩:=pu9.at;rw[z,hy]at fl;cases fl
  have xb:aL p Hb (upd Hb ls (.lst ([w0].map V.str))):=(ai.new fl).x;have pu10:bo (upd Hb ls (.lst ([w0].map V.str))) p (c+6):=pu9.keep (ai.new fl);have q10:upd Hb ls (.lst ([w0].map V.str)) ls=some (.lst ([w0].map V.str)):=af;have hd10:=(ai.new (o:= .lst ([w0].map V.str)) fl) _ _ hd9;have offl:∀{G:Hp}{o:HO},aL p Hb G->aL p Hb (upd G ls o):=fun{G o} xg b u nb e=>by
   have ne:b≠ls:=fun z=>by rw[z,fl]at e;cases e
   rw[ao ne];exact xg b u nb e
  show AY _ _ _ _ (upd Hb ls (.lst ([w0].map V.str)));generalize upd Hb ls (.lst ([w0].map V.str))=H10 at xb pu10 q10 hd10⊢;have dk:kU H10 d (.str w0) (some (.str sh)):=by
   have:=kU.k (k:= .inr w0) hd10;rw[Fn,hsh]at this;exact this
  refine⟨_,rfl,_,rfl,d,.str sh,rfl,dk,sh,rfl,?_⟩;refine GN (fun i σ H'=>∃v11 v12 v13 ts c',σ=[some (.ref p),some (.int n),some (.ref l),some (.ref d),some (.str w0),some (.int odd),some (.int zo),some (.int at_),some (.int wh),some (.int many),some (.ref ls),v11,v12,v13]/\bo H' p c'/\c'<=c+10+i*400/\aL p Hb H'/\H' ls=some (.lst (ts.map V.str))/\ts.length=i+1/\∀t∈ts,IY t) ⟨_,_,_,[w0],c+6,rfl,pu10,by lia,xb,q10,rfl,fun t ht=>by
   have:t=w0:=by simpa using ht
   rw[this];exact⟨w0a,w0b⟩⟩ ?_ ?_
  .rintro i ch σ H' hch ⟨v11,v12,v13,ts,c',rfl,puh,lc,xh,hls,tl,tok⟩
   have il:i<3:=by
    have h:i<sh.cps.size:=by
     rcases Nat.lt_or_ge i sh.cps.size with h|h
     .exact h
     .rw[Array.getElem?_eq_none h]at hch;cases hch
    have h':sh.cps.size=sh.length:=rfl;lia
   have c9:c'<=90000:=by lia
   have sgm:(⟨#[ch]⟩:Str)=Pd "K"\/(⟨#[ch]⟩:Str)=Pd "T"\/(⟨#[ch]⟩:Str)=Pd "O"\/(⟨#[ch]⟩:Str)=Pd "N"\/(⟨#[ch]⟩:Str)=Pd "n" :=by
    refine hsg _ ?_;unfold lY;refine List.mem_map.mpr ⟨ch,?_,rfl⟩;rw[←Array.getElem?_toList]at hch;exact Pr hch
   generalize(⟨#[ch]⟩:Str)=sg at sgm⊢;refine⟨by decide,fun l9 f9=>?_⟩;have pn9:l9≠p:=fun z=>by
    obtain⟨ys,hy⟩:=puh.at;rw[z,hy]at f9;cases f9
   have nl9:ls≠l9:=fun z=>by rw[z,f9]at hls;cases hls
   have q9:upd H' l9 (.lst [V.str (Pd "a"),V.str (Pd "b"),V.str (Pd "c"),V.str (Pd "none")]) l9=some (.lst [V.str (Pd "a"),V.str (Pd "b"),V.str (Pd "c"),V.str (Pd "none")]):=af;have puh9:bo (upd H' l9 (.lst [V.str (Pd "a"),V.str (Pd "b"),V.str (Pd "c"),V.str (Pd "none")])) p c':=puh.keep (ai.new f9);have xh9:=xh.trans (ai.new (o:= .lst [V.str (Pd "a"),V.str (Pd "b"),V.str (Pd "c"),V.str (Pd "none")]) f9).x;have hls9:=ai.new (o:= .lst [V.str (Pd "a"),V.str (Pd "b"),V.str (Pd "c"),V.str (Pd "none")]) f9 _ _ hls;generalize upd H' l9 (.lst [V.str (Pd "a"),V.str (Pd "b"),V.str (Pd "c"),V.str (Pd "none")])=G at q9 puh9 xh9 hls9⊢;refine⟨_,rfl,p,c',4,rfl,puh9,by lia,by decide,by decide,fun r9 G1 e0 e1 pu11 x11=>?_⟩;obtain⟨nm,hnm,anm⟩:∃nm,nm∈rJ/\wm (rJ.map V.str) r9=some (.str nm):=by
    have:r9=0\/r9=1\/r9=2\/r9=3:=by lia
    rcases this with rfl|rfl|rfl|rfl
    .exact⟨"a",by simp[rJ],rfl⟩
    .exact⟨"b",by simp[rJ],rfl⟩
    .exact⟨"c",by simp[rJ],rfl⟩
    .exact⟨"none",by simp[rJ],rfl⟩
   have nok:IY nm:=sD.2.2 nm hnm;refine⟨l9,_,r9,.str nm,rfl,rfl,aI.of (x11 _ _ pn9 q9),anm,?_⟩;have xh11:=xh9.trans x11;have hls11:=x11 _ _ pnl hls9;have tail:∀(sg x1:Str)(v12:Option V)(G2:Hp)(c2:Nat),IY x1->bo G2 p c2->c2<=c'+350->aL p Hb G2->G2 ls=some (.lst (ts.map V.str))->∀{Dq:Ends},(∀σ' H',(∃(v11 v12 v13:Option V)(ts:List Str)(c':Nat),σ'=[some (.ref p),some (.int n),some (.ref l),some (.ref d),some (.str w0),some (.int odd),some (.int zo),some (.int at_),some (.int wh),some (.int many),some (.ref ls),v11,v12,v13]/\bo H' p c'/\c'<=c+10+(i+1)*400/\aL p Hb H'/\H' ls=some (.lst (ts.map V.str))/\ts.length=i+1+1/\∀t∈ts,IY t)->Dq.nx σ' H')->
     (Js (Nu K "list" Bs (qw 10) (qh (qw 13) wt))) Dq [some (.ref p),some (.int n),some (.ref l),some (.ref d),some (.str w0),some (.int odd),some (.int zo),some (.int at_),some (.int wh),some (.int many),some (.ref ls),some (.str sg),v12,some (.str x1)] G2:=by
    intro sg x1 v12 G2 c2 ok1 pu2 lc2 xg hg Dq hq;refine⟨_,rfl,.inl ⟨rfl,_,aI.of hg⟩,_,rfl,ls,_,_,rfl,rfl,hg,by rw[Pe];lia,hq _ _ ⟨_,_,_,ts++[x1],c2,rfl,pu2.upd (fun z=>pnl z.symm),by lia,offl xg,by rw[af,Pj];rfl,by rw[Pg,tl];rfl,fun t ht=>?_⟩⟩;rcases List.mem_append.mp ht with ht|ht
    .exact tok t ht
    .have:t=x1:=by simpa using ht
     rw[this];exact ok1
   rcases sgm with rfl|rfl|rfl|rfl|rfl
   .refine⟨_,rfl,rfl,_,rfl,kc (by decide+kernel) ?_⟩
    refine⟨_,rfl,p,c'+1,14,rfl,pu11,by lia,by decide,by decide,fun r12 G2 b0 b1 pu12 x12=>⟨r12,rfl,c7 (by lia) (by lia),?_⟩⟩;refine⟨_,rfl,rfl,_,rfl,bI (by decide+kernel) ?_⟩;refine⟨_,rfl,rfl,_,rfl,bI (by decide+kernel) ?_⟩;exact tail _ _ _ _ (c'+1+1) ⟨PN (PyProof.Rows.toString_length_le b0 (by decide) (show r12<10^2 by lia)) (by decide),qW r12⟩ pu12 (by lia) (xh11.trans x12) (x12 _ _ pnl hls11) fun _ _ h=>h
   .refine⟨_,rfl,rfl,_,rfl,bI (by decide+kernel) ?_⟩
    refine⟨_,rfl,rfl,_,rfl,kc (by decide+kernel) ?_⟩;refine⟨_,rfl,l,es,row,rfl,(x9.trans xh11) _ _ pnp hl,hx.keep (pu.Je (x9.trans xh11)),by lia,sx,fun G2 sG=>?_⟩;refine⟨_,rfl,rfl,_,rfl,bI (by decide+kernel) ?_⟩;exact tail _ _ _ _ (c'+1) ⟨by have:=yL sx;lia,Ei row⟩ (pu11.keep sG) (by lia) (xh11.trans sG.x) (sG _ _ hls11) fun _ _ h=>h
   .refine⟨_,rfl,rfl,_,rfl,bI (by decide+kernel) ?_⟩
    refine⟨_,rfl,rfl,_,rfl,bI (by decide+kernel) ?_⟩;refine⟨_,rfl,rfl,_,rfl,kc (by decide+kernel) ?_⟩;have vv:∀M:Int,1<=(if(if M>1 then M else 1)<12 then(if M>1 then M else 1)else 12:Int)/\(if(if M>1 then M else 1)<12 then(if M>1 then M else 1)else 12:Int)<=12:=fun M=>by split<;>split<;>lia
    refine⟨_,rfl,_,rfl,_,_,rfl,_,_,rfl,p,c'+1,_,rfl,pu11,by lia,(vv many).1,by have:=(vv many).2;lia,fun t xs G2 ft ht o pu12 x12=>?_⟩;refine⟨t,_,xs,rfl,ht,o,(vv many).1,(vv many).2,fun G3 sG=>?_⟩;exact tail _ _ _ _ (c'+1+300) ⟨Aq o (vv many).1 (vv many).2,FR _⟩ (pu12.keep sG) (by lia) ((xh11.trans x12).trans sG.x) (sG _ _ (x12 _ _ pnl hls11)) fun _ _ h=>h
   .refine⟨_,rfl,rfl,_,rfl,bI (by decide+kernel) ?_⟩
    refine⟨_,rfl,rfl,_,rfl,bI (by decide+kernel) ?_⟩;refine⟨_,rfl,rfl,_,rfl,bI (by decide+kernel) ?_⟩;exact tail _ _ _ _ (c'+1) nok pu11 (by lia) xh11 hls11 fun _ _ h=>h
   .refine⟨_,rfl,rfl,_,rfl,bI (by decide+kernel) ?_⟩
    refine⟨_,rfl,rfl,_,rfl,bI (by decide+kernel) ?_⟩;refine⟨_,rfl,rfl,_,rfl,bI (by decide+kernel) ?_⟩;exact tail _ _ _ _ (c'+1) nok pu11 (by lia) xh11 hls11 fun _ _ h=>h
  .rintro σ H' ⟨v11,v12,v13,ts,c',rfl,puh,lc,xh,hls,tl,tok⟩
   refine⟨by show(12:Nat)<=_;lia,fun l9 f9=>?_⟩;have nl9:ls≠l9:=fun z=>by rw[z,f9]at hls;cases hls
   have q9:upd H' l9 (.lst [V.str (Pd ""),V.str (Pd "A"),V.str (Pd "a1"),V.str (Pd "abcdefghi"),V.str (Pd "01"),V.str (Pd "-1"),V.str (Pd "1234567890"),V.str (Pd "1-1"),V.str (Pd "2-1"),V.str (Pd "1-2,"),V.str (Pd "(1)(1)"),V.str (Pd "x.y")]) l9=some (.lst [V.str (Pd ""),V.str (Pd "A"),V.str (Pd "a1"),V.str (Pd "abcdefghi"),V.str (Pd "01"),V.str (Pd "-1"),V.str (Pd "1234567890"),V.str (Pd "1-1"),V.str (Pd "2-1"),V.str (Pd "1-2,"),V.str (Pd "(1)(1)"),V.str (Pd "x.y")]):=af;have puh9:bo (upd H' l9 (.lst [V.str (Pd ""),V.str (Pd "A"),V.str (Pd "a1"),V.str (Pd "abcdefghi"),V.str (Pd "01"),V.str (Pd "-1"),V.str (Pd "1234567890"),V.str (Pd "1-1"),V.str (Pd "2-1"),V.str (Pd "1-2,"),V.str (Pd "(1)(1)"),V.str (Pd "x.y")])) p c':=puh.keep (ai.new f9);have xh9:=xh.trans (ai.new (o:= .lst [V.str (Pd ""),V.str (Pd "A"),V.str (Pd "a1"),V.str (Pd "abcdefghi"),V.str (Pd "01"),V.str (Pd "-1"),V.str (Pd "1234567890"),V.str (Pd "1-1"),V.str (Pd "2-1"),V.str (Pd "1-2,"),V.str (Pd "(1)(1)"),V.str (Pd "x.y")]) f9).x;have hls9:=ai.new (o:= .lst [V.str (Pd ""),V.str (Pd "A"),V.str (Pd "a1"),V.str (Pd "abcdefghi"),V.str (Pd "01"),V.str (Pd "-1"),V.str (Pd "1234567890"),V.str (Pd "1-1"),V.str (Pd "2-1"),V.str (Pd "1-2,"),V.str (Pd "(1)(1)"),V.str (Pd "x.y")]) f9 _ _ hls;generalize upd H' l9 (.lst [V.str (Pd ""),V.str (Pd "A"),V.str (Pd "a1"),V.str (Pd "abcdefghi"),V.str (Pd "01"),V.str (Pd "-1"),V.str (Pd "1234567890"),V.str (Pd "1-1"),V.str (Pd "2-1"),V.str (Pd "1-2,"),V.str (Pd "(1)(1)"),V.str (Pd "x.y")])=G at q9 puh9 xh9 hls9⊢;obtain⟨mo,hmo,amo⟩:∃mo,mo∈yy/\wm [V.str (Pd ""),V.str (Pd "A"),V.str (Pd "a1"),V.str (Pd "abcdefghi"),V.str (Pd "01"),V.str (Pd "-1"),V.str (Pd "1234567890"),V.str (Pd "1-1"),V.str (Pd "2-1"),V.str (Pd "1-2,"),V.str (Pd "(1)(1)"),V.str (Pd "x.y")] zo=some (.str mo):=by
    obtain⟨j,rfl⟩:=Int.eq_ofNat_of_zero_le q0;have jl:j<yy.length:=by show j<12;lia
    exact⟨yy[j],List.getElem_mem jl,bN (j:=j) (by show(yy.map V.str)[j]?=_;rw[Pf,Ph jl];rfl)⟩
   have mok:IY mo:=sD.2.1 mo hmo;refine⟨_,rfl,l9,_,zo,.str mo,rfl,rfl,aI.of q9,amo,?_⟩;have xz:=x9.trans xh9;clear q9 amo;have fin:∀(G2:Hp)(ts2:List Str),bo G2 p c'->aL p Hb G2->G2 ls=some (.lst (ts2.map V.str))->ts2.length<=6->(∀t∈ts2,IY t)->Q (.str (Str.join (Pd " ") ts2)) G2:=fun G2 ts2 pu2 xg _ l2 ok2=>by
    obtain⟨ja,jb,_⟩:=y0 ok2 l2;exact k _ _ c' ja jb pu2 (by have:sh.length<=3:=l3;lia) (x9.trans xg)
   have tl4:ts.length<=4:=by lia
   have last:∀(G2:Hp)(ts2:List Str),bo G2 p c'->aL p Hb G2->G2 ls=some (.lst (ts2.map V.str))->ts2.length<=6->(∀t∈ts2,IY t)->(FU (Nu K "str" (rJoin K) (tC (V.str (Pd " "))) (qh (qw 10) wt))) {nx:=fun x H'=>Q V.cE H',rt:=Q} [some (.ref p),some (.int n),some (.ref l),some (.ref d),some (.str w0),some (.int odd),some (.int zo),some (.int at_),some (.int wh),some (.int many),some (.ref ls),v11,some (.str mo),v13] G2:=fun G2 ts2 pu2 xg hg l2 ok2=>
    ⟨rfl,_,rfl,_,ls,ts2,rfl,rfl,aI.of hg,(y0 ok2 l2).2.2,fin G2 ts2 pu2 xg hg l2 ok2⟩
   have pus:∀o,bo (upd G ls o) p c':=fun o=>puh9.upd (fun z=>pnl z.symm);have oc:odd=0\/odd=1\/odd=2\/odd=3:=by lia
   rcases oc with rfl|rfl|rfl|rfl
   .refine⟨_,rfl,rfl,_,rfl,kc (by decide) ?_⟩
    have lp:(0:Int)<((ts.map V.str).length:Int):=by rw[Pe];lia
    have m0:=Int.emod_nonneg at_ (by lia:((ts.map V.str).length:Int)≠0)
    have m1:=Int.emod_lt_of_pos at_ lp
    refine⟨_,rfl,_,rfl,_,rfl,_,rfl,ls,_,rfl,.inl (aI.of hls9),_,_,rfl,rfl,lp,ls,_,_,(at_%((ts.map V.str).length:Int)).toNat,rfl,rfl,hls9,?_,?_⟩
    .unfold Gr
     rw[if_pos m0,if_pos m1]
    refine⟨_,rfl,rfl,_,rfl,bI (by decide) ?_⟩;refine⟨_,rfl,rfl,_,rfl,bI (by decide) ?_⟩;refine last _ (ts.set (at_%((ts.map V.str).length:Int)).toNat mo) (pus _) (offl xh9) (by rw[af,List.map_set]) (by rw[List.length_set];lia) fun t ht=>?_;rcases List.mem_or_eq_of_mem_set ht with h|h
    .exact tok t h
    .rw[h];exact mok
   .refine⟨_,rfl,rfl,_,rfl,bI (by decide) ?_⟩
    refine⟨_,rfl,rfl,_,rfl,kc (by decide) ?_⟩;refine⟨_,rfl,.inl ⟨rfl,_,aI.of hls9⟩,_,rfl,_,rfl,ls,_,at_,_,rfl,rfl,hls9,a0,by lia,by rw[Pe];lia,?_⟩;refine⟨_,rfl,rfl,_,rfl,bI (by decide) ?_⟩;refine last _ (ts.take at_.toNat++mo::ts.drop at_.toNat) (pus _) (offl xh9) (by rw[af,Pj,Pm,List.map_take,List.map_drop]) (by rw[Pg,Pn,Pl,List.length_drop];lia) fun t ht=>?_;rcases List.mem_append.mp ht with h|h
    .exact tok t (List.mem_of_mem_take h)
    .rcases List.mem_cons.mp h with h|h
     .rw[h];exact mok
     .exact tok t (List.mem_of_mem_drop h)
   .refine⟨_,rfl,rfl,_,rfl,bI (by decide) ?_⟩
    refine⟨_,rfl,rfl,_,rfl,bI (by decide) ?_⟩;refine⟨_,rfl,rfl,_,rfl,kc (by decide) ?_⟩;refine⟨_,rfl,_,_,rfl,rfl,_,rfl,cg (fun _=>?_) (fun _=>?_)⟩
    .obtain⟨y,hy⟩:∃y,(ts.map V.str)[(ts.map V.str).length-1]?=some y:=⟨_,Ph (by rw[Pe];lia)⟩
     refine⟨_,rfl,.inl ⟨rfl,_,aI.of hls9⟩,ls,_,y,rfl,rfl,hls9,hy,?_⟩;refine last _ ts.dropLast (pus _) (offl xh9) (by rw[af,List.map_dropLast]) (by rw[List.length_dropLast];lia) fun t ht=>tok t ((List.dropLast_sublist ts).subset ht)
    .exact last _ ts puh9 xh9 hls9 (by lia) tok
   .refine⟨_,rfl,rfl,_,rfl,bI (by decide) ?_⟩
    refine⟨_,rfl,rfl,_,rfl,bI (by decide) ?_⟩;refine⟨_,rfl,rfl,_,rfl,bI (by decide) ?_⟩;exact last _ ts puh9 xh9 hls9 (by lia) tok
end
end Sw
namespace L2
open PySem PySem.Spec PyProof.Rows PySem.W
def Nn(X:Cx)(hs:List ExceptHandler)(th:TH):Prop:=
 ∀(pins:List (PY×Obj))(s:PZ)(σ:St)(H:Hp)(D:Ends)(e:PY)(cls:PX)(bb:Option PY),m9 X pins σ H s e cls bb->th D σ cls e H->Qf (model X.prog X.w) X.A (handleBy (.ref e) X.env hs) (SP X pins D) X.xe s
def N8(K:Frag)(D:PY)(i:Nat)(ts:TS)(th:TH):TH:=fun Dn σ cls e H=>∃C b,cls= .ref C/\ua K C D b/\
 if b=true then∀bb,ts {nx:=fun σ' H'=>Dn.nx (σ'.set i none) H',rt:=Dn.rt,bk:=fun σ' H'=>Dn.bk (σ'.set i none) H',ct:=fun σ' H'=>Dn.ct (σ'.set i none) H'} (σ.set i (some (.ref e))) (upd H e (.exc e C bb))else th Dn σ cls e H
def MQ(tb:(St->XK)->TS)(th:TH):TS:=fun D σ H=>tb (fun σ' cls _ H'=>∀e,H' e=none->th D σ' cls e H') D σ H
section
variable{X:Cx}{hs:List ExceptHandler}{th:TH}{ts:TS}{D:PY}{x n:Str}{np pos:Pos}{b₀:Stmt}{suite:List Stmt}{i:Nat}
theorem Ha:Nn X [] Jr:=fun _ _ _ _ _ _ _ _ _ h=>h.elim
theorem C3(hN:X.N.Nodup)(hi:X.N[i]?=some n)(hk:X.env.scope.names.lookup n=some .local)(hg:Gl X x)(hm:X.mg x=some (.ref D))(hb:∀e,t5 (Xh X e) (b₀::suite) ts)(hr:Nn X hs th)(hdb:(x==("__debug__" :Str))=false:=by decide):
  Nn X (.ExceptHandler (some (.Name x np)) (some n) (b₀::suite) pos::hs) (N8 X.K D i ts th):=by
 intro pins s σ H Dn e cls bb hh h;obtain⟨C,b,rfl,m,h⟩:=h;have I:=hh.inv;refine wpAny_handleBy_cons (codeAny_handlers_test (fY (X:=Xh X e) (I.NN e) hg hm ?_ hdb)) (by intro q;cases q);refine ql m I.jD hh.NV ?_
 cases b with
 |false=>exact hr pins s σ H Dn e _ bb hh (by rw[if_neg PR]at h;exact h)
 |true=>
  rw[if_pos rfl]at h;refine codeAny_handlers_suite_as (hh.lands fun h' hh'=>?_);refine kn (X:=X) (v:= .ref e) hh'.xS hN hi (.inl hk) rfl (fun s2 I2=>?_) (.inr hk);refine Qa (hb e pins s2 _ _ _ (I2.NN e) (h bb)) (fun f s₃ z=>?_) fun _ _ z=>False.elim z;have z:=z.Lx I.ok
  cases f with
  |next=>obtain⟨σ',H',J,q⟩:=z;exact qJ J hN hi hk fun s' J'=>⟨_,H',J',q⟩
  |brk=>obtain⟨σ',H',J,q⟩:=z;exact qJ J hN hi hk fun s' J'=>⟨_,H',J',q⟩
  |cont=>obtain⟨σ',H',J,q⟩:=z;exact qJ J hN hi hk fun s' J'=>⟨_,H',J',q⟩
  |ret u=>obtain⟨v,σ',H',J,r,q⟩:=z;exact qJ J hN hi hk fun s' J'=>⟨v,_,H',J',r,q⟩
end
section
variable{X:Cx}
theorem Hh{body:List Stmt}{h₀:ExceptHandler}{hs:List ExceptHandler}{pos:Pos}{tb:(St->XK)->TS}{th:TH}(hb:∀pins Es,t5 (Xt X pins Es) body (tb Es))(hh:Nn X (h₀::hs) th)
  (hst:X.stack=X.env::X.outer:=by rfl) (hfr:X.env.frame=some X.env.locals:=by rfl):PS X (.Try body (h₀::hs) [] [] pos) (MQ tb th):=by
 intro pins s σ H D I h;refine wpAny_Try_except (Qa (hb pins _ [] s σ H D I.toT h) (fun f s₁ z=>?_) fun ev s₁ z=>?_)
 .have z:=z.ofT
  cases f with
  |next=>exact wpAny_execs_nil z
  |brk=>exact z
  |cont=>exact z
  |ret u=>exact z
 .obtain⟨σ',H₁,s₁',I',e,cls,a0,B,H',bb,rfl,os,bare,F,q⟩:=z
  have ff:=I'.ok.frames;have fl:=F.fl;rw[hst]at ff fl;refine pF ff hfr fl F.lo fun h₄ held sm lo=>?_;refine jt (s:={s₁ with heap:=h₄}) held.1 held.2.1 held.2.2.1 held.2.2.2 lo fun h₅ fl5 sm5 lo5=>?_;have hd:m9 X pins σ' H' {s₁ with heap:=h₅} e cls bb:=⟨H₁,s₁',B,a0,I',os,bare,F.move (by rw[hst];exact fl5) (sm.trans sm5) lo5⟩;exact hh pins _ σ' H' D e cls bb hd (q e hd.free)
end
end L2
namespace Sw
open PySem L2
structure vL where
 (Fs gf Apart kW yp yn EB F0 B8 gP cN gw vf:PY)
structure Ox(mg:Str->Option PX)(cl:vL):Prop where
 E9:mg "Unlike" =some (.ref cl.Fs)
 bT:mg "NoRounds" =some (.ref cl.gf)
 Hl:mg "Apart" =some (.ref cl.Apart)
 EL:mg "NoMove" =some (.ref cl.kW)
 Aa:mg "NotLeast" =some (.ref cl.yp)
 Ac:mg "NotGreat" =some (.ref cl.yn)
 El:mg "NoTree" =some (.ref cl.EB)
 Gb:mg "NoCars" =some (.ref cl.F0)
 Cz:mg "NoChain" =some (.ref cl.B8)
 jf:mg "NoBound" =some (.ref cl.gP)
 aK:mg "NoText" =some (.ref cl.cN)
 kS:mg "NoName" =some (.ref cl.gw)
 yq:mg "StarError" =some (.ref cl.vf)
 aH:mg "isinstance" =none
 wZ:mg "ValueError" =none
def xQ:List Str:=["Unlike","NoRounds","Apart","NoMove","NotLeast","NotGreat","NoTree","NoCars","NoChain","NoBound","NoText","NoName"]
structure pL(K:W.Frag)(cl:vL)(C:PY)(i:Nat):Prop where
 ei:rM K C
 em:ua K C cl.vf true
 ve:W.kitOne K (.ref C) (.type "ValueError")=some true
 bs:∃b1 b2 b3 b4 b5 b6 b7 b8 b9 b10 b11 b12,W.kitOne K (.ref C) (.ref cl.Fs)=some b1/\W.kitOne K (.ref C) (.ref cl.gf)=some b2/\W.kitOne K (.ref C) (.ref cl.Apart)=some b3/\
  W.kitOne K (.ref C) (.ref cl.kW)=some b4/\W.kitOne K (.ref C) (.ref cl.yp)=some b5/\W.kitOne K (.ref C) (.ref cl.yn)=some b6/\W.kitOne K (.ref C) (.ref cl.EB)=some b7/\
  W.kitOne K (.ref C) (.ref cl.F0)=some b8/\W.kitOne K (.ref C) (.ref cl.B8)=some b9/\W.kitOne K (.ref C) (.ref cl.gP)=some b10/\W.kitOne K (.ref C) (.ref cl.cN)=some b11/\
  W.kitOne K (.ref C) (.ref cl.gw)=some b12/\[b1,b2,b3,b4,b5,b6,b7,b8,b9,b10,b11,b12]=(List.range 12).map fun j=>decide (j=i)
 lt:i<12
theorem gB{C:PY}(u:PX)(r:RelV (.ref C) u):u= .ref C:=r
def CG(i:Nat):Str:=Pd "!" ++xQ.getD i (Pd "")
theorem cM.same {C:PY}{H H':Hp}{a d:PY}{n:Int}{m:Kept}(h:cM C H a d n m)(s:ai H H'):cM C H' a d n m:=by
 obtain⟨dx,fs,kvs,ha,hf,hd,ne,km,ml⟩:=h;exact⟨dx,fs,kvs,s _ _ ha,hf,s _ _ hd,ne,km.same s,ml⟩
theorem L9:∀i,i<12->((List.range 12).map fun j=>decide (j=i)).count true=1:=by decide
theorem Oa:∀i,i<12->((List.range 12).map fun j=>decide (j=i))[i]?=some true/\(∀m,m<i->((List.range 12).map fun j=>decide (j=i))[m]?≠some true)/\(xQ.map V.str)[i]?=some (V.str (xQ.getD i (Pd "")))/\(Pd "!").length+(xQ.getD i (Pd "")).length<=P6:=by
 intro i h;refine⟨?_,fun m hm=>?_,?_,?_⟩
 .rw[Pf,List.getElem?_range h];simp
 .rw[Pf,List.getElem?_range (by lia)]
  simp only[Option.map_some,ne_eq,Option.some.injEq,decide_eq_true_eq];lia
 .rw[Pf,Pq]
  have:i<xQ.length:=h;rw[Ph this];rfl
 .have q:∀j,j<12->(xQ.getD j (Pd "")).length<=20:=by decide+kernel
  have:=q i h;have e:(Pd "!").length=1:=by decide+kernel
  have big:(1000:Nat)<=P6:=by decide
  lia
def A7(K:W.Frag)(cl:vL)(C:PY)(L:dX):Sp:=fun vs H Q _=>∃(a d:PY)(t:Str)(n:Int)(m:Kept)(o:Out),vs=[.ref a,.str t]/\t.length<=990/\1<=n/\n<=12/\m.length<=40/\(∀p∈m,p.1.length<=990)/\cM C H a d n m/\L.out n m (Txt.split t (Pd " "))=some o/\
 match o with
 | .tM c=>∃i,pL K cl c i/\∀H',ai H H'->Q (.str (CG i)) H'
 | .ans s=>∀H',ai H H'->Q (.str s) H'
 | .zo=>∀ks:List Str,ks.Perm (m.map (·.1))->PyProof.Rows.sortedS ks=true->∀H',ai H H'->Q (.str (o4 ks)) H'
 | .put x R=>∀H',cM C H' a d n (yT m x R)->(∀b o,b≠d->H b=some o->H' b=some o)->Q (.str (Pd "ok")) H'
 | .del x=>∀H',cM C H' a d n (xR m x)->(∀b o,b≠d->H b=some o->H' b=some o)->Q (.str (Pd "ok")) H'
structure Jh(P:P0)(w:P4)(K:W.Frag)(mg:Str->Option PX)(base:Qd)(cl:vL)(C:PY)(L:dX):Prop extends T1 mg K,Ox mg cl where
 sM:MethAt P w K mg base (j4 P w) C "say" 30 ["self","row"] (JF C L)
section
variable{P:P0}{w:P4}{K:W.Frag}{mg:Str->Option PX}{base:Qd}{cl:vL}{C:PY}{L:dX}
theorem cC:aE ["_law_desk","_law_row_here","_law_names","e","_law_told","_law_some"] ["_law_desk","_law_row_here"] (av (top 123)):=⟨rfl,rfl,rfl,by decide+kernel,rfl,by decide+kernel,by decide+kernel⟩
theorem GU{f:PY}{fd:Qc}(F:dU K "_law_say" "_law_say" (top 123) f fd)(T:Jh P w K mg base cl C L):aQ P w K mg base i4 31 f fd ["_law_desk","_law_row_here"] (A7 K cl C L):=by
 refine F.ok cC (fun vs H Q E h=>?_) (fun cdv A outer s H vs Q E hr h=>?_)
 .obtain⟨a,d,t,n,m,o,rfl,_⟩:=h
  rfl
 .obtain⟨a,d,t,n,m,o,rfl,ht,n1,n2,hm,hmw,hd,ho,k⟩:=h
  refine⟨_,(@ag _ _ _ _ _ (@aC _ _ 2 _ _ _ _ cC.nd rfl (Or.inl rfl) (@bH _ _ _ _ (@gZ _ _ [V.str (Pd "Unlike"),V.str (Pd "NoRounds"),V.str (Pd "Apart"),V.str (Pd "NoMove"),V.str (Pd "NotLeast"),V.str (Pd "NotGreat"),V.str (Pd "NoTree"),V.str (Pd "NoCars"),V.str (Pd "NoChain"),V.str (Pd "NoBound")] rfl)) (by rfl) (by first|exact .inl rfl|exact .inr rfl))
   (@ag _ _ _ _ _ (aC (i:=2) cC.nd rfl (Or.inl rfl) (aG rF (pv 2) (bH (aa ak (aa ak ae)))))
   (@ag _ _ _ _ _ (Hh (fun _ _=>(ah (aC (i:=4) cC.nd rfl (Or.inl rfl) (C4 T.sM (hr.mono (by decide)) (pv 0) (aa (pv 1) ae))))) (C3 (i:=3) cC.nd rfl rfl rfl T.yq (fun _=>(@ag _ _ _ _ _ (@aC _ _ 5 _ _ _ _ cC.nd rfl (Or.inl rfl) (@bH _ _ _ _ (@aa _ _ _ _ _ (ar (bK (K:=K) rfl) rfl T.aH (by decide+kernel) (aa (pv 3) (aa (gC rfl T.E9) ae))) (@aa _ _ _ _ _ (ar (bK (K:=K) rfl) rfl T.aH (by decide+kernel) (aa (pv 3) (aa (gC rfl T.bT) ae))) (@aa _ _ _ _ _ (ar (bK (K:=K) rfl) rfl T.aH (by decide+kernel) (aa (pv 3) (aa (gC rfl T.Hl) ae))) (@aa _ _ _ _ _ (ar (bK (K:=K) rfl) rfl T.aH (by decide+kernel) (aa (pv 3) (aa (gC rfl T.EL) ae))) ae cU) cU) cU) cU)) (by rfl) (by first|exact .inl rfl|exact .inr rfl))
   (@ag _ _ _ _ _ (@aC _ _ 5 _ _ _ _ cC.nd rfl (Or.inl rfl) (aG rF (pv 5) (@bH _ _ _ _ (@aa _ _ _ _ _ (ar (bK (K:=K) rfl) rfl T.aH (by decide+kernel) (aa (pv 3) (aa (gC rfl T.Aa) ae))) (@aa _ _ _ _ _ (ar (bK (K:=K) rfl) rfl T.aH (by decide+kernel) (aa (pv 3) (aa (gC rfl T.Ac) ae))) (@aa _ _ _ _ _ (ar (bK (K:=K) rfl) rfl T.aH (by decide+kernel) (aa (pv 3) (aa (gC rfl T.El) ae))) (@aa _ _ _ _ _ (ar (bK (K:=K) rfl) rfl T.aH (by decide+kernel) (aa (pv 3) (aa (gC rfl T.Gb) ae))) ae cU) cU) cU) cU))) (by rfl) (by first|exact .inl rfl|exact .inr rfl))
   (@ag _ _ _ _ _ (@aC _ _ 5 _ _ _ _ cC.nd rfl (Or.inl rfl) (aG rF (pv 5) (@bH _ _ _ _ (@aa _ _ _ _ _ (ar (bK (K:=K) rfl) rfl T.aH (by decide+kernel) (aa (pv 3) (aa (gC rfl T.Cz) ae))) (@aa _ _ _ _ _ (ar (bK (K:=K) rfl) rfl T.aH (by decide+kernel) (aa (pv 3) (aa (gC rfl T.jf) ae))) (@aa _ _ _ _ _ (ar (bK (K:=K) rfl) rfl T.aH (by decide+kernel) (aa (pv 3) (aa (gC rfl T.aK) ae))) (@aa _ _ _ _ _ (ar (bK (K:=K) rfl) rfl T.aH (by decide+kernel) (aa (pv 3) (aa (gC rfl T.kS) ae))) ae cU) cU) cU) cU))) (by rfl) (by first|exact .inl rfl|exact .inr rfl))
   (ag (aN (PW.pt (fu (aw eC (aP (K:=K) rfl PySem.F.plainAttrs_list PySem.F.slot_list_count PySem.F.type_list_count (CV (K:=K) rfl) (pv 5) (aa eT ae)) aj (aB _)) (dG (dm (dq (ar (bK (K:=K) rfl) rfl T.aH (by decide+kernel) (aa (pv 3) (aa (jG (v:= .ty "ValueError") rfl T.wZ (by decide+kernel) rfl) ae)))))))) (ah (ay ak)) ax)
   (ah (ay (aG bM ak (bC (aJ (K:=K) rfl) (pv 2) (aP (K:=K) rfl PySem.F.plainAttrs_list PySem.F.slot_list_index PySem.F.type_list_index Dt (pv 5) (aa eT ae)) (fun _ _=>rfl)))))))))) Ha))
   (ah (ay (pv 4)))))),?_⟩
  have one:1<=P6:=by decide
  have two:2<=P6:=by decide
  have four:4<=P6:=by decide
  have eight:8<=P6:=by decide
  have ten:10<=P6:=by decide
  have twelve:12<=P6:=by decide
  refine⟨ten,fun l1 f1=>⟨_,rfl,two,fun l2 f2=>⟨l1,l2,_,_,rfl,rfl,ai.new f2 _ _ af,af,twelve,fun l3 f3=>?_⟩⟩⟩;have s3:=((ai.new (o:= .lst [.str (Pd "Unlike"),.str (Pd "NoRounds"),.str (Pd "Apart"),.str (Pd "NoMove"),.str (Pd "NotLeast"),.str (Pd "NotGreat"),.str (Pd "NoTree"),.str (Pd "NoCars"),.str (Pd "NoChain"),.str (Pd "NoBound")]) f1).trans (ai.new (o:= .lst [.str (Pd "NoText"),.str (Pd "NoName")]) f2)).trans (ai.new (o:= .lst ([.str (Pd "Unlike"),.str (Pd "NoRounds"),.str (Pd "Apart"),.str (Pd "NoMove"),.str (Pd "NotLeast"),.str (Pd "NotGreat"),.str (Pd "NoTree"),.str (Pd "NoCars"),.str (Pd "NoChain"),.str (Pd "NoBound")]++[.str (Pd "NoText"),.str (Pd "NoName")])) f3);have h3:upd (upd (upd H l1 (.lst [.str (Pd "Unlike"),.str (Pd "NoRounds"),.str (Pd "Apart"),.str (Pd "NoMove"),.str (Pd "NotLeast"),.str (Pd "NotGreat"),.str (Pd "NoTree"),.str (Pd "NoCars"),.str (Pd "NoChain"),.str (Pd "NoBound")])) l2 (.lst [.str (Pd "NoText"),.str (Pd "NoName")])) l3 (.lst ([.str (Pd "Unlike"),.str (Pd "NoRounds"),.str (Pd "Apart"),.str (Pd "NoMove"),.str (Pd "NotLeast"),.str (Pd "NotGreat"),.str (Pd "NoTree"),.str (Pd "NoCars"),.str (Pd "NoChain"),.str (Pd "NoBound")]++[.str (Pd "NoText"),.str (Pd "NoName")])) l3=some (.lst (xQ.map V.str)):=af;generalize upd (upd (upd H l1 (.lst [.str (Pd "Unlike"),.str (Pd "NoRounds"),.str (Pd "Apart"),.str (Pd "NoMove"),.str (Pd "NotLeast"),.str (Pd "NotGreat"),.str (Pd "NoTree"),.str (Pd "NoCars"),.str (Pd "NoChain"),.str (Pd "NoBound")])) l2 (.lst [.str (Pd "NoText"),.str (Pd "NoName")])) l3 (.lst ([.str (Pd "Unlike"),.str (Pd "NoRounds"),.str (Pd "Apart"),.str (Pd "NoMove"),.str (Pd "NotLeast"),.str (Pd "NotGreat"),.str (Pd "NoTree"),.str (Pd "NoCars"),.str (Pd "NoChain"),.str (Pd "NoBound")]++[.str (Pd "NoText"),.str (Pd "NoName")]))=H3 at s3 h3⊢;have hd3:=hd.same s3;obtain⟨dx,fs,kvs,ha,hf,_⟩:=id hd3;refine⟨_,rfl,a,dx,fs,rfl,ha,hf.say,_,rfl,a,d,t,n,m,o,rfl,ht,n1,n2,hm,hmw,hd3,ho,?_⟩
  cases o with
  |ans s'=>exact fun H' sm=>⟨_,rfl,k H' (s3.trans sm)⟩
  |zo=>exact fun ks pm so H' sm=>⟨_,rfl,k ks pm so H' (s3.trans sm)⟩
  |put x R=>exact fun H' dk sm=>⟨_,rfl,k H' dk fun b o hb e=>sm b o hb (s3 _ _ e)⟩
  |del x=>exact fun H' dk sm=>⟨_,rfl,k H' dk fun b o hb e=>sm b o hb (s3 _ _ e)⟩
  |tM c=>
   obtain⟨i,al,k⟩:=k;obtain⟨b1,b2,b3,b4,b5,b6,b7,b8,b9,b10,b11,b12,k1,k2,k3,k4,k5,k6,k7,k8,k9,k10,k11,k12,hc⟩:=al.bs;intro bb H4 sm e he;refine⟨c,true,rfl,al.em,zA fun bx=>?_⟩;have s5:ai H (upd H4 e (.exc e c bx)):=s3.trans (sm.trans (ai.new he));have h5:upd H4 e (.exc e c bx) l3=some (.lst (xQ.map V.str)):=ai.new he _ _ (sm _ _ h3);have he5:upd H4 e (.exc e c bx) e=some (.exc e c bx):=af;generalize upd H4 e (.exc e c bx)=H5 at s5 h5 he5⊢;refine⟨_,rfl,e,c,bx,_,_,_,rfl,he5,al.ei,gB,k1,_,rfl,e,c,bx,_,_,_,rfl,he5,al.ei,gB,k2,_,rfl,e,c,bx,_,_,_,rfl,he5,al.ei,gB,k3,_,rfl,e,c,bx,_,_,_,rfl,he5,al.ei,gB,k4,four,fun m1 g1=>?_⟩;have s6:=ai.new (o:= .lst [.bl b1,.bl b2,.bl b3,.bl b4]) g1;have q1:=af (H:=H5) (a:=m1) (o:= .lst [.bl b1,.bl b2,.bl b3,.bl b4]);generalize upd H5 m1 (.lst [.bl b1,.bl b2,.bl b3,.bl b4])=H6 at s6 q1⊢;have he6:=s6 _ _ he5;refine⟨_,rfl,_,rfl,e,c,bx,_,_,_,rfl,he6,al.ei,gB,k5,_,rfl,e,c,bx,_,_,_,rfl,he6,al.ei,gB,k6,_,rfl,e,c,bx,_,_,_,rfl,he6,al.ei,gB,k7,_,rfl,e,c,bx,_,_,_,rfl,he6,al.ei,gB,k8,four,fun m2 g2=>?_⟩;have s7:=s6.trans (ai.new (o:= .lst [.bl b5,.bl b6,.bl b7,.bl b8]) g2);have q2:=ai.new (o:= .lst [.bl b5,.bl b6,.bl b7,.bl b8]) g2 _ _ q1;have q3:=af (H:=H6) (a:=m2) (o:= .lst [.bl b5,.bl b6,.bl b7,.bl b8]);generalize upd H6 m2 (.lst [.bl b5,.bl b6,.bl b7,.bl b8])=H7 at s7 q2 q3⊢;refine⟨m1,m2,_,_,rfl,rfl,q2,q3,eight,fun m3 g3=>?_⟩;have s8:=s7.trans (ai.new (o:= .lst ([.bl b1,.bl b2,.bl b3,.bl b4]++[.bl b5,.bl b6,.bl b7,.bl b8])) g3);have q4:=af (H:=H7) (a:=m3) (o:= .lst ([.bl b1,.bl b2,.bl b3,.bl b4]++[.bl b5,.bl b6,.bl b7,.bl b8]));generalize upd H7 m3 (.lst ([.bl b1,.bl b2,.bl b3,.bl b4]++[.bl b5,.bl b6,.bl b7,.bl b8]))=H8 at s8 q4⊢;have he8:=s8 _ _ he5;refine⟨_,rfl,_,rfl,e,c,bx,_,_,_,rfl,he8,al.ei,gB,k9,_,rfl,e,c,bx,_,_,_,rfl,he8,al.ei,gB,k10,_,rfl,e,c,bx,_,_,_,rfl,he8,al.ei,gB,k11,_,rfl,e,c,bx,_,_,_,rfl,he8,al.ei,gB,k12,four,fun m4 g4=>?_⟩;have s9:=s8.trans (ai.new (o:= .lst [.bl b9,.bl b10,.bl b11,.bl b12]) g4);have q5:=ai.new (o:= .lst [.bl b9,.bl b10,.bl b11,.bl b12]) g4 _ _ q4;have q6:=af (H:=H8) (a:=m4) (o:= .lst [.bl b9,.bl b10,.bl b11,.bl b12]);generalize upd H8 m4 (.lst [.bl b9,.bl b10,.bl b11,.bl b12])=H9 at s9 q5 q6⊢;refine⟨m3,m4,_,_,rfl,rfl,q5,q6,twelve,fun m5 g5=>?_⟩;have s10:=s9.trans (ai.new (o:= .lst (([.bl b1,.bl b2,.bl b3,.bl b4]++[.bl b5,.bl b6,.bl b7,.bl b8])++[.bl b9,.bl b10,.bl b11,.bl b12])) g5);have q7:upd H9 m5 (.lst (([.bl b1,.bl b2,.bl b3,.bl b4]++[.bl b5,.bl b6,.bl b7,.bl b8])++[.bl b9,.bl b10,.bl b11,.bl b12])) m5=some (.lst ([b1,b2,b3,b4,b5,b6,b7,b8,b9,b10,b11,b12].map V.bl)):=af;generalize upd H9 m5 (.lst (([.bl b1,.bl b2,.bl b3,.bl b4]++[.bl b5,.bl b6,.bl b7,.bl b8])++[.bl b9,.bl b10,.bl b11,.bl b12]))=H10 at s10 q7⊢;have he10:=s10 _ _ he5;rw[hc]at q7;have il:=al.lt;refine⟨_,rfl,.inl ⟨rfl,_,aI.of q7⟩,m5,_,true,rfl,rfl,q7,?_⟩;refine⟨rfl,_,rfl,bI (by rw[L9 i il];decide) ?_⟩;refine⟨_,rfl,e,c,bx,_,_,_,rfl,he10,al.ei,(fun u r=>r),al.ve,_,rfl,bI (by decide) ?_⟩;obtain⟨at1,at2,at3,ll⟩:=Oa i il;exact⟨_,rfl,_,rfl,.inl ⟨rfl,_,aI.of q7⟩,m5,_,true,i,rfl,rfl,q7,at1,at2,l3,_,(i:Int),_,rfl,rfl,aI.of (s10 _ _ h5),bN (j:=i) at3,_,_,rfl,rfl,ll,k _ (s5.trans s10)⟩
end
theorem ub{z:Str}{c:Nat}:∀{ts:List Str}{t:Str},t∈ts->c∈signs t->c∈signs (Str.join z ts):=by
 intro ts t h hc;have key:∀{ts:List Str},t∈ts->c∈signs (Str.join z ts):=by
  intro ts
  induction ts with
  |nil=>intro h;cases h
  |cons a r ih=>
   intro h
   cases r with
   |nil=>
    rcases List.mem_cons.mp h with rfl|h
    .exact hc
    .cases h
   |cons b r=>
    have e:Str.join z (a::b::r)=a++z++Str.join z (b::r):=rfl;rw[e,aT,aT];rcases List.mem_cons.mp h with rfl|h
    .exact Py _ (Py _ hc)
    .exact Px _ (ih h)
 exact key h
theorem qq{x y t:Str}(h:t∈Txt.split x y):∀c∈signs t,c∈signs x:=fun c hc=>by
 have:=ub (z:=y) h hc;rwa [StrLaws.join_split]at this
def AE(r:Option Nat):V:=match r with
 |none=> .cE
 |some i=> .str (CG i)
def C2(H:Hp)(a:PY)(kvs:List (Key×V)):Prop:=H a=some (.dK kvs)\/∃o,H a=some (.mL o (.dK kvs))
theorem C2.same {H H':Hp}{a:PY}{kvs:List (Key×V)}(h:C2 H a kvs)(s:ai H H'):C2 H' a kvs:=by
 rcases h with h|⟨o,h⟩
 .exact .inl (s _ _ h)
 .exact .inr ⟨o,s _ _ h⟩
theorem C2.get {H:Hp}{a:PY}{kvs:List (Key×V)}(h:C2 H a kvs)(k:Key):kU H a (kV k) (cQ kvs k):= .inl ⟨kvs,k,h,rfl,rfl⟩
def JG:Sp:=fun vs H Q _=>∃(n:Int)(a:PY)(t:Str)(kvs:List (Key×V))(m:Kept),vs=[.int n,.ref a,.str t]/\1<=n/\n<=12/\t.length<=990/\PyData.strOk t=true/\C2 H a kvs/\bg H kvs m/\∀H',ai H H'->Q (AE (cO n m (Txt.split t (Pd " ")))) H'
structure Mg(P:P0)(w:P4)(K:W.Frag)(mg:Str->Option PX)(base:Qd):Prop extends T1 mg K where
 dw:FnAt P w K mg base "_law_shapes" 1 [] Cd
 qj:FnAt P w K mg base "_law_fits" 3 ["_law_n","_law_sign","_law_word"] IQ
 sN:mg "zip" =none
theorem Jo(bs:List Bool):CO (.bl false) (bs.map V.bl)=decide (false∈bs):=by
 unfold CO;rw[Bool.eq_iff_iff,List.any_eq_true,decide_eq_true_eq];constructor
 .rintro⟨y,hy,e⟩
  obtain⟨b,hb,rfl⟩:=List.mem_map.mp hy
  cases b with
  |false=>exact hb
  |true=>exact absurd e (by decide)
 .intro h
  exact⟨_,List.mem_map_of_mem h,by decide⟩
theorem Ik{n:Int}{m:Kept}{word:Str}{args:List Str}(h:kD word=none):cO n m (word::args)=some 10:=by
 unfold cO;dsimp only;rw[h]
theorem K7{n:Int}{m:Kept}{word sh:Str}{args:List Str}(h:kD word=some sh)(l:args.length≠sh.length):cO n m (word::args)=some 10:=by
 unfold cO;dsimp only;rw[h];dsimp only;rw[if_pos l]
theorem Kp{n:Int}{m:Kept}{word sh:Str}{args:List Str}(h:kD word=some sh)(l:args.length=sh.length)(f:¬∀p∈(lY sh).zip args,gz n p.1 p.2):cO n m (word::args)=some 10:=by
 unfold cO;dsimp only;rw[h];dsimp only;rw[if_neg (fun z=>z l),if_pos f]
theorem He{n:Int}{m:Kept}{word sh:Str}{args:List Str}(h:kD word=some sh)(l:args.length=sh.length)(f:∀p∈(lY sh).zip args,gz n p.1 p.2)(g:∃p∈(lY sh).zip args,p.1=Pd "n"/\rowOf m p.2=none):cO n m (word::args)=some 11:=by
 unfold cO;dsimp only;rw[h];dsimp only;rw[if_neg (fun z=>z l),if_neg (fun z=>z f),if_pos g]
theorem L8{n:Int}{m:Kept}{word sh:Str}{args:List Str}(h:kD word=some sh)(l:args.length=sh.length)(f:∀p∈(lY sh).zip args,gz n p.1 p.2)(g:¬∃p∈(lY sh).zip args,p.1=Pd "n"/\rowOf m p.2=none):cO n m (word::args)=none:=by
 unfold cO;dsimp only;rw[h];dsimp only;rw[if_neg (fun z=>z l),if_neg (fun z=>z f),if_neg g]
theorem OW:AE (some 10)= .str (Pd "!NoText"):=by show V.str _=_;rw[show CG 10=Pd "!NoText" by decide+kernel]
theorem OM:AE (some 11)= .str (Pd "!NoName"):=by show V.str _=_;rw[show CG 11=Pd "!NoName" by decide+kernel]
section
variable{P:P0}{w:P4}{K:W.Frag}{mg:Str->Option PX}{base:Qd}
theorem iN:aE ["_law_n","_law_kept","_law_row_here","_law_words","_law_shape"] ["_law_n","_law_kept","_law_row_here"] (av (top 130)):=⟨rfl,rfl,rfl,by decide+kernel,rfl,by decide+kernel,by decide+kernel⟩
theorem JS{f:PY}{fd:Qc}(F:dU K "_law_fault" "_law_fault" (top 130) f fd)(T:Mg P w K mg base):aQ P w K mg base i4 4 f fd ["_law_n","_law_kept","_law_row_here"] JG:=by
 refine F.ok iN (fun vs H Q E h=>?_) (fun cdv A outer s H vs Q E hr h=>?_)
 .obtain⟨n,a,t,kvs,m,rfl,_⟩:=h
  rfl
 .obtain⟨n,a,t,kvs,m,rfl,n1,n2,lt,ok,ha,km,k⟩:=h
  have hu:=pZ hr;refine⟨_,(ag (aC (i:=3) iN.nd rfl (Or.inl rfl) (aP (K:=K) rfl PySem.F.plainAttrs_str PySem.F.slot_str_split PySem.F.type_str_split ck (pv 2) (aa ak ae)))
   (ag (aC (i:=4) iN.nd rfl (Or.inl rfl) (aP (K:=K) rfl PySem.F.plainAttrs_dict PySem.F.slot_dict_get PySem.F.type_dict_get Iz (uL T.dw (hr.mono (by first|decide|lia)) rfl) (aa (bC (aJ (K:=K) rfl) (pv 3) aj (fun _ _=>rfl)) ae)))
   (ag (aN (PW.pt (fu (aw Kb (pv 4) Ak (aB _)) (dG (aw eC (ar (aZ (K:=K) rfl) rfl T.bX (by decide+kernel) (aa (pv 3) ae)) (aG bG aj (ar cI rfl T.bX (by decide+kernel) (aa (pv 4) ae))) (aB _))))) (ah (ay ak)) ax)
   (ag (aN (aw (Ap (K:=K) rfl) eT (bU (N:=(["_law_sign","_law_word","_law_n"]:List Str)) (ix:=([none,none,some 0]:List (Option Nat))) (aW rfl rfl) rfl (BP (K:=K) rfl rfl T.sN (aa (pv 4) (aa (eR (r6 (K:=K) rfl) (pv 3) (eO aj) jv) ae))) (fun _ _ _ _=>(gV (K:=K) (n:=2) rfl rfl (bD (aA (i:=0) (show List.Nodup (["_law_sign","_law_word","_law_n"]:List Str)from by decide+kernel) rfl (Or.inl rfl)) (bD (aA (i:=1) (show List.Nodup (["_law_sign","_law_word","_law_n"]:List Str)from by decide+kernel) rfl (Or.inl rfl)) gS)))) (fun _ _ _ _=>bq) (fun _ _ _ _=>(aq T.qj (hr.mono (by first|decide|lia)) rfl (@aa _ _ _ _ _ (pv 2) (@aa _ _ _ _ _ (pv 0) (@aa _ _ _ _ _ (pv 1) ae bA) bA) bA)))) rfl) (ah (ay ak)) ax)
   (ag (aN (aw (KG hr.units) (bU (N:=(["_law_sign","_law_word","_law_kept"]:List Str)) (ix:=([none,none,some 1]:List (Option Nat))) (aW rfl rfl) rfl (BP (K:=K) rfl rfl T.sN (aa (pv 4) (aa (eR (r6 (K:=K) rfl) (pv 3) (eO aj) jv) ae))) (fun _ _ _ _=>(gV (K:=K) (n:=2) rfl rfl (bD (aA (i:=0) (show List.Nodup (["_law_sign","_law_word","_law_kept"]:List Str)from by decide+kernel) rfl (Or.inl rfl)) (bD (aA (i:=1) (show List.Nodup (["_law_sign","_law_word","_law_kept"]:List Str)from by decide+kernel) rfl (Or.inl rfl)) gS)))) (fun _ _ _ _=>(qL (PW.pt (pH (aw bR (pv 0) ak (aB _)) (lN (vK (uU hu (pv 1) (pv 2)))))))) (fun _ _ _ _=>(pv 1))) (bH ae) (aB _)) (ah (ay ak)) ax)
   (ah (ay Ak))))))),?_⟩
  have big:(10000000:Nat)<=P6:=by decide
  have wne:=dv t (Pd " ");have wl:=split_le t (Pd " ");have wp:∀p∈Txt.split t (Pd " "),p.length<=990/\PyData.strOk p=true/\32∉signs p:=fun p hp=>⟨PN (bO hp) lt,lW ok (qq hp),yf p hp⟩;refine⟨_,rfl,rfl,_,_,rfl,rfl,by decide+kernel,by lia,fun lw f1=>?_⟩;generalize Txt.split t (Pd " ")=W at k wne wl wp⊢
  cases W with
  |nil=>exact absurd rfl wne
  |cons word args=>
  have s1:ai H (upd H lw (.lst ((word::args).map V.str))):=ai.new f1;have h1:upd H lw (.lst ((word::args).map V.str)) lw=some (.lst ((word::args).map V.str)):=af;generalize upd H lw (.lst ((word::args).map V.str))=H1 at s1 h1⊢;refine⟨rfl,fun d H2 fd2 hd s2=>?_⟩;have h2:=s2 _ _ h1;refine⟨.inr (.inr (.inl ⟨rfl,.inl ⟨_,hd⟩⟩)),_,rfl,lw,_,0,_,rfl,rfl,aI.of h2,bN (j:=0) rfl,d,dC,.inr word,rfl,rfl,hd,?_⟩;have b2:=s1.trans s2;rw[Fn];have no10:cO n m (word::args)=some 10->∀H',ai H H'->Q (.str (Pd "!NoText")) H':=fun e H' s'=>by
   have:=k H' s';rw[e,OW]at this;exact this
  cases hsh:kD word with
  |none=>
   refine⟨_,rfl,rfl,_,rfl,kc rfl (kc rfl ?_)⟩;exact no10 (Ik hsh) H2 b2
  |some sh=>
   obtain⟨pp,hpp,rfl⟩:=sq hsh;obtain⟨⟨asc,l3⟩,hsg⟩:=EK pp hpp;generalize pp.2=sh at hsh asc l3 hsg⊢;refine⟨_,rfl,rfl,_,rfl,bI (by simp) ?_⟩;refine⟨_,rfl,lw,_,rfl,.inl (aI.of h2),?_⟩;refine⟨_,rfl,sh,rfl,by lia,?_⟩;refine⟨_,_,rfl,rfl,rfl,_,rfl,cg (fun c=>?_) (fun c=>?_)⟩
   .refine no10 (K7 hsh fun z=>?_) H2 b2
    rw[Pe,Pl,z]at c;rw[decide_eq_true (by congr 1;lia)]at c;cases c
   have el:args.length=sh.length:=by
    by_cases z:args.length=sh.length
    .exact z
    .exfalso
     apply c;rw[Pe,Pl,decide_eq_false (fun y=>by injection y with y;lia)];rfl
   clear c;refine⟨_,rfl,_,rfl,1,rfl,lw,_,rfl,aI.of h2,fun l2 f2=>⟨sh,l2,args.map V.str,rfl,asc,aI.of (by rw[af,Pm,je]),?_⟩⟩;have h3:upd H2 l2 (.lst (mv ((word::args).map V.str) (some 1) none)) l2=some (.lst (args.map V.str)):=by rw[af,Pm,je]
   have s3:ai H (upd H2 l2 (.lst (mv ((word::args).map V.str) (some 1) none))):=b2.trans (ai.new f2);have h3w:=(ai.new (o:= .lst (mv ((word::args).map V.str) (some 1) none)) f2) _ _ h2;generalize upd H2 l2 (.lst (mv ((word::args).map V.str) (some 1) none))=H3 at h3 s3 h3w⊢;rw[Jd];have zl:((lY sh).zip args).length=args.length:=by rw[List.length_zip,me];lia
   refine AV (fun i zs σ' H'=>(∃v0 v1,σ'=[v0,v1,some (.int n)])/\ai H3 H'/\∃bs:List Bool,zs=bs.map V.bl/\bs.length=i/\(false∈bs↔¬∀p∈((lY sh).zip args).take i,gz n p.1 p.2)) (by simp only[Pe,me];lia) ⟨⟨none,none,rfl⟩,ai.refl _,[],rfl,rfl,by simp⟩ (fun i zs σ' H' _ ⟨_,sm,_⟩=>⟨True.intro,aI.of (sm _ _ h3)⟩) (fun i zs σ' H' ⟨_,_,bs,e,bl',_⟩=>by rw[e,Pe];lia) (fun i zs σ' H' t' v u R hv hu' ⟨⟨v0,v1,e3⟩,sm,bs,ebs,bl',bi⟩ ft r=>?_) Ob (fun zs σ' H' l3' ⟨_,sm,bs,ebs,bl',bi⟩ f3=>?_)
   .subst e3
    subst ebs;obtain⟨dj,e4,rfl⟩:=ip hv;obtain⟨wj,e5,rfl⟩:=ip hu';have ez:((lY sh).zip args)[i]?=some (dj,wj):=by rw[List.getElem?_zip_eq_some];exact⟨e4,e5⟩
    have st:ai H' (upd H' t' (.tup [.str dj,.str wj])):=ai.new ft;obtain⟨wa,wb,wc⟩:=wp wj (Pu _ (Pr e5));refine⟨t',_,rfl,gL.of af,rfl,_,_,rfl,_,_,rfl,rfl,?_⟩;refine⟨_,rfl,_,rfl,_,rfl,n,dj,wj,rfl,n1,n2,wa,wb,wc,fun b hb H5 s5=>?_⟩;refine r _ _ _ ⟨⟨_,_,rfl⟩,sm.trans (st.trans s5),bs++[b],by rw[Pj];rfl,by rw[Pg,bl'];rfl,?_⟩;rw[PJ,ez,List.mem_append,bi];constructor
    .rintro(h|h) z
     .exact h fun p hp=>z p (Py _ hp)
     .have:b=false:=by
       cases b with
       |false=>rfl
       |true=>simp at h
      have y:=hb.mpr (z (dj,wj) (by simp));rw[this]at y;cases y
    .intro z
     by_cases c:∀p∈((lY sh).zip args).take i,gz n p.1 p.2
     .refine .inr ?_
      cases b with
      |false=>simp
      |true=>
       exfalso;refine z fun p hp=>?_;rcases List.mem_append.mp hp with hp|hp
       .exact c p hp
       .have:p=(dj,wj):=by simpa using hp
        rw[this];exact hb.mp rfl
     .exact .inl c
   rw[Pw (by simp only[Pe,me,zl];lia)]at bi;subst ebs;have s4:ai H (upd H' l3' (.lst (bs.map V.bl))):=s3.trans (sm.trans (ai.new f3));have h4w:=(ai.new (o:= .lst (bs.map V.bl)) f3) _ _ (sm _ _ h3w);have q4:upd H' l3' (.lst (bs.map V.bl)) l3'=some (.lst (bs.map V.bl)):=af;generalize upd H' l3' (.lst (bs.map V.bl))=H4 at s4 h4w q4⊢;refine⟨l3',_,rfl,.inl (aI.of q4),rfl,ED _,_,rfl,?_⟩;refine cg (fun c=>?_) (fun c=>?_)
   .have c:CO (.bl false) (bs.map V.bl)=true:=c
    rw[Jo,decide_eq_true_eq]at c;exact no10 (Kp hsh el (bi.mp c)) H4 s4
   have fits:∀p∈(lY sh).zip args,gz n p.1 p.2:=by
    have c:¬CO (.bl false) (bs.map V.bl)=true:=c;rw[Jo,decide_eq_true_eq,bi]at c;exact Classical.not_not.mp c
   clear c bi;refine⟨_,rfl,_,rfl,1,rfl,lw,_,rfl,aI.of h4w,fun l4 f4=>⟨sh,l4,args.map V.str,rfl,asc,aI.of (by rw[af,Pm,je]),?_⟩⟩;have h5:upd H4 l4 (.lst (mv ((word::args).map V.str) (some 1) none)) l4=some (.lst (args.map V.str)):=by rw[af,Pm,je]
   have s5:ai H (upd H4 l4 (.lst (mv ((word::args).map V.str) (some 1) none))):=s4.trans (ai.new f4);generalize upd H4 l4 (.lst (mv ((word::args).map V.str) (some 1) none))=H5 at h5 s5⊢;rw[Jd];have ha5:=ha.same s5;refine D5 (fun i zs σ' H'=>(∃v0 v1,σ'=[v0,v1,some (.ref a)])/\ai H5 H'/\∃ts:List Str,zs=ts.map V.str/\ts.length<=i/\(∀t∈ts,t∈args)/\(ts=[]↔¬∃p∈((lY sh).zip args).take i,p.1=Pd "n"/\rowOf m p.2=none)) (by simp only[Pe,me];lia) ⟨⟨none,none,rfl⟩,ai.refl _,[],rfl,PQ _,fun t h=>absurd h PB,by simp⟩ (fun i zs σ' H' _ ⟨_,sm,_⟩=>⟨True.intro,aI.of (sm _ _ h5)⟩) (fun i zs σ' H' ⟨_,_,ts,e,bl',_⟩=>by rw[e,Pe];exact bl') (fun i zs σ' H' t' v u R hv hu' ⟨⟨v0,v1,e3⟩,sm,ts,ets,tl,tm,ti⟩ ft r=>?_) (fun zs σ' H' l5' ⟨_,sm,ts,ets,tl,tm,ti⟩ f5=>?_)
   .subst e3
    subst ets;obtain⟨dj,e4,rfl⟩:=ip hv;obtain⟨wj,e5,rfl⟩:=ip hu';have ez:((lY sh).zip args)[i]?=some (dj,wj):=by rw[List.getElem?_zip_eq_some];exact⟨e4,e5⟩
    have st:ai H' (upd H' t' (.tup [.str dj,.str wj])):=ai.new ft;have tk:((lY sh).zip args).take (i+1)=((lY sh).zip args).take i++[(dj,wj)]:=by rw[PJ,ez];rfl
    have keep:¬(dj=Pd "n"/\rowOf m wj=none)->∀σ2 H6,(∃v0 v1,σ2=[v0,v1,some (.ref a)])->ai H5 H6->R σ2 (ts.map V.str) H6:=fun hn σ2 H6 e6 s6=>by
     refine r _ _ _ ⟨e6,s6,ts,rfl,by lia,tm,?_⟩;rw[ti,tk];constructor
     .rintro z ⟨p,hp,hq⟩
      rcases List.mem_append.mp hp with hp|hp
      .exact z ⟨p,hp,hq⟩
      .have:p=(dj,wj):=by simpa using hp
       rw[this]at hq;exact hn hq
     .rintro z ⟨p,hp,hq⟩
      exact z ⟨p,Py _ hp,hq⟩
    refine⟨t',_,rfl,gL.of af,rfl,_,_,rfl,_,_,rfl,rfl,?_⟩;have s6:=sm.trans st;have ha6:=ha5.same s6;generalize upd H' t' (.tup [.str dj,.str wj])=H6 at s6 ha6⊢;by_cases cn:dj=Pd "n"
    .refine⟨_,rfl,rfl,_,rfl,kc (by simp[cn]) ?_⟩
     rcases km.get wj with⟨g1,g2⟩|⟨Rj,vj,g1,g2,_⟩
     .refine⟨_,rfl,_,rfl,a,_,rfl,ha6.get (.inr wj),_,rfl,?_⟩
      rw[g2];refine⟨_,rfl,?_⟩;refine r [_,_,_] (ts.map V.str++[V.str wj]) H6 ⟨⟨_,_,rfl⟩,s6,ts++[wj],by rw[Pj];rfl,by rw[Pg];show _+1<=_;lia,fun t ht=>?_,?_⟩
      .rcases List.mem_append.mp ht with ht|ht
       .exact tm t ht
       .have:t=wj:=by simpa using ht
        rw[this];exact Pr e5
      .rw[tk]
       refine⟨fun z=>by simp at z,fun z=>absurd ⟨(dj,wj),by simp,cn,g1⟩ z⟩
     .refine⟨_,rfl,_,rfl,a,_,rfl,ha6.get (.inr wj),_,rfl,?_⟩
      rw[g2];exact keep (fun z=>by rw[g1]at z;cases z.2) _ _ ⟨_,_,rfl⟩ s6
    .refine⟨_,rfl,rfl,_,rfl,bI (by simp[cn]) ?_⟩
     exact keep (fun z=>cn z.1) _ _ ⟨_,_,rfl⟩ s6
   rw[Pw (by simp only[Pe,me,zl];lia)]at ti;subst ets;have s6:ai H (upd H' l5' (.lst (ts.map V.str))):=s5.trans (sm.trans (ai.new f5));have q6:upd H' l5' (.lst (ts.map V.str)) l5'=some (.lst (ts.map V.str)):=af;generalize upd H' l5' (.lst (ts.map V.str))=H6 at s6 q6⊢;refine⟨by decide,fun l6 f6=>?_⟩;have q7:=ai.new (o:= .lst []) f6 _ _ q6;have s7:ai H (upd H6 l6 (.lst [])):=s6.trans (ai.new f6);refine Oe q7 af (fun t ht=>(wp t (Pu _ (tm t ht))).2.1) ?_;generalize upd H6 l6 (.lst [])=H7 at s7⊢;refine⟨_,rfl,?_⟩;by_cases c:ts=[]
   .refine bI (by simp[c]) ?_
    have:=k H7 s7;rw[L8 hsh el fits (ti.mp c)]at this;exact this
   .refine kc (by simp[c]) ?_
    have:=k H7 s7;rw[He hsh el fits (Classical.not_not.mp fun z=>c (ti.mpr z)),OM]at this;exact this
end
def IW:Sp:=fun vs H Q _=>∃(p:PY)(c:Nat)(x:Str),vs=[.ref p,.str x]/\bo H p c/\c<=90000/\x.length<=400/\PyData.strOk x=true/\∀y H',y.length<=801->PyData.strOk y=true->bo H' p (c+3)->aL p H H'->Q (.str y) H'
structure Mt(P:P0)(w:P4)(K:W.Frag)(mg:Str->Option PX)(base:Qd):Prop extends T1 mg K where
 az:FnAt P w K mg base "_law_take" 1 ["_law_purse_here","_law_many"] mV
section
variable{P:P0}{w:P4}{K:W.Frag}{mg:Str->Option PX}{base:Qd}
theorem ij:aE ["_law_purse_here","_law_text","_law_at","_law_sign"] ["_law_purse_here","_law_text"] (av (top 132)):=⟨rfl,rfl,rfl,by decide+kernel,rfl,by decide+kernel,by decide+kernel⟩
theorem JY{f:PY}{fd:Qc}(F:dU K "_law_signed" "_law_signed" (top 132) f fd)(T:Mt P w K mg base):aQ P w K mg base i4 2 f fd ["_law_purse_here","_law_text"] IW:=by
 refine F.ok ij (fun vs H Q E h=>?_) (fun cdv A outer s H vs Q E hr h=>?_)
 .obtain⟨p,c,x,rfl,_⟩:=h
  rfl
 .obtain⟨p,c,x,rfl,pu,hc,xl,ok,k⟩:=h
  refine⟨_,(ag (aC (i:=2) ij.nd rfl (Or.inl rfl) (aq T.az (hr.mono (by first|decide|lia)) rfl (aa (pv 0) (aa (aG bG (ar cI rfl T.bX (by decide+kernel) (aa (pv 1) ae)) aj) ae))))
   (ag (aC (i:=3) ij.nd rfl (Or.inl rfl) (bC FE ak (aq T.az (hr.mono (by first|decide|lia)) rfl (aa (pv 0) (aa aj ae))) (fun _ _=>rfl)))
   (ah (ay (aG bM (aG bM (eR oM (pv 1) jv (eO (pv 2))) (pv 3)) (eR oM (pv 1) (eO (aG bG (pv 2) (aq T.az (hr.mono (by first|decide|lia)) rfl (aa (pv 0) (aa aj ae))))) jv)))))),?_⟩
  have big:(10000000:Nat)<=P6:=by decide
  have two:(1000:Int)<2^200:=by decide
  refine⟨_,rfl,_,rfl,x,rfl,by lia,_,_,rfl,rfl,p,c,(x.length:Int)+1,rfl,pu,by lia,by lia,by lia,fun at_ H1 a0 a1 pu1 x1=>?_⟩;refine⟨_,rfl,p,c+1,48,rfl,pu1,by lia,by decide,by decide,fun si H2 s0 s1 pu2 x2=>?_⟩;have all:(Pd "abcdefghijklmnopqrstuvwxyz0123456789 (),-/.AZ_=;").cps.toList.length=48:=by decide+kernel
  obtain⟨j,rfl⟩:=Int.eq_ofNat_of_zero_le s0;have jl:j<(Pd "abcdefghijklmnopqrstuvwxyz0123456789 (),-/.AZ_=;").cps.toList.length:=by rw[all];lia
  have lle:(Pd "abcdefghijklmnopqrstuvwxyz0123456789 (),-/.AZ_=;").length<=P6:=PN (by decide+kernel:_<=100) (by lia);refine⟨_,(j:Int),_,rfl,rfl,lle,bN (j:=j) (Ph jl),?_⟩;have cok:PyData.strOk ⟨#[(Pd "abcdefghijklmnopqrstuvwxyz0123456789 (),-/.AZ_=;").cps.toList[j]]⟩=true:=y8 (x:=Pd "abcdefghijklmnopqrstuvwxyz0123456789 (),-/.AZ_=;") (dA _) (List.getElem_mem jl);generalize(Pd "abcdefghijklmnopqrstuvwxyz0123456789 (),-/.AZ_=;").cps.toList[j]=ch at cok⊢;have one:(⟨#[ch]⟩:Str).length=1:=rfl;have la:(Txt.slice x none (some at_)).length<=400:=PN (Txt.slice_le _ _ _) xl;have oka:PyData.strOk (Txt.slice x none (some at_))=true:=lW ok fun d hd=>by rw[A8 x a0]at hd;exact List.mem_of_mem_take hd
  refine⟨_,rfl,_,rfl,at_,rfl,x,rfl,by lia,_,rfl,_,_,rfl,rfl,by lia,?_⟩;refine⟨_,rfl,_,rfl,_,rfl,p,c+2,2,rfl,pu2,by lia,by decide,by decide,fun t H3 t0 t1 pu3 x3=>?_⟩;have lb:(Txt.slice x (some (at_+t)) none).length<=400:=PN (Txt.slice_le _ _ _) xl;have okb:PyData.strOk (Txt.slice x (some (at_+t)) none)=true:=lW ok fun d hd=>by rw[yG x (by lia)]at hd;exact List.mem_of_mem_drop hd
  refine⟨_,_,rfl,rfl,at_+t,rfl,x,rfl,by lia,_,_,rfl,rfl,by rw[Str.length_append];lia,?_⟩;exact k _ H3 (by rw[Str.length_append,Str.length_append];lia) (iH (iH oka cok) okb) pu3 ((x1.trans x2).trans x3)
end
open Classical in
noncomputable def tO(word:Str)(n:Int)(xs:List Wd):Option (Except PY Str):=
 match xs with
 |[.row R]=>if Good n R/\R.length<=60/\word=Pd "show"then some (.ok (eJ R))else none
 |_=>none
theorem nG{word:Str}{n:Int}{xs:List Wd}{r:Except PY Str}(h:tO word n xs=some r):∃R,xs=[.row R]/\Good n R/\R.length<=60/\word=Pd "show"/\r= .ok (eJ R):=by
 unfold tO at h
 split at h
 .rename_i R
  split at h
  .rename_i c
   cases h;exact⟨R,rfl,c.1,c.2.1,c.2.2,rfl⟩
  .cases h
 .cases h
theorem Dg{n:Int}{R:List (Int×Int)}(g:Good n R)(l:R.length<=60):tO (Pd "show") n [.row R]=some (.ok (eJ R)):=if_pos ⟨g,l,rfl⟩
theorem Ht{L:dX}(hL:L.ans=tO){word:Str}(hw:word≠Pd "show"){vs:List V}{H:Hp}{Q:VK}{E:XK}(h:yk L word vs H Q E):False:=by
 obtain⟨n,l,us,xs,_,_,_,_,_,h⟩:=h;rw[hL]at h;rcases h with⟨s,e,_⟩|⟨c,e,_⟩
 .obtain⟨_,_,_,_,z,_⟩:=nG e
  exact hw z
 .obtain⟨_,_,_,_,z,_⟩:=nG e
  exact hw z
structure LY(P:P0)(w:P4)(K:W.Frag)(mg:Str->Option PX)(base:Qd):Prop extends T1 mg K where
 sr:E6 P w K mg base "one_word" 1 ["text"] LV
 sX:FnAt P w K mg base "show_row" 1 ["row"] uF
section
variable{P:P0}{w:P4}{K:W.Frag}{mg:Str->Option PX}{base:Qd}{L:dX}
theorem wL:aE ["n","given"] ["n","given"] (av (top 112)):=⟨rfl,rfl,rfl,by decide+kernel,rfl,by decide+kernel,by decide+kernel⟩
theorem Kl{f:PY}{fd:Qc}(F:dU K "show_kept" "show_kept" (top 112) f fd)(hL:L.ans=tO)(T:LY P w K mg base):j5 P w K mg base (j4 P w) 7 f fd ["n","given"] (yk L "show"):=by
 refine F.Oz wL (fun vs H Q E h=>?_) (fun cdv A outer s H vs Q E hr h=>?_)
 .obtain⟨n,l,us,xs,rfl,_⟩:=h
  rfl
 .obtain⟨n,l,us,xs,rfl,n1,n2,hl,hw,h⟩:=h
  rw[hL]at h;refine⟨_,(qS (w6 (wu T.sr j8 (hr.mono (by decide)) rfl (qR (QE.of (aq T.sX (hr.mono (by first|decide|lia)) rfl (aa (bC (aJ (K:=K) rfl) (pv 1) aj (fun _ _=>rfl)) ae))) Af)))),?_⟩;rcases h with⟨s',e,k⟩|⟨c,e,k⟩
  .obtain⟨R,rfl,g,l60,_,er⟩:=nG e
   cases er
   cases hw with
   |cons w1 hw=>cases hw with
    |nil=>
     obtain⟨b,es,rfl,hb,xe⟩:=w1;have g0:∀e∈R,0<=e.1/\0<=e.2:=fun e he=>by have:=g e he;lia
     refine⟨_,rfl,l,_,0,_,rfl,rfl,aI.of hl,bN (j:=0) rfl,b,es,R,rfl,hb,xe,l60,fun e he=>by have:=g e he;lia,fun H1 s1=>?_⟩;have tl:=yh l60 fun e he=>by have:=g e he;lia
     refine⟨_,rfl,by lia,?_⟩;rw[qM g0];exact k _ s1
  .obtain⟨R,_,_,_,_,er⟩:=nG e
   cases er
end
open PySem PySem.Spec L2 PyProof.Rows
theorem yI{a b:List Nat}(h:ltCps b a=false):a<=b:=by
 rw[ltCps_eq]at h;exact of_decide_eq_false h
theorem u3:∀{l:List Str}{p:Str},risingS p l=true->(p::l).Pairwise fun a b=>a.cps.toList<=b.cps.toList
 |[],p,_=>List.pairwise_singleton _ _
 |x::r,p,h=>by
  unfold risingS at h;rw[Bool.and_eq_true,Bool.not_eq_true']at h;have ih:=u3 h.2;have px:=yI h.1;refine List.pairwise_cons.mpr ⟨fun y hy=>?_,ih⟩;rcases List.mem_cons.mp hy with rfl|hy
  .exact px
  .exact List.le_trans px ((List.pairwise_cons.mp ih).1 y hy)
theorem uR{l:List Str}(h:sortedS l=true):l.Pairwise fun a b=>a.cps.toList<=b.cps.toList:=by
 cases l with
 |nil=>exact List.Pairwise.nil
 |cons p r=>exact u3 h
theorem yW{a b:List Str}(p:a.Perm b)(ha:sortedS a=true)(hb:sortedS b=true):a=b:=
 List.Perm.eq_of_pairwise (fun x y _ _ h1 h2=>Str.ext' (Array.toList_inj.mp (List.le_antisymm h1 h2))) (uR ha) (uR hb) p
noncomputable def HR(cl:vL):dX:=nH (fun _=>true) tO (fun w=>decide (w=Pd "row")) cl.cN cl.gw cl.gP cl.kW
structure TL(P:P0)(w:P4)(K:W.Frag)(mg:Str->Option PX)(base:Qd)(cl:vL)(C:PY):Prop extends T1 mg K where
 qe:mg "max" =none
 ic:mg "min" =none
 jw:FnAt P w K mg base "_law_purse" 1 ["_law_script","_law_at"] (BZ K)
 az:FnAt P w K mg base "_law_take" 1 ["_law_purse_here","_law_many"] mV
 jA:FnAt P w K mg base "_law_row" 2 ["_law_purse_here","_law_n","_law_most"] Gv
 bV:FnAt P w K mg base "_law_row_word" 1 ["_law_row_here"] B5
 p9:FnAt P w K mg base "_law_said" 5 ["_law_purse_here","_law_n","_law_row_here"] EY
 mD:FnAt P w K mg base "_law_signed" 2 ["_law_purse_here","_law_text"] IW
 nN:FnAt P w K mg base "_law_fault" 4 ["_law_n","_law_kept","_law_row_here"] JG
 fv:FnAt P w K mg base "_law_say" 31 ["_law_desk","_law_row_here"] (A7 K cl C (HR cl))
 zv:pL K cl cl.cN 10
 rC:pL K cl cl.gw 11
 B9:FH P w K mg base C "Desk" 1 ["self","n"] (E8 C)
theorem CZ{okd:Str->Bool}{ans:Str->Int->List Wd->Option (Except PY Str)}{U:Str->Bool}{CT CN CB CM:PY}{n:Int}{m:Kept}:(nH okd ans U CT CN CB CM).out n m [Pd "names"]=some .zo:=by
 have e1:qp (Pd "names")=some []:=by decide+kernel
 unfold dX.out nH;dsimp only;rw[e1];dsimp only;rw[if_neg (by simp),if_neg (by simp)];simp only[List.zip_nil_left,fB];rw[if_pos trivial]
theorem NY{v:V}{σ:L2.St}{H:Hp}{Q:VK}(h:Q v H):tC v σ H Q:=h
theorem Ow{v:V}{i:Nat}{u:TS}{D:Ends}{σ:L2.St}{H:Hp}(h:u D (σ.set i (some v)) H):AY (Ae (tC v) (cT i)) u D σ H:=h
theorem Nw{x:Str}{r:List Str}(h:1<=x.length):((Str.join (Pd ",") (x::r)).length:Int)≠0:=by
 cases r with
 |nil=>
  show((x.length:Nat):Int)≠0;lia
 |cons y r=>
  show(((x++Pd "," ++Str.join (Pd ",") (y::r)).length:Nat):Int)≠0;rw[Str.length_append,Str.length_append];lia
def iP(la lb:PY):List (Key×V):=[(.inr (Pd "a"),.ref la),(.inr (Pd "b"),.ref lb)]
def nF(Ra Rb:List (Int×Int)):Kept:=[(Pd "a",Ra),(Pd "b",Rb)]
theorem yU:isNm (Pd "a")/\isNm (Pd "b")/\isNm (Pd "c"):=⟨⟨by decide+kernel,by decide+kernel,by decide+kernel⟩,⟨by decide+kernel,by decide+kernel,by decide+kernel⟩,⟨by decide+kernel,by decide+kernel,by decide+kernel⟩⟩
theorem Ex:¬Pd "a" =Pd "b" :=by decide+kernel
theorem Ma{H:Hp}{la lb:PY}{Ra Rb:List (Int×Int)}{i:Nat}{kv:Key×V}(h:(iP la lb)[i]?=some kv)(km:bg H (iP la lb) (nF Ra Rb)):
  ∃nm R v,kv=(.inr nm,v)/\dB H v R/\isNm nm/\(R=Ra\/R=Rb)/\cQ (iP la lb) (.inr nm:Key)=some v/\yT ((nF Ra Rb).take i) nm R=(nF Ra Rb).take (i+1)/\rowOf (nF Ra Rb) nm=some R:=by
 cases km with
 |cons h1 r=>
  cases r with
  |cons h2 _=>
   match i with
   |0=>
    cases(PU h);exact⟨_,Ra,_,rfl,h1.2,yU.1,.inl rfl,cA rfl,rfl,by unfold rowOf nF;simp⟩
   |1=>
    cases(PU h);exact⟨_,Rb,_,rfl,h2.2,yU.2.1,.inr rfl,by unfold iP;rw[cL (fun z=>Ex (Sum.inr.inj z))];exact cA rfl,by
     show yT [(Pd "a",Ra)] (Pd "b") Rb=[(Pd "a",Ra),(Pd "b",Rb)];unfold yT;rw[if_neg (by simp[Ex])];rfl,by unfold rowOf nF;simp[Ex]⟩
   |i+2=>simp[iP]at h
theorem vM{K:W.Frag}{H H':Hp}{a d:PY}{xs:List V}{q:List (Key×V)}(h:aI K H a xs)(e:H d=some (.dK q))(k:∀b o,b≠d->H b=some o->H' b=some o):aI K H' a xs:=by
 rcases h with(h|⟨o,h⟩)|h
 .exact .inl (.inl (k _ _ (fun z=>by rw[z,e]at h;cases h) h))
 .exact .inl (.inr ⟨o,k _ _ (fun z=>by rw[z,e]at h;cases h) h⟩)
 .exact .inr h
theorem Ez(nm:Str)(R:List (Int×Int)):Pd "row " ++nm++Pd " " ++eJ R=Str.join (Pd " ") [Pd "row",nm,eJ R]:=by
 rw[←CK,show Pd "row " =Pd "row" ++Pd " " by decide+kernel]
theorem CQ(nm:Str):Pd "show " ++nm=Str.join (Pd " ") [Pd "show",nm]:=by
 rw[←DB,show Pd "show " =Pd "show" ++Pd " " by decide+kernel]
section
variable{P:P0}{w:P4}{K:W.Frag}{mg:Str->Option PX}{base:Qd}{cl:vL}{C:PY}
theorem fE:aE ["_law_script","_law_purse_here","_law_n","_law_kept","_law_desk","_law_name","_law_k","_law_signed_here","_law_text","_law_due"] ["_law_script"] (av (top 133)):=⟨rfl,rfl,rfl,by decide+kernel,rfl,by decide+kernel,by decide+kernel⟩
theorem KO{f:PY}{fd:Qc}(F:dU K "law" "law" (top 133) f fd)(T:TL P w K mg base cl C):aQ P w K mg base i4 33 f fd ["_law_script"] (Cf K):=by
 refine F.ok fE (fun vs H Q E h=>?_) (fun cdv A outer s H vs Q E hr h=>?_)
 .obtain⟨a,ns,rfl,_⟩:=h
  rfl
 .obtain⟨a,ns,rfl,hS,hlen,k⟩:=h
  have hu:=pZ hr;refine⟨_,(ag (aC (i:=1) fE.nd rfl (Or.inl rfl) (aq T.jw (hr.mono (by first|decide|lia)) rfl (aa (pv 0) (aa aj ae))))
   (ag (aC (i:=2) fE.nd rfl (Or.inl rfl) (aG bG aj (aq T.az (hr.mono (by first|decide|lia)) rfl (aa (pv 1) (aa aj ae)))))
   (ag (aC (i:=3) fE.nd rfl (Or.inl rfl) (Co (eU ak (aq T.jA (hr.mono (by first|decide|lia)) rfl (@aa _ _ _ _ _ (pv 1) (@aa _ _ _ _ _ (pv 2) (@aa _ _ _ _ _ aj ae kq) bA) bA)) (eU ak (aq T.jA (hr.mono (by first|decide|lia)) rfl (@aa _ _ _ _ _ (pv 1) (@aa _ _ _ _ _ (pv 2) (@aa _ _ _ _ _ aj ae kq) bA) bA)) Bv)) rfl rfl (by simp) (by decide)))
   (ag (aC (i:=4) fE.nd rfl (Or.inl rfl) (Eo T.B9 (hr.mono (by decide)) rfl (aa (pv 2) ae)))
   (ag (cP PassesOwn.never rfl (yd (pv 3)) (aA (i:=5) fE.nd rfl (Or.inl rfl)) (ah (aN (aw eC (aq T.fv (hr.mono (by first|decide|lia)) rfl (aa (pv 4) (aa (aG bM (aG bM (aG bM ak (pv 5)) ak) (aq T.bV (hr.mono (by first|decide|lia)) rfl (aa (n5 hu (pv 3) (pv 5) (fun _ _=>rfl)) ae))) ae))) ak (aB _)) (ah (ay eT)) ax)))
   (ag (cP PassesOwn.never rfl (gY rfl T.cS (aa aj (aa (ar (lP rfl) rfl T.ic (by decide+kernel) (aa (ar (oR rfl) rfl T.qe (by decide+kernel) (aa (ar (aZ (K:=K) rfl) rfl T.bX (by decide+kernel) (aa (pv 0) ae)) (aa aj ae))) (aa aj ae))) ae))) (aA (i:=6) fE.nd rfl (Or.inl rfl)) (ag (aC (i:=1) fE.nd rfl (Or.inl rfl) (aq T.jw (hr.mono (by first|decide|lia)) rfl (aa (pv 0) (aa (pv 6) ae))))
   (ag (aC (i:=7) fE.nd rfl (Or.inl rfl) (iG bR (aq T.az (hr.mono (by first|decide|lia)) rfl (aa (pv 1) (aa aj ae))) aj (aB _)))
   (ag (aC (i:=8) fE.nd rfl (Or.inl rfl) (aq T.p9 (hr.mono (by first|decide|lia)) rfl (@aa _ _ _ _ _ (pv 1) (@aa _ _ _ _ _ (pv 2) (@aa _ _ _ _ _ (aq T.jA (hr.mono (by first|decide|lia)) rfl (@aa _ _ _ _ _ (pv 1) (@aa _ _ _ _ _ (pv 2) (@aa _ _ _ _ _ aj ae kq) bA) bA)) ae cU) bA) bA)))
   (ag (aN (dq (pv 7)) (ah (aC (i:=8) fE.nd rfl (Or.inl rfl) (aq T.mD (hr.mono (by first|decide|lia)) rfl (aa (pv 1) (aa (pv 8) ae))))) ax)
   (ag (aC (i:=9) fE.nd rfl (Or.inl rfl) (aq T.nN (hr.mono (by first|decide|lia)) rfl (@aa _ _ _ _ _ (pv 2) (@aa _ _ _ _ _ (pv 3) (@aa _ _ _ _ _ (pv 8) ae bA) bA) bA)))
   (ag (aN (PW.pt (pH (aw Iq (pv 9) Ak (aB _)) (lN (aw eC (aq T.fv (hr.mono (by first|decide|lia)) rfl (aa (pv 4) (aa (pv 8) ae))) (pv 9) (aB _))))) (ah (ay eT)) ax)
   (ag (aN (PW.pt (fu (aw eC (aq T.fv (hr.mono (by first|decide|lia)) rfl (aa (pv 4) (aa ak ae))) ak (aB _)) (dG (aw eC (aq T.fv (hr.mono (by first|decide|lia)) rfl (aa (pv 4) (aa ak ae))) ak (aB _))))) (ah (ay eT)) ax)
   (ah (cP PassesOwn.never rfl (yd (pv 3)) (aA (i:=5) fE.nd rfl (Or.inl rfl)) (ah (aN (aw eC (aq T.fv (hr.mono (by first|decide|lia)) rfl (aa (pv 4) (aa (aG bM ak (pv 5)) ae))) (aq T.bV (hr.mono (by first|decide|lia)) rfl (aa (n5 hu (pv 3) (pv 5) (fun _ _=>rfl)) ae)) (aB _)) (ah (ay eT)) ax))))))))))))
   (ah (ay eT)))))))),?_⟩
  have big:(10000000:Nat)<=P6:=by decide
  refine⟨_,rfl,a,ns,0,rfl,hS,by lia,by lia,fun p0 H1 hp0 pu0 s1=>?_⟩;refine⟨_,rfl,p0,0,12,rfl,pu0,by decide,by decide,by decide,fun r0 H2 r00 r01 pu1 s2=>?_⟩;have a2:=ai.of s1 hp0 s2;refine⟨_,_,rfl,rfl,fun kd fkd=>?_⟩;have n1:1<=1+r0:=by lia
  have n2:1+r0<=12:=by lia
  have pu2:bo (upd H2 kd (.dK [])) p0 1:=pu1.keep (ai.new fkd);refine⟨_,rfl,_,rfl,p0,1,(1+r0),6,rfl,pu2,by lia,n1,by lia,by decide,by decide,fun la ea Ra H3 fa ha xa ga la6 pu3 s3=>?_⟩;refine⟨_,rfl,_,rfl,p0,_,(1+r0),6,rfl,pu3,by lia,n1,by lia,by decide,by decide,fun lb eb Rb H4 fb hb xb gb lb6 pu4 s4=>?_⟩;have npk:kd≠p0:=fun z=>by
   obtain⟨ys,hy⟩:=pu1.at;rw[z,hy]at fkd;cases fkd
  have k4:H4 kd=some (.dK []):=s4 _ _ npk (s3 _ _ npk af);have npa:la≠p0:=fun z=>by
   obtain⟨ys,hy⟩:=pu2.at;rw[z,hy]at fa;cases fa
  have b4:ai H H4:=ai.of (a2.trans (ai.new (o:= .dK []) fkd)) hp0 (s3.trans s4);refine⟨k4,iP la lb,rfl,(by show 2<=15;decide),?_⟩;rw[show mS [] (iP la lb)=iP la lb by kernel_rfl];have off4:∀b o,b≠kd->H4 b=some o->upd H4 kd (.dK (iP la lb)) b=some o:=fun b o ne e=>by rw[ao ne];exact e
  have ra4:dB H4 (.ref la) Ra:=⟨la,ea,rfl,s4 _ _ npa ha,xa.keep (pu3.Je s4)⟩;have rb4:dB H4 (.ref lb) Rb:=⟨lb,eb,rfl,hb,xb⟩;have km5:bg (upd H4 kd (.dK (iP la lb))) (iP la lb) (nF Ra Rb):= .cons ⟨rfl,ra4.off k4 off4⟩ (.cons ⟨rfl,rb4.off k4 off4⟩ .nil);have hk5:upd H4 kd (.dK (iP la lb)) kd=some (.dK (iP la lb)):=af;have hS5:aI K (upd H4 kd (.dK (iP la lb))) a (ns.map V.int):=vM (b4.seq hS) k4 off4;generalize upd H4 kd (.dK (iP la lb))=H5 at km5 hk5 hS5⊢;clear s4 s3 s2 s1 a2 b4 off4 ra4 rb4 k4 pu4 pu3 pu2 pu1 pu0 ha hb xa xb fa fb npa npk fkd;refine⟨_,rfl,fun aD dx0 fa0 fd0 ne0=>⟨aD,dx0,(1+r0),rfl,af,by rw[ao ne0,af],ne0,fun d H6 fd0' nd0 dk0 off0=>⟨rfl,?_⟩⟩⟩;have s6:ai H5 H6:=fun b o e=>off0 b o (au e fa0) (by rw[ao (au e fa0),ao (au e fd0)];exact e);have fd5:H5 d=none:=by
   by_cases z:d=dx0
   .rw[z];assumption
   .rw[ao nd0,ao z]at fd0';exact fd0'
  have kd_d:kd≠d:=fun z=>by rw[z,fd5]at hk5;cases hk5
  have km6:=km5.same s6;have hk6:=s6 _ _ hk5;have hS6:=s6.seq hS5;clear s6 km5 hk5 hS5 fd0' off0;have smA:Kr Ra:=fun e he=>by have:=ga e he;lia
  have smB:Kr Rb:=fun e he=>by have:=gb e he;lia
  have gR:∀R,R=Ra\/R=Rb->Good (1+r0) R/\R.length<=6/\Kr R:=by
   rintro R (rfl|rfl)
   .exact⟨ga,by lia,smA⟩
   .exact⟨gb,by lia,smB⟩
  have gm:MN (1+r0) (nF Ra Rb):=fun q hq=>by
   simp only[nF,Po,PB,or_false]at hq;rcases hq with rfl|rfl
   .exact⟨ga,by show Ra.length<=60;lia,yU.1⟩
   .exact⟨gb,by show Rb.length<=60;lia,yU.2.1⟩
  have gmi:∀i,((nF Ra Rb).take i).length<=40/\∀q∈(nF Ra Rb).take i,q.1.length<=990:=fun i=>⟨PN (List.length_take_le' _ _) (by show 2<=40;lia),fun q hq=>by have:=(gm q (List.mem_of_mem_take hq)).2.2.2.1;lia⟩;have sp1:(Pd " ").length=1:=by decide+kernel
  have rw4:(Pd "row ").length=4:=by decide+kernel
  have sw5:(Pd "show ").length=5:=by decide+kernel
  refine⟨_,rfl,kd,iP la lb,rfl,.inl hk6,fun ob H7 fz=>?_⟩;have hk7:=fz.at;have km7:bg H7 (iP la lb) (nF Ra Rb):=km6.off hk6 fz.off;have dk7:cM C H7 aD d (1+r0) []:=dk0.off hk6 kd_d.symm fz.off;have hS7:aI K H7 a (ns.map V.int):=vM hS6 hk6 fz.off;clear fz hk6 km6 dk0 hS6;refine uD (fun i σ H'=>∃v5,σ=[some (.ref a),some (.ref p0),some (.int (1+r0)),some (.ref kd),some (.ref aD),v5,none,none,none,none]/\H' kd=some (.mL ob (.dK (iP la lb)))/\bg H' (iP la lb) (nF Ra Rb)/\cM C H' aD d (1+r0) ((nF Ra Rb).take i)/\aI K H' a (ns.map V.int)) ⟨_,rfl,hk7,km7,dk7,hS7⟩ (fun i σ H' _ ⟨_,_,q,_⟩=>q) ?_ ?_
  .rintro i kv σ H' hkv ⟨v5,rfl,hk,km,dk,hSq⟩
   obtain⟨nm,R,v,rfl,rv,hn,hR,vv,pm,_⟩:=Ma hkv km;obtain⟨gr,l6,smx⟩:=gR R hR;obtain⟨l,es,rfl,hl,xe⟩:=rv;have rl:=yL smx;have nl:=hn.2.1;have dg:kU H' kd (kV (.inr nm)) (some (.ref l)):=by rw[←vv];exact .inl ⟨_,.inr nm,.inr ⟨ob,hk⟩,rfl,rfl⟩
   refine⟨_,rfl,_,rfl,_,_,rfl,rfl,(by rw[rw4];lia),_,_,rfl,rfl,(by rw[Str.length_append];lia),_,rfl,_,rfl,kd,_,rfl,dg,l,es,R,rfl,hl,xe,by lia,smx,fun H8 s8=>⟨_,_,rfl,rfl,(by rw[Str.length_append,Str.length_append];lia),aD,d,_,(1+r0),_,.put nm R,rfl,(by rw[Str.length_append,Str.length_append,Str.length_append];lia),n1,n2,(gmi i).1,(gmi i).2,dk.same s8,?_,fun H9 dk9 off9=>?_⟩⟩
   .rw[Ez,p6 (by simp) fun t ht=>?_]
    .exact Io rfl rfl (by decide+kernel) hn n2 gr (by lia)
    .simp only[Po,PB,or_false]at ht
     rcases ht with rfl|rfl|rfl
     .decide+kernel
     .exact IZ hn
     .exact HI fun e he=>by have:=gr e he;lia
   .obtain⟨_,_,q9,_,_,hd8,_⟩:=id (dk.same s8)
    refine⟨rfl,_,rfl,bI (by decide+kernel) ?_⟩;rw[pm]at dk9;exact⟨_,rfl,off9 _ _ kd_d (s8 _ _ hk),(km.same s8).off hd8 off9,dk9,vM (s8.seq hSq) hd8 off9⟩
  rintro σ H8 ⟨v5,rfl,hk8,km8,dk8,hS8⟩;have dk8:cM C H8 aD d (1+r0) (nF Ra Rb):=dk8;refine⟨_,rfl,a,_,rfl,.inl hS8,_,_,rfl,_,_,rfl,_,_,rfl,?b1,gX (fun i σ H'=>(∃v1 v5 v6 v7 v8 v9,σ=[some (.ref a),v1,some (.int (1+r0)),some (.ref kd),some (.ref aD),v5,v6,v7,v8,v9])/\i<=16/\ai H8 H') ⟨⟨_,_,_,_,_,_,rfl⟩,PQ _,ai.refl _⟩ ?_ ?_⟩
  case b1=>
   rw[Pe];refine⟨by decide,by decide,?_,?_⟩<;>(split<;>(try split)<;>lia)
  .rintro i σ G1 hi ⟨⟨v1,v5,v6,v7,v8,v9,rfl⟩,i16,sG1⟩
   have hi:i<16:=PL hi (by rw[Pe];split<;>(try split)<;>lia);have hSa:=sG1.seq hS8;have hk1:=sG1 _ _ hk8;refine⟨_,rfl,_,rfl,a,ns,_,rfl,hSa,by lia,by lia,fun p G2 hp pu0 s1=>?_⟩;refine⟨_,rfl,p,0,3,rfl,pu0,by decide,by decide,by decide,fun rs G3 rs0 rs1 pu1 s2=>⟨rfl,?_⟩⟩;have b3:=ai.of s1 hp s2;refine⟨_,rfl,_,rfl,_,rfl,_,rfl,p,1,(1+r0),6,rfl,pu1,by decide,n1,by lia,by decide,by decide,fun lr er R G4 fl hl xe gr lR pu2 s3=>?_⟩;have lrp:lr≠p:=fun z=>by
    obtain⟨ys,hy⟩:=pu1.at;rw[z,hy]at fl;cases fl
   have smx:Kr R:=fun e he=>by have:=gr e he;lia
   refine⟨p,lr,_,(1+r0),er,R,rfl,lrp,pu2,by lia,n1,n2,hl,xe,by lia,smx,fun t0 G5 c' tl0 tok0 pu3 lc s4=>?_⟩;have b5:ai G1 G5:=ai.of (ai.of b3 hp s3) hp s4;refine OL ?_;dsimp only;refine wJ (t:=Dr _ _ _) (fun σ' H'=>∃t:Str,σ'=[some (.ref a),some (.ref p),some (.int (1+r0)),some (.ref kd),some (.ref aD),v5,some (.int (1+(i:Int))),some (.bl (decide (V.int rs=V.int 1))),some (.str t),v9]/\t.length<=801/\PyData.strOk t=true/\ai G1 H') (fun D' hD=>?_) ?_
   .refine⟨_,rfl,_,rfl,cg (fun _=>?_) (fun _=>?_)⟩
    .refine⟨_,rfl,_,rfl,p,c',t0,rfl,pu3,by lia,tl0,tok0,fun y G6 yl yok pu4 s5=>?_⟩
     exact hD _ _ ⟨y,rfl,yl,yok,ai.of b5 hp s5⟩
    .exact hD _ _ ⟨t0,rfl,by lia,tok0,b5⟩
   rintro σ' G6 ⟨t,rfl,tl,tok,b6⟩;have sG6:=sG1.trans b6;have hk6:=sG6 _ _ hk8;have km6:=km8.same sG6;have dk6:=dk8.same sG6;have gm2:=gmi 2;have gm2a:(nF Ra Rb).length<=40:=gm2.1;have gm2b:∀q∈nF Ra Rb,q.1.length<=990:=gm2.2;refine⟨_,rfl,_,rfl,_,rfl,(1+r0),kd,t,iP la lb,nF Ra Rb,rfl,n1,n2,by lia,tok,.inr ⟨ob,hk6⟩,km6,fun G7 s7=>?_⟩;have dk7:=dk6.same s7;refine OL ?_;dsimp only;refine wJ (t:=Dr _ _ _) (fun σ' H'=>σ'=[some (.ref a),some (.ref p),some (.int (1+r0)),some (.ref kd),some (.ref aD),v5,some (.int (1+(i:Int))),some (.bl (decide (V.int rs=V.int 1))),some (.str t),some (AE (cO (1+r0) (nF Ra Rb) (Txt.split t (Pd " "))))]/\ai G1 H') (fun D' hD=>?_) ?_
   .cases hf:cO (1+r0) (nF Ra Rb) (Txt.split t (Pd " "))with
    |none=>
     refine⟨_,rfl,rfl,_,rfl,bI (by decide) ?_⟩;rw[hf]at hD;exact bI (by decide) (hD _ _ ⟨rfl,b6.trans s7⟩)
    |some x=>
     rw[hf]at hD;obtain⟨ho,hx⟩:=Ds (ans:=tO) (U:=fun w=>decide (w=Pd "row")) (CT:=cl.cN) (CN:=cl.gw) (CB:=cl.gP) (CM:=cl.kW) n2 hf;have al:pL K cl (if x=10 then cl.cN else cl.gw) x:=by
      rcases hx with rfl|rfl
      .exact T.zv
      .exact T.rC
     refine⟨_,rfl,rfl,_,rfl,kc (by show(!decide (V.str (CG x)=V.cE))=true;simp) ?_⟩;refine⟨_,rfl,_,rfl,aD,d,t,(1+r0),nF Ra Rb,.tM (if x=10 then cl.cN else cl.gw),rfl,by lia,n1,n2,gm2a,gm2b,dk7,ho,x,al,fun G8 s8=>?_⟩;refine⟨_,rfl,rfl,_,rfl,?_⟩;refine bI (by simp[AE]) (hD _ _ ⟨rfl,(b6.trans s7).trans s8⟩)
   rintro σ' G8 ⟨rfl,b8⟩;have sG8:=sG1.trans b8;have dk9:=dk8.same sG8;have spn:Txt.split (Pd "names") (Pd " ")=[Pd "names"]:=by decide+kernel
   have spc:Txt.split (Pd "show c") (Pd " ")=[Pd "show",Pd "c"]:=by decide+kernel
   refine wJ (t:=Dr _ _ _) (fun σ' H'=>σ'=[some (.ref a),some (.ref p),some (.int (1+r0)),some (.ref kd),some (.ref aD),v5,some (.int (1+(i:Int))),some (.bl (decide (V.int rs=V.int 1))),some (.str t),some (AE (cO (1+r0) (nF Ra Rb) (Txt.split t (Pd " "))))]/\ai G1 H') (fun D' hD=>?_) ?_
   .refine⟨_,rfl,aD,d,_,(1+r0),nF Ra Rb,.zo,rfl,by decide+kernel,n1,n2,gm2a,gm2b,dk9,by rw[spn];exact CZ,fun ks pm so G9 s9=>?_⟩
    have eks:ks=[Pd "a",Pd "b"]:=yW pm so (by decide+kernel);subst eks;have ec:o4 [Pd "a",Pd "b"]=Pd "a,b" :=by decide+kernel
    rw[ec];refine⟨rfl,_,rfl,bI (by decide+kernel) ?_⟩;have oa:=BG (okd:=fun _=>true) (ans:=tO) (U:=fun w=>decide (w=Pd "row")) (CT:=cl.cN) (CN:=cl.gw) (CB:=cl.gP) (CM:=cl.kW) (n:=(1+r0)) (m:=nF Ra Rb) (nm:=Pd "c") (word:=Pd "show") rfl (by decide+kernel) (by decide+kernel) yU.2.2;have nc:rowOf (nF Ra Rb) (Pd "c")=none:=by
     have e1:¬Pd "a" =Pd "c" :=by decide+kernel
     have e2:¬Pd "b" =Pd "c" :=by decide+kernel
     unfold rowOf nF;simp[e1,e2]
    refine⟨_,rfl,aD,d,_,(1+r0),nF Ra Rb,.tM cl.gw,rfl,by decide+kernel,n1,n2,gm2a,gm2b,dk9.same s9,by rw[spc];exact oa.1 nc,11,T.rC,fun G10 s10=>?_⟩;have r11:CG 11=Pd "!NoName" :=by decide+kernel
    rw[r11];refine⟨rfl,_,rfl,bI (by decide+kernel) ?_⟩;exact hD _ _ ⟨rfl,(b8.trans s9).trans s10⟩
   rintro σ' G9 ⟨rfl,b9⟩;have sG9:=sG1.trans b9;have hk9:=sG9 _ _ hk8;refine⟨_,rfl,kd,iP la lb,rfl,.inr ⟨ob,hk9⟩,fun o2 G10 fz=>?_⟩;rcases fz with⟨fz,_⟩|⟨fz,rfl⟩
   .rw[hk9]at fz;cases fz
   have:o2=ob:=by rw[hk9]at fz;cases fz;rfl
   subst this;refine uD (fun i' σ H'=>∃v5,σ=[some (.ref a),some (.ref p),some (.int (1+r0)),some (.ref kd),some (.ref aD),v5,some (.int (1+(i:Int))),some (.bl (decide (V.int rs=V.int 1))),some (.str t),some (AE (cO (1+r0) (nF Ra Rb) (Txt.split t (Pd " "))))]/\ai G1 H') ⟨_,rfl,b9⟩ (fun i' σ H' _ ⟨_,_,q⟩=>(sG1.trans q) _ _ hk8) ?_ ?_
   .rintro i' kv σ H' hkv ⟨v5',rfl,sH⟩
    have sH8:=sG1.trans sH;obtain⟨nm,R',v,rfl,rv,hn,hR,vv,_,er⟩:=Ma hkv (km8.same sH8);obtain⟨gr',l6',smx'⟩:=gR R' hR;obtain⟨l,es,rfl,hl',xe'⟩:=rv;have nl:=hn.2.1;have oa:=BG (okd:=fun _=>true) (ans:=tO) (U:=fun w=>decide (w=Pd "row")) (CT:=cl.cN) (CN:=cl.gw) (CB:=cl.gP) (CM:=cl.kW) (n:=(1+r0)) (m:=nF Ra Rb) (nm:=nm) (word:=Pd "show") rfl (by decide+kernel) (by decide+kernel) hn;have dg:∀G,ai H' G->kU G kd (kV (.inr nm)) (some (.ref l)):=fun G sG=>by rw[←vv];exact .inl ⟨_,.inr nm,.inr ⟨o2,sG _ _ (sH8 _ _ hk8)⟩,rfl,rfl⟩
    refine⟨_,rfl,_,rfl,_,_,rfl,rfl,(by rw[sw5];lia),aD,d,_,(1+r0),nF Ra Rb,.ans (eJ R'),rfl,(by rw[Str.length_append];lia),n1,n2,gm2a,gm2b,dk8.same sH8,?_,fun G11 s11=>?_⟩
    .rw[CQ,p6 (by simp) fun t ht=>?_]
     .exact(oa.2 R' er).1 _ (Dg gr' (by lia))
     .simp only[Po,PB,or_false]at ht
      rcases ht with rfl|rfl
      .decide+kernel
      .exact IZ hn
    .refine⟨_,rfl,_,rfl,kd,_,rfl,dg _ s11,l,es,R',rfl,s11 _ _ hl',xe'.keep (fun b xs hb=>s11 _ _ hb),by lia,smx',fun G12 s12=>?_⟩
     refine⟨rfl,_,rfl,bI (by simp) ?_⟩;exact⟨_,rfl,(sH.trans s11).trans s12⟩
   .rintro σ H' ⟨v5',rfl,sH⟩
    exact⟨⟨_,_,_,_,_,_,rfl⟩,by lia,sG1.trans sH⟩
  .rintro σ H' ⟨⟨v1,v5,v6,v7,v8,v9,rfl⟩,_,_⟩
   exact k H'
end
def bE(K:W.Frag)(x:Str)(st:Stmt)(f:PY):Prop:=∃(oc:PX)(od:Option PY)(kV doc pm:PX)(an:Option PY)(cdv ct:PX)(osl:Array (Option PX)),K.lookup f=some ⟨oc,od,.func (W.fnOf x x (gW st) (dE st) (av st) .none kV doc pm an cdv ct),osl⟩/\W.codeIn K cdv x=true/\W.keepIn K (.ref f)=true
theorem bE.fn {K:W.Frag}{x:Str}{st:Stmt}{f:PY}(d:bE K x st f):∃fd,dU K x x st f fd:=by
 obtain⟨oc,od,kV,doc,pm,an,cdv,ct,osl,l,c,k⟩:=d;exact⟨_,vU l c k⟩
section
variable{P:P0}{w:P4}{K:W.Frag}{mg:Str->Option PX}{base:Qd}{x q:Str}{st:Stmt}{k:Nat}{ps:List Str}{sp:Sp}{f:PY}{fd:Qc}
theorem Hn{CX:uJ}(F:dU K x q st f fd)(no:∀vs H Q E,sp vs H Q E->False):aQ P w K mg base CX k f fd ps sp:=
 ⟨fun vs H Q E h=>(no vs H Q E h).elim,fun _ _ _ H _ _ vs Q E _ _ _ _ h=>(no vs H Q E h).elim⟩
theorem vq{ps:List Str}(F:j5 P w K mg base (j4 P w) k f fd ps sp)(h:k<=20)(kp:W.keepIn K (.ref f)=true)(b:Binds K fd ps []):HE P w K mg base 20 f sp:=⟨⟨fd,ps,F.mono h,kp,b⟩⟩
theorem rP{ps:List Str}(F:dU K x q st f fd)(kp:W.keepIn K (.ref f)=true)(b:Binds K fd ps [])(no:∀vs H Q E,sp vs H Q E->False):HE P w K mg base 20 f sp:=⟨⟨fd,ps,(Hn (CX:=j4 P w) (k:=20) (ps:=ps) F no).toQ,kp,b⟩⟩
end
def Lm(K:W.Frag)(p:Str×List Str)(q:Str×PY):Prop:=p.1=q.1/\p.2.length<=10/\∃(o:Obj)(its:Array PX)(n:Nat),K.lookup q.2=some o/\o.cls= .type "tuple"/\o.data= .seq its n/\its.size<=P6/\Vals (p.2.map V.str) its.toList
theorem xX{K:W.Frag}(w:Str):∀{ps:List (Str×List Str)}{qs:List (Str×PY)},Paired (Lm K) ps qs->((ps.find? fun p=>p.1=w).map (·.2)=none/\tabOf qs w=none)\/∃xs b,(ps.find? fun p=>p.1=w).map (·.2)=some xs/\tabOf qs w=some b/\xs.length<=10/\∀H,gL K H b (xs.map V.str)
 |_,_,.nil=> .inl ⟨rfl,rfl⟩
 |_,_,.cons (a:=p) (b:=q) h r=>by
  by_cases c:p.1=w
  .refine .inr ⟨p.2,q.2,?_,?_,h.2.1,fun H=> .inr h.2.2⟩
   .rw[List.find?_cons_of_pos (by simpa using c)];rfl
   .unfold tabOf
    rw[List.find?_cons_of_pos (by rw[←h.1];simpa using c)];rfl
  .have e1:=xX w r
   unfold tabOf at e1⊢;rw[List.find?_cons_of_neg (by simpa using c),List.find?_cons_of_neg (by rw[←h.1];simpa using c)];exact e1
theorem u5{f:PY}{w:Str}:∀{qs:List (Str×PY)},tabOf qs w=some f->(w,f)∈qs
 |[],h=>by cases h
 |p::r,h=>by
  unfold tabOf at h;by_cases c:p.1=w
  .rw[List.find?_cons_of_pos (by simpa using c)]at h
   cases h;rw[←c];exact Pt
  .rw[List.find?_cons_of_neg (by simpa using c)]at h
   exact Pu _ (u5 h)
theorem DK{K:W.Frag}{okd:Str->Bool}{ans:Str->Int->List Wd->Option (Except PY Str)}{U:Str->Bool}{CT CN CB CM:PY}{yF ansA:List (Str×PY)}(hd:Paired (Lm K) CJ yF)(ha:ansA.map (·.1)=GW):MW K (nH okd ans U CT CN CB CM) yF ansA:=
 ⟨fun w=>xX w hd,fun w=>by rw[Hg,ha];rfl,fun n w x h=>by
  have q:=nM (n:=n) (d:=Pd "name") (w:=w) (by decide+kernel) (by decide+kernel) (by decide+kernel);by_cases c:isNm w
  .exact⟨w,PU (h.symm.trans (q.1 c))⟩
  .rw[show dn n (Pd "name") w=some x from h]at q
   cases q.2 c⟩
section
variable{P:P0}{w:P4}{K:W.Frag}{mg:Str->Option PX}{base:Qd}
theorem rh:aE ["words"] ["words"] (av (top 95)):=⟨rfl,rfl,rfl,by decide+kernel,rfl,by decide+kernel,by decide+kernel⟩
theorem LU{f:PY}{fd:Qc}(F:dU K "with_commas" "with_commas" (top 95) f fd)(T:T1 mg K):aQ P w K mg base i4 1 f fd ["words"] Mn:=by
 refine F.ok rh (fun vs H Q E h=>?_) (fun cdv A outer s H vs Q E hr h=>?_)
 .obtain⟨l,ws,rfl,_⟩:=h
  rfl
 .obtain⟨l,ws,rfl,hl,h1,h2,k⟩:=h
  refine⟨_,(ah (ay (xY (aw bR (ar (aZ (K:=K) rfl) rfl T.bX (by decide+kernel) (aa (pv 0) ae)) aj (aB _)) ak (aP (K:=K) rfl PySem.F.plainAttrs_str PySem.F.slot_str_join PySem.F.type_str_join (iE (K:=K) rfl) ak (aa (pv 0) ae))))),?_⟩;have js:JoinOk (Pd ",") ws=true:=by
   have:=cf (z:=Pd ",") (ts:=ws) (B:=990) (by decide+kernel) h2 (by decide) (by lia);exact this
  refine⟨_,rfl,l,_,rfl,.inl (aI.of hl),rfl,_,rfl,?_⟩;dsimp only;by_cases c:ws=[]
  .subst c
   rw[if_pos (by rfl)];unfold o4 at k;rw[if_pos rfl]at k;exact k
  .rw[if_neg (by
    simp only[Pe,decide_eq_true_eq,V.int.injEq];intro z;exact c (List.length_eq_zero_iff.mp (by lia)))]
   unfold o4 at k;rw[if_neg c]at k;exact⟨rfl,_,rfl,_,l,ws,rfl,rfl,aI.of hl,js,k⟩
end
section
variable{P:P0}{w:P4}{K:W.Frag}{mg:Str->Option PX}{base:Qd}
theorem cq:aE ["_law_order_here","_law_found","_law_met","_law_first","_law_some"] ["_law_order_here"] (av (top 119)):=⟨rfl,rfl,rfl,by decide+kernel,rfl,by decide+kernel,by decide+kernel⟩
theorem Az{f:PY}{fd:Qc}(F:dU K "_law_rounds" "_law_rounds" (top 119) f fd)(T:T1 mg K):aQ P w K mg base i4 1 f fd ["_law_order_here"] jh:=by
 refine F.ok cq (fun vs H Q E h=>?_) (fun cdv A outer s H vs Q E hr h=>?_)
 .obtain⟨t,n,xs,rfl,_⟩:=h
  rfl
 .obtain⟨t,n,xs,rfl,ht,o,hn,k⟩:=h
  refine⟨_,(ag (aC (i:=1) cq.nd rfl (Or.inl rfl) (bH ae))
   (ag (aC (i:=2) cq.nd rfl (Or.inl rfl) (bH ae))
   (ag (cP PassesOwn.never rfl (gY rfl T.cS (aa aj (aa (aG bG (ar (aZ (K:=K) rfl) rfl T.bX (by decide+kernel) (aa (pv 0) ae)) aj) ae))) (aA (i:=3) cq.nd rfl (Or.inl rfl)) (ah (aN (aw (lV (K:=K) rfl) (pv 3) (pv 2) rfl) (ag (aC (i:=4) cq.nd rfl (Or.inl rfl) (bH (aa (pv 3) ae)))
   (ag (yK PassesOwn.never (aw eC (bC (mf (K:=K) rfl) (pv 0) (aG ku (bC (aJ (K:=K) rfl) (pv 4) (yR rz aj) (fun _ _=>rfl)) aj) (fun _ _=>rfl)) (pv 3) (aB _)) (ah (cj (aP (K:=K) rfl PySem.F.plainAttrs_list PySem.F.slot_list_append PySem.F.type_list_append c8 (pv 4) (aa (bC (mf (K:=K) rfl) (pv 0) (aG ku (bC (aJ (K:=K) rfl) (pv 4) (yR rz aj) (fun _ _=>rfl)) aj) (fun _ _=>rfl)) ae)))))
   (ag (aC (i:=2) cq.nd rfl (Or.inl rfl) (aG rF (pv 2) (pv 4)))
   (ah (cj (aP (K:=K) rfl PySem.F.plainAttrs_list PySem.F.slot_list_append PySem.F.type_list_append c8 (pv 1) (aa (pv 4) ae))))))) ax)))
   (ah (ay (pv 1)))))),?_⟩
  have ol:=o.length;have big:(10000000:Nat)<=P6:=by decide
  refine⟨PQ _,fun lf hlf=>⟨PQ _,fun lm hlm=>?_⟩⟩;have nfm:lf≠lm:=by intro z;subst z;rw[af]at hlm;cases hlm
  have s1:ai H (upd H lf (.lst [])):=ai.new hlf;have s2:=s1.trans (ai.new (o:= .lst []) hlm);refine⟨_,rfl,t,_,rfl,.inr (gL.of (s2 _ _ ht)),_,_,rfl,rfl,1,_,rfl,⟨by decide,by decide,by lia,by rw[Pe];lia⟩,?_⟩;refine gX (fun i σ H'=>∃lm ws ms v3 v4,σ=[some (.ref t),some (.ref lf),some (.ref lm),v3,v4]/\ai H H'/\lf≠lm/\H' lf=some (.lst ws)/\H' lm=some (.lst (ms.map V.int))/\cV H' ws ((((cZ 1 (n+1)).take i).filter (least xs)).map (iQ xs))/\jq H ws/\V.ref lf∉ws/\ws.length<=i/\ms.length<=i*1000/\∀y,y∈ms↔∃m∈((cZ 1 (n+1)).take i).filter (least xs),y∈iQ xs m)
   ⟨lm,[],[],_,_,rfl,s2,nfm,by rw[ao nfm,af],af,.nil,jq.nil,by simp,PK _,PK _,by intro y;simp⟩ ?_ ?_
  .rintro i σ H' hi ⟨lm,ws,ms,v3,v4,rfl,s3,nfm,hf3,hm3,x3,fr3,nf3,wl,ml,mm⟩
   rw[Pe]at hi;have hi':(i:Int)<n:=by lia
   have ef:((cZ 1 (n+1)).take (i+1))=(cZ 1 (n+1)).take i++[1+(i:Int)]:=by rw[PJ,eD (by lia)];rfl
   have b1:(1:Int)<=1+i:=by lia
   have b2:(1:Int)+i<=n:=by lia
   have ml2:=Dd o hi';refine⟨_,rfl,_,rfl,lm,_,rfl,.inl (aI.of hm3),rfl,u9 ms,_,rfl,?_⟩;show if(!CO (.int (1+(i:Int))) (ms.map V.int))=true then _ else _
   rw[wG];refine cg (fun c=>?_) (fun c=>?_)
   .have c:¬(1+(i:Int))∈ms:=by simpa using c
    have hL:least xs (1+i)=true:=ml2.mpr (fun z=>c ((mm _).mpr z));refine⟨_,rfl,(by show 1<=P6;decide),fun la hla=>?_⟩;have fla:H la=none:=s3.free hla;have nfa:lf≠la:=au hf3 hla;have nma:lm≠la:=au hm3 hla;have pl:=Ea o b1 b2;have naw:V.ref la∉ws:=fun z=>by
     obtain⟨ns,e⟩:=x3.mem z;rw[hla]at e;cases e
    refine⟨fun m σ H2=>∃j,m=gj xs (1+i)-j/\1<=j/\j<=gj xs (1+i)/\σ=[some (.ref t),some (.ref lf),some (.ref lm),some (.int (1+(i:Int))),some (.ref la)]/\H2=upd H' la (.lst (((List.range j).map fun k=>dY (ld xs) k (1+i)).map V.int)),⟨_,1,rfl,PK _,by unfold gj;lia,rfl,rfl⟩,?_⟩;rintro m σ H2 ⟨j,rfl,j1,j2,rfl,rfl⟩;have ir:=dH o b1 b2 (j-1);have s4:ai H (upd H' la (.lst (((List.range j).map fun k=>dY (ld xs) k (1+i)).map V.int))):=ai.put s3 fla;have gl:wm (((List.range j).map fun k=>dY (ld xs) k (1+(i:Int))).map V.int) (-1)=some (.int (dY (ld xs) (j-1) (1+i))):=by
     refine Hc (k:=j-1) (by rw[Pe,List.length_range];lia) ?_;rw[Pf,List.getElem?_range (by lia)];rfl
    have gt:wm (xs.map V.int) (dY (ld xs) (j-1) (1+i)-1)=some (.int (dY (ld xs) j (1+i))):=by
     have q:=jC (ns:=xs) (i:=dY (ld xs) (j-1) (1+i)-1) (by lia) (o9 o ir.1 ir.2);rw[q];obtain⟨j',rfl⟩:∃j',j=j'+1:=⟨j-1,by lia⟩;rfl
    refine⟨_,rfl,_,rfl,1,rfl,la,_,_,_,rfl,rfl,aI.of af,gl,_,_,rfl,rfl,t,_,_,_,rfl,rfl,gL.of (s4 _ _ ht),gt,_,rfl,rfl,_,rfl,cg (fun c2=>?_) (fun c2=>?_)⟩
    .have c2:dY (ld xs) j (1+i)≠1+(i:Int):=by simpa using c2
     have lt:j<gj xs (1+i):=by
      by_cases e:j=gj xs (1+i)
      .rw[e]at c2;exact absurd (oN o b1 b2) c2
      .lia
     refine⟨fun σ' H2=>σ'=[some (.ref t),some (.ref lf),some (.ref lm),some (.int (1+(i:Int))),some (.ref la)]/\H2=upd H' la (.lst (((List.range (j+1)).map fun k=>dY (ld xs) k (1+i)).map V.int)),fun σ' H2 ⟨e1,e2⟩=>⟨_,(by show gj xs (1+i)-(j+1)<_;lia),j+1,rfl,by lia,by lia,e1,e2⟩,?_⟩;refine⟨_,rfl,.inl ⟨rfl,_,aI.of af⟩,_,rfl,_,rfl,1,rfl,la,_,_,_,rfl,rfl,aI.of af,gl,_,_,rfl,rfl,t,_,_,_,rfl,rfl,gL.of (s4 _ _ ht),gt,la,_,_,rfl,rfl,af,by simp;lia,rfl,?_⟩;rw[HQ,List.range_succ,Pj,Pj];rfl
    .have c2:dY (ld xs) j (1+i)=1+(i:Int):=by simpa using c2
     have e:j=gj xs (1+i):=by
      apply PV;intro z;exact vS (by lia) (by lia) c2
     subst e;have hla4:upd H' la (.lst (((List.range (gj xs (1+i))).map fun k=>dY (ld xs) k (1+i)).map V.int)) la=some (.lst ((iQ xs (1+i)).map V.int)):=af;have hf4:upd H' la (.lst (((List.range (gj xs (1+i))).map fun k=>dY (ld xs) k (1+i)).map V.int)) lf=some (.lst ws):=by rw[ao nfa];exact hf3
     have hm4:upd H' la (.lst (((List.range (gj xs (1+i))).map fun k=>dY (ld xs) k (1+i)).map V.int)) lm=some (.lst (ms.map V.int)):=by rw[ao nma];exact hm3
     have x4:=x3.keep (ai.new (o:= .lst (((List.range (gj xs (1+i))).map fun k=>dY (ld xs) k (1+i)).map V.int)) hla);generalize upd H' la (.lst (((List.range (gj xs (1+i))).map fun k=>dY (ld xs) k (1+i)).map V.int))=H4 at s4 hla4 hf4 hm4 x4⊢;have ol2:=mU xs (1+i);refine⟨_,rfl,_,rfl,lm,la,_,_,rfl,rfl,hm4,hla4,by rw[Pe,Pe];lia,fun l5 f5=>?_⟩;have nf5:lf≠l5:=au hf4 f5;refine⟨_,rfl,.inl ⟨rfl,_,aI.of (by rw[ao nf5];exact hf4)⟩,_,rfl,lf,_,_,rfl,rfl,(by rw[ao nf5];exact hf4),by lia,?_⟩;have s5:=s4.trans (ai.new (o:= .lst (ms.map V.int++(iQ xs (1+i)).map V.int)) f5);refine⟨l5,ws++[.ref la],ms++iQ xs (1+i),_,_,rfl,ai.put s5 hlf,nf5,af,?_,?_,fr3.snoc x3 hla fla,?_,?_,?_,?_⟩
     .rw[ao nf5.symm,af,Pj]
     .rw[ef,List.filter_append,Pj,List.filter_cons_of_pos hL]
      refine cV.off ((x4.keep (ai.new f5)).snoc (by rw[ao (au hla4 f5)];exact hla4)) ?_;intro z;rcases List.mem_append.mp z with z|z
      .exact nf3 z
      .exact nfa (by simpa using z)
     .intro z
      rcases List.mem_append.mp z with z|z
      .exact nf3 z
      .exact nfa (by simpa using z)
     .rw[Pg,List.length_singleton];lia
     .rw[Pg];lia
     .intro y
      rw[ef,List.filter_append,List.filter_cons_of_pos hL,List.filter_nil,List.mem_append,mm];constructor
      .rintro(⟨m,h1,h2⟩|h)
       .exact⟨m,Py _ h1,h2⟩
       .exact⟨1+i,Px _ (List.mem_singleton.mpr rfl),h⟩
      .rintro⟨m,h1,h2⟩
       rcases List.mem_append.mp h1 with z|z
       .exact .inl ⟨m,z,h2⟩
       .rw[List.mem_singleton.mp z]at h2;exact .inr h2
   .have c:(1+(i:Int))∈ms:=by simpa using c
    have hL:least xs (1+i)=false:=by
     cases e:least xs (1+(i:Int))with
     |false=>rfl
     |true=>exact absurd ((mm _).mp c) (ml2.mp e)
    have e2:((cZ 1 (n+1)).take (i+1)).filter (least xs)=((cZ 1 (n+1)).take i).filter (least xs):=by
     rw[ef,List.filter_append,List.filter_cons_of_neg (by rw[hL];decide),List.filter_nil,PD]
    refine⟨lm,ws,ms,_,_,rfl,s3,nfm,hf3,hm3,?_,fr3,nf3,by lia,by lia,?_⟩
    .rw[e2];exact x3
    .rw[e2];exact mm
  .rintro σ H' ⟨lm,ws,ms,v3,v4,rfl,s3,nfm,hf3,hm3,x3,fr3,nf3,wl,ml,mm⟩
   have e3:(cZ 1 (n+1)).take (((xs.map V.int).length:Int)+1-1).toNat=cZ 1 (n+1):=Pw (by rw[aO,Pe];lia);rw[e3]at x3;exact⟨_,rfl,k lf ws H' hlf hf3 x3 fr3 nf3 s3⟩
end
section
variable{P:P0}{w:P4}{K:W.Frag}{mg:Str->Option PX}{base:Qd}
theorem GA:aE ["n"] ["n"] (av (top 21)):=⟨rfl,rfl,rfl,by decide+kernel,rfl,by decide+kernel,by decide+kernel⟩
theorem Fg{f:PY}{fd:Qc}(F:dU K "plain" "plain" (top 21) f fd)(T:T1 mg K):aQ P w K mg base i4 1 f fd ["n"] B2:=by
 refine F.ok GA (fun vs H Q E h=>?_) (fun cdv A outer s H vs Q E hr h=>?_)
 .obtain⟨t,rfl,_⟩:=h
  rfl
 .obtain⟨n,rfl,h0,h1,k⟩:=h
  refine⟨_,(ah (ay (aY (sE rfl) rfl T.gT (by decide+kernel) (aa (aY sY rfl T.cS (by decide+kernel) (aa aj (aa (aG bG (pv 0) aj) ae))) ae)))),?_⟩;refine⟨_,rfl,_,_,rfl,rfl,.inr ⟨_,_,rfl,fun r hr=>⟨r,_,_,rfl,af,by lia,by lia,by lia,by lia,fun t ht=>?_⟩⟩⟩;have ne:t≠r:=by intro z;subst z;rw[af]at ht;cases ht
  rw[ao ne]at ht;exact k t _ ht af fun b o e=>by rw[ao (au e ht),ao (au e hr)];exact e
end
theorem all_mk{l:W.OpenLaw}{w:P4}{K:W.Frag}{h:Qd}{mg:Str->Option PX}{fa:PY}{eW lu gD j9:Tok}{AD AA bq0 bq1 bq2 bq3 bq4 bq5 bq6 bq7 bq8 bq9 bq10 bq11 bq12 bq13 bq14 bq15 bq16 bq17 bq18 bq19 bq20 cR:PY}{tq0 tq1 tq2 tq3 tq4 tq5 tq6 tq7 tq8 tq9 tq10 tq11 tq12 tq13 tq14 tq15 tq16 tq17 tq18 tq19 tq20 tr0_0 tr0_1 tr1_0 tr1_1 tr2_0 tr2_1 tr3_0 tr3_1 tr4_0 tr4_1 tr4_2 tr5_0 tr5_1 tr6_0 tr6_1 tr7_0 tr8_0 tr9_0 tr10_0 tr11_0 tr12_0 tr13_0 tr14_0 tr14_1 tr15_0 tr16_0 tr17_0 tr17_1 tr18_0 tr18_1 tr19_0 tr19_1 ts0 ts1 ts2 ts3 ts4 ts5 ts6 ts7 ts8 ts9 ts10 ts11 tkL:Tok}{epD epA:Nat}{fmI:PY}{odmI anmI:Option PY}{slmI:Array (Option PX)}{ocmI kVmI dcmI pmmI cdmI ctmI:PX}{fmR:PY}{odmR anmR:Option PY}{slmR:Array (Option PX)}{ocmR kVmR dcmR pmmR cdmR ctmR:PX}{fmY:PY}{odmY anmY:Option PY}{slmY:Array (Option PX)}{ocmY kVmY dcmY pmmY cdmY ctmY:PX}(X:K.In h)(G:h.Ns P7 mg)(hfa:mg "law" =some (.ref fa))
  {f0 f1 f2 f3 f4 f5 f6 f7 f8 f9 f10 f11 f12 f13 f14 f15 f16 f17 f18 f19 f20 f21 f22 f23 f24 f25 f26 f27 f28 f29 f30 f31 f32 f33 f34 f35 f36 f37 f38 f39 f40 f41 f42 f43 f44 f45 f46 f47 f48 f49 f50 f51 f52 f53 f54 f55:PY}
  (a0:W.nsIn K P7 "is_whole" =some (some (.ref f0))) (d0:bE K "is_whole" (top 15) f0)
  (a1:W.nsIn K P7 "is_between" =some (some (.ref f1))) (d1:bE K "is_between" (top 16) f1)
  (a2:W.nsIn K P7 "is_exchange" =some (some (.ref f2))) (d2:bE K "is_exchange" (top 30) f2)
  (a3:W.nsIn K P7 "is_row" =some (some (.ref f3))) (d3:bE K "is_row" (top 31) f3)
  (a4:W.nsIn K P7 "plain" =some (some (.ref f4))) (d4:bE K "plain" (top 21) f4)
  (a5:W.nsIn K P7 "round_from" =some (some (.ref f5))) (d5:bE K "round_from" (top 23) f5)
  (a6:W.nsIn K P7 "rounds" =some (some (.ref f6))) (d6:bE K "rounds" (top 24) f6)
  (a7:W.nsIn K P7 "check_rounds" =some (some (.ref f7))) (d7:bE K "check_rounds" (top 26) f7)
  (a8:W.nsIn K P7 "made" =some (some (.ref f8))) (d8:bE K "made" (top 27) f8)
  (a9:W.nsIn K P7 "star" =some (some (.ref f9))) (d9:bE K "star" (top 38) f9)
  (a10:W.nsIn K P7 "home" =some (some (.ref f10))) (d10:bE K "home" (top 39) f10)
  (a11:W.nsIn K P7 "moved" =some (some (.ref f11))) (d11:bE K "moved" (top 64) f11)
  (a12:W.nsIn K P7 "show_things" =some (some (.ref f12))) (d12:bE K "show_things" (top 76) f12)
  (a13:W.nsIn K P7 "show_order" =some (some (.ref f13))) (d13:bE K "show_order" (top 77) f13)
  (a14:W.nsIn K P7 "check_text" =some (some (.ref f14))) (d14:bE K "check_text" (top 80) f14)
  (a15:W.nsIn K P7 "read_number" =some (some (.ref f15))) (d15:bE K "read_number" (top 81) f15)
  (a16:W.nsIn K P7 "read_row" =some (some (.ref f16))) (d16:bE K "read_row" (top 85) f16)
  (a17:W.nsIn K P7 "read_things" =some (some (.ref f17))) (d17:bE K "read_things" (top 82) f17)
  (a18:W.nsIn K P7 "many_things" =some (some (.ref f18))) (d18:bE K "many_things" (top 83) f18)
  (a19:W.nsIn K P7 "read_order" =some (some (.ref f19))) (d19:bE K "read_order" (top 84) f19)
  (a20:W.nsIn K P7 "one_word" =some (some (.ref f20))) (d20:bE K "one_word" (top 94) f20)
  (a21:W.nsIn K P7 "with_commas" =some (some (.ref f21))) (d21:bE K "with_commas" (top 95) f21)
  (a22:W.nsIn K P7 "show_row" =some (some (.ref f22))) (d22:bE K "show_row" (top 78) f22)
  (a23:W.nsIn K P7 "check_name" =some (some (.ref f23))) (d23:bE K "check_name" (top 96) f23)
  (a24:W.nsIn K P7 "read_word" =some (some (.ref f24))) (d24:bE K "read_word" (top 97) f24)
  (a25:W.nsIn K P7 "row_due" =some (some (.ref f25))) (d25:bE K "row_due" (top 98) f25)
  (a26:W.nsIn K P7 "show_order_of" =some (some (.ref f26))) (d26:bE K "show_order_of" (top 99) f26)
  (a27:W.nsIn K P7 "show_kind" =some (some (.ref f27))) (d27:bE K "show_kind" (top 100) f27)
  (a28:W.nsIn K P7 "show_least" =some (some (.ref f28))) (d28:bE K "show_least" (top 101) f28)
  (a29:W.nsIn K P7 "show_parts" =some (some (.ref f29))) (d29:bE K "show_parts" (top 102) f29)
  (a30:W.nsIn K P7 "show_holes" =some (some (.ref f30))) (d30:bE K "show_holes" (top 103) f30)
  (a31:W.nsIn K P7 "show_lead" =some (some (.ref f31))) (d31:bE K "show_lead" (top 104) f31)
  (a32:W.nsIn K P7 "show_tree" =some (some (.ref f32))) (d32:bE K "show_tree" (top 106) f32)
  (a33:W.nsIn K P7 "show_cars" =some (some (.ref f33))) (d33:bE K "show_cars" (top 107) f33)
  (a34:W.nsIn K P7 "show_begun" =some (some (.ref f34))) (d34:bE K "show_begun" (top 108) f34)
  (a35:W.nsIn K P7 "show_count" =some (some (.ref f35))) (d35:bE K "show_count" (top 110) f35)
  (a36:W.nsIn K P7 "show_joined" =some (some (.ref f36))) (d36:bE K "show_joined" (top 111) f36)
  (a37:W.nsIn K P7 "show_kept" =some (some (.ref f37))) (d37:bE K "show_kept" (top 112) f37)
  (a38:W.nsIn K P7 "_law_purse" =some (some (.ref f38))) (d38:bE K "_law_purse" (top 116) f38)
  (a39:W.nsIn K P7 "_law_take" =some (some (.ref f39))) (d39:bE K "_law_take" (top 117) f39)
  (a40:W.nsIn K P7 "_law_row" =some (some (.ref f40))) (d40:bE K "_law_row" (top 118) f40)
  (a41:W.nsIn K P7 "_law_rounds" =some (some (.ref f41))) (d41:bE K "_law_rounds" (top 119) f41)
  (a42:W.nsIn K P7 "_law_order" =some (some (.ref f42))) (d42:bE K "_law_order" (top 120) f42)
  (a43:W.nsIn K P7 "_law_row_word" =some (some (.ref f43))) (d43:bE K "_law_row_word" (top 121) f43)
  (a44:W.nsIn K P7 "_law_order_word" =some (some (.ref f44))) (d44:bE K "_law_order_word" (top 122) f44)
  (a45:W.nsIn K P7 "_law_say" =some (some (.ref f45))) (d45:bE K "_law_say" (top 123) f45)
  (a46:W.nsIn K P7 "_law_is_name" =some (some (.ref f46))) (d46:bE K "_law_is_name" (top 124) f46)
  (a47:W.nsIn K P7 "_law_is_number" =some (some (.ref f47))) (d47:bE K "_law_is_number" (top 125) f47)
  (a48:W.nsIn K P7 "_law_is_row" =some (some (.ref f48))) (d48:bE K "_law_is_row" (top 126) f48)
  (a49:W.nsIn K P7 "_law_is_order" =some (some (.ref f49))) (d49:bE K "_law_is_order" (top 127) f49)
  (a50:W.nsIn K P7 "_law_shapes" =some (some (.ref f50))) (d50:bE K "_law_shapes" (top 128) f50)
  (a51:W.nsIn K P7 "_law_fits" =some (some (.ref f51))) (d51:bE K "_law_fits" (top 129) f51)
  (a52:W.nsIn K P7 "_law_fault" =some (some (.ref f52))) (d52:bE K "_law_fault" (top 130) f52)
  (a53:W.nsIn K P7 "_law_said" =some (some (.ref f53))) (d53:bE K "_law_said" (top 131) f53)
  (a54:W.nsIn K P7 "_law_signed" =some (some (.ref f54))) (d54:bE K "_law_signed" (top 132) f54)
  (a55:W.nsIn K P7 "law" =some (some (.ref f55))) (d55:bE K "law" (top 133) f55)
  (zB:W.nsIn K P7 "len" =some none)
  (zC:W.nsIn K P7 "abs" =some none)
  (zD:W.nsIn K P7 "int" =some none)
  (zE:W.nsIn K P7 "all" =some none)
  (dh:W.nsIn K P7 "isinstance" =some none)
  (tj:W.nsIn K P7 "bool" =some none)
  (oq:W.nsIn K P7 "tuple" =some none)
  (tq:W.nsIn K P7 "list" =some none)
  (ot:W.nsIn K P7 "range" =some none)
  (ou:W.nsIn K P7 "min" =some none)
  (tu:W.nsIn K P7 "max" =some none)
  (zF:W.nsIn K P7 "sum" =some none)
  (iq:W.nsIn K P7 "sorted" =some none)
  (vz:W.nsIn K P7 "zip" =some none)
  (gv:W.nsIn K P7 "enumerate" =some none)
  (lz:W.nsIn K P7 "str" =some none)
  (eX:W.nsIn K P7 "ValueError" =some none)
  {oz dI ra oA jJ jK oB oE mj ju bc bz dW:PY}
  (pM:W.nsIn K P7 "Unlike" =some (some (.ref oz)))
  (lA:W.nsIn K P7 "NoRounds" =some (some (.ref dI)))
  (tw:W.nsIn K P7 "Apart" =some (some (.ref ra)))
  (pN:W.nsIn K P7 "NoMove" =some (some (.ref oA)))
  (lB:W.nsIn K P7 "NotLeast" =some (some (.ref jJ)))
  (lC:W.nsIn K P7 "NotGreat" =some (some (.ref jK)))
  (pO:W.nsIn K P7 "NoTree" =some (some (.ref oB)))
  (pP:W.nsIn K P7 "NoCars" =some (some (.ref oE)))
  (nh:W.nsIn K P7 "NoChain" =some (some (.ref mj)))
  (nj:W.nsIn K P7 "NoBound" =some (some (.ref ju)))
  (pQ:W.nsIn K P7 "NoText" =some (some (.ref bc)))
  (pR:W.nsIn K P7 "NoName" =some (some (.ref bz)))
  (jL:W.nsIn K P7 "StarError" =some (some (.ref dW)))
  (mq:jo K bc)
  (mr:rM K bc)
  (pS:W.kitOne K (.ref bc) (.type "ValueError")=some true)
  (fF:W.kitOne K (.ref bc) (.ref oz)=some false)
  (dJ:W.kitOne K (.ref bc) (.ref dI)=some false)
  (gE:W.kitOne K (.ref bc) (.ref ra)=some false)
  (fG:W.kitOne K (.ref bc) (.ref oA)=some false)
  (dM:W.kitOne K (.ref bc) (.ref jJ)=some false)
  (dN:W.kitOne K (.ref bc) (.ref jK)=some false)
  (fH:W.kitOne K (.ref bc) (.ref oB)=some false)
  (fI:W.kitOne K (.ref bc) (.ref oE)=some false)
  (eY:W.kitOne K (.ref bc) (.ref mj)=some false)
  (e8:W.kitOne K (.ref bc) (.ref ju)=some false)
  (fJ:W.kitOne K (.ref bc) (.ref bc)=some true)
  (fK:ua K bc bc true)
  (fL:W.kitOne K (.ref bc) (.ref bz)=some false)
  (gN:W.kitOne K (.ref bc) (.ref dW)=some true)
  (dt:ua K bc dW true)
  (pT:jo K bz)
  (pU:rM K bz)
  (pV:W.kitOne K (.ref bz) (.type "ValueError")=some true)
  (fM:W.kitOne K (.ref bz) (.ref oz)=some false)
  (dO:W.kitOne K (.ref bz) (.ref dI)=some false)
  (gF:W.kitOne K (.ref bz) (.ref ra)=some false)
  (fN:W.kitOne K (.ref bz) (.ref oA)=some false)
  (dP:W.kitOne K (.ref bz) (.ref jJ)=some false)
  (dQ:W.kitOne K (.ref bz) (.ref jK)=some false)
  (fO:W.kitOne K (.ref bz) (.ref oB)=some false)
  (fP:W.kitOne K (.ref bz) (.ref oE)=some false)
  (fc:W.kitOne K (.ref bz) (.ref mj)=some false)
  (fe:W.kitOne K (.ref bz) (.ref ju)=some false)
  (fQ:W.kitOne K (.ref bz) (.ref bc)=some false)
  (fR:W.kitOne K (.ref bz) (.ref bz)=some true)
  (gO:W.kitOne K (.ref bz) (.ref dW)=some true)
  (du:ua K bz dW true)
  (fg:W.nsIn K P7 "MOST_EXCHANGES" =some (some (.int 60 eW)))
  (iu:W.nsIn K P7 "MOST_THINGS" =some (some (.int 12 lu)))
  (gG:W.nsIn K P7 "MOST_FIGURES" =some (some (.int 9 gD)))
  (gH:W.nsIn K P7 "MOST_LETTERS" =some (some (.int 8 j9)))
  (aDUE:W.nsIn K P7 "DUE" =some (some (.ref AD)))
  (lDUE:K.lookup AD=some {cls:= .type "dict",data:= .dict [{hash:=PyData.keyHash w.params (Pd "row"),key:= .str (Pd "row") tq0,val:= .ref bq0},{hash:=PyData.keyHash w.params (Pd "star"),key:= .str (Pd "star") tq1,val:= .ref bq1},{hash:=PyData.keyHash w.params (Pd "home"),key:= .str (Pd "home") tq2,val:= .ref bq2},{hash:=PyData.keyHash w.params (Pd "copy"),key:= .str (Pd "copy") tq3,val:= .ref bq3},{hash:=PyData.keyHash w.params (Pd "join"),key:= .str (Pd "join") tq4,val:= .ref bq4},{hash:=PyData.keyHash w.params (Pd "forth"),key:= .str (Pd "forth") tq5,val:= .ref bq5},{hash:=PyData.keyHash w.params (Pd "back"),key:= .str (Pd "back") tq6,val:= .ref bq6},{hash:=PyData.keyHash w.params (Pd "drop"),key:= .str (Pd "drop") tq7,val:= .ref bq7},{hash:=PyData.keyHash w.params (Pd "show"),key:= .str (Pd "show") tq8,val:= .ref bq8},{hash:=PyData.keyHash w.params (Pd "order"),key:= .str (Pd "order") tq9,val:= .ref bq9},{hash:=PyData.keyHash w.params (Pd "kind"),key:= .str (Pd "kind") tq10,val:= .ref bq10},{hash:=PyData.keyHash w.params (Pd "least"),key:= .str (Pd "least") tq11,val:= .ref bq11},{hash:=PyData.keyHash w.params (Pd "parts"),key:= .str (Pd "parts") tq12,val:= .ref bq12},{hash:=PyData.keyHash w.params (Pd "holes"),key:= .str (Pd "holes") tq13,val:= .ref bq13},{hash:=PyData.keyHash w.params (Pd "lead"),key:= .str (Pd "lead") tq14,val:= .ref bq14},{hash:=PyData.keyHash w.params (Pd "tree"),key:= .str (Pd "tree") tq15,val:= .ref bq15},{hash:=PyData.keyHash w.params (Pd "cars"),key:= .str (Pd "cars") tq16,val:= .ref bq16},{hash:=PyData.keyHash w.params (Pd "begun"),key:= .str (Pd "begun") tq17,val:= .ref bq17},{hash:=PyData.keyHash w.params (Pd "count"),key:= .str (Pd "count") tq18,val:= .ref bq18},{hash:=PyData.keyHash w.params (Pd "joined"),key:= .str (Pd "joined") tq19,val:= .ref bq19},{hash:=PyData.keyHash w.params (Pd "names"),key:= .str (Pd "names") tq20,val:= .ref bq20}].toArray epD})
  (sDUE:(AD==sysModules)=false)
  (lq0:K.lookup bq0=some {cls:= .type "tuple",data:= .seq [.str (Pd "new") tr0_0,.str (Pd "row") tr0_1].toArray})
  (lq1:K.lookup bq1=some {cls:= .type "tuple",data:= .seq [.str (Pd "new") tr1_0,.str (Pd "order") tr1_1].toArray})
  (lq2:K.lookup bq2=some {cls:= .type "tuple",data:= .seq [.str (Pd "new") tr2_0,.str (Pd "order") tr2_1].toArray})
  (lq3:K.lookup bq3=some {cls:= .type "tuple",data:= .seq [.str (Pd "new") tr3_0,.str (Pd "name") tr3_1].toArray})
  (lq4:K.lookup bq4=some {cls:= .type "tuple",data:= .seq [.str (Pd "new") tr4_0,.str (Pd "name") tr4_1,.str (Pd "name") tr4_2].toArray})
  (lq5:K.lookup bq5=some {cls:= .type "tuple",data:= .seq [.str (Pd "name") tr5_0,.str (Pd "number") tr5_1].toArray})
  (lq6:K.lookup bq6=some {cls:= .type "tuple",data:= .seq [.str (Pd "name") tr6_0,.str (Pd "number") tr6_1].toArray})
  (lq7:K.lookup bq7=some {cls:= .type "tuple",data:= .seq [.str (Pd "name") tr7_0].toArray})
  (lq8:K.lookup bq8=some {cls:= .type "tuple",data:= .seq [.str (Pd "name") tr8_0].toArray})
  (lq9:K.lookup bq9=some {cls:= .type "tuple",data:= .seq [.str (Pd "name") tr9_0].toArray})
  (lq10:K.lookup bq10=some {cls:= .type "tuple",data:= .seq [.str (Pd "name") tr10_0].toArray})
  (lq11:K.lookup bq11=some {cls:= .type "tuple",data:= .seq [.str (Pd "name") tr11_0].toArray})
  (lq12:K.lookup bq12=some {cls:= .type "tuple",data:= .seq [.str (Pd "name") tr12_0].toArray})
  (lq13:K.lookup bq13=some {cls:= .type "tuple",data:= .seq [.str (Pd "name") tr13_0].toArray})
  (lq14:K.lookup bq14=some {cls:= .type "tuple",data:= .seq [.str (Pd "name") tr14_0,.str (Pd "name") tr14_1].toArray})
  (lq15:K.lookup bq15=some {cls:= .type "tuple",data:= .seq [.str (Pd "name") tr15_0].toArray})
  (lq16:K.lookup bq16=some {cls:= .type "tuple",data:= .seq [.str (Pd "name") tr16_0].toArray})
  (lq17:K.lookup bq17=some {cls:= .type "tuple",data:= .seq [.str (Pd "name") tr17_0,.str (Pd "number") tr17_1].toArray})
  (lq18:K.lookup bq18=some {cls:= .type "tuple",data:= .seq [.str (Pd "name") tr18_0,.str (Pd "number") tr18_1].toArray})
  (lq19:K.lookup bq19=some {cls:= .type "tuple",data:= .seq [.str (Pd "name") tr19_0,.str (Pd "number") tr19_1].toArray})
  (lq20:K.lookup bq20=some {cls:= .type "tuple",data:= .seq [].toArray})
  (aANS:W.nsIn K P7 "ANSWERS" =some (some (.ref AA)))
  (lANS:K.lookup AA=some {cls:= .type "dict",data:= .dict [{hash:=PyData.keyHash w.params (Pd "show"),key:= .str (Pd "show") ts0,val:= .ref f37},{hash:=PyData.keyHash w.params (Pd "order"),key:= .str (Pd "order") ts1,val:= .ref f26},{hash:=PyData.keyHash w.params (Pd "kind"),key:= .str (Pd "kind") ts2,val:= .ref f27},{hash:=PyData.keyHash w.params (Pd "least"),key:= .str (Pd "least") ts3,val:= .ref f28},{hash:=PyData.keyHash w.params (Pd "parts"),key:= .str (Pd "parts") ts4,val:= .ref f29},{hash:=PyData.keyHash w.params (Pd "holes"),key:= .str (Pd "holes") ts5,val:= .ref f30},{hash:=PyData.keyHash w.params (Pd "lead"),key:= .str (Pd "lead") ts6,val:= .ref f31},{hash:=PyData.keyHash w.params (Pd "tree"),key:= .str (Pd "tree") ts7,val:= .ref f32},{hash:=PyData.keyHash w.params (Pd "cars"),key:= .str (Pd "cars") ts8,val:= .ref f33},{hash:=PyData.keyHash w.params (Pd "begun"),key:= .str (Pd "begun") ts9,val:= .ref f34},{hash:=PyData.keyHash w.params (Pd "count"),key:= .str (Pd "count") ts10,val:= .ref f35},{hash:=PyData.keyHash w.params (Pd "joined"),key:= .str (Pd "joined") ts11,val:= .ref f36}].toArray epA})
  (sANS:(AA==sysModules)=false)
  (nq:W.nsIn K P7 "LETTERS" =some (some (.str (Pd "abcdefghijklmnopqrstuvwxyz") tkL)))
  (aDesk:W.nsIn K P7 "Desk" =some (some (.ref cR)))
  (cpg:W.plainGet K cR Str.empty=true)
  (chd:W.hasDictIn K cR=true)
  (cpo:W.plainOver K cR=true)
  (csa:W.findIn K (.ref cR) "__setattr__" =some (some (.builtin "object.__setattr__")))
  (cno:W.findIn K (.ref cR) "n" =some none)
  (cnk:W.findIn K (.ref cR) "kept" =some none)
  (cmk:W.makesIn K cR=true)
  (ckp:W.keepIn K (.ref cR)=true)
  (amI:W.findIn K (.ref cR) "__init__" =some (some (.ref fmI)))
  (fnmI:W.isFn K (.ref fmI)=true)
  (kmI:W.keepIn K (.ref fmI)=true)
  (lmI:K.lookup fmI=some ⟨ocmI,odmI,.func (W.fnOf "__init__" "Desk.__init__" (gW (mem (top 114) 0)) (dE (mem (top 114) 0)) (av (mem (top 114) 0)) .none kVmI dcmI pmmI anmI cdmI ctmI),slmI⟩)
  (cmI:W.codeIn K cdmI "Desk.__init__" =true)
  (amR:W.findIn K (.ref cR) "row_of" =some (some (.ref fmR)))
  (fnmR:W.isFn K (.ref fmR)=true)
  (kmR:W.keepIn K (.ref fmR)=true)
  (lmR:K.lookup fmR=some ⟨ocmR,odmR,.func (W.fnOf "row_of" "Desk.row_of" (gW (mem (top 114) 1)) (dE (mem (top 114) 1)) (av (mem (top 114) 1)) .none kVmR dcmR pmmR anmR cdmR ctmR),slmR⟩)
  (cmR:W.codeIn K cdmR "Desk.row_of" =true)
  (amY:W.findIn K (.ref cR) "say" =some (some (.ref fmY)))
  (fnmY:W.isFn K (.ref fmY)=true)
  (kmY:W.keepIn K (.ref fmY)=true)
  (lmY:K.lookup fmY=some ⟨ocmY,odmY,.func (W.fnOf "say" "Desk.say" (gW (mem (top 114) 2)) (dE (mem (top 114) 2)) (av (mem (top 114) 2)) .none kVmY dcmY pmmY anmY cdmY ctmY),slmY⟩)
  (cmY:W.codeIn K cdmY "Desk.say" =true)
  (lD:jo K dI)
  (cY:ua K dI dI true)
  (kpc:W.keepIn K (.ref bc)=true)
  (nu:jo K ju)
  (kib:W.kitOne K (.type "int") (.type "bool")=some false):
  ∃fd:Qc,(∀(s:PZ)(v:PX),BindsTo s fd ⟨[v],[]⟩ [("_law_script",v)])/\∀base:Qd,K.In base->base.Ns P7 mg->aQ l.prog w K mg base i4 33 fa fd ["_law_script"] (Cf K):=by
 obtain⟨_,nv⟩:=d0.fn;have A9:=nv.binds (ps:=["thing"]) fun _ _ _ _ _ _ us hl=>match us,hl with|[_],_=>rfl
 have Ba:=W.mg_of X G a0;obtain⟨_,fh⟩:=d1.fn;have oF:=fh.binds (ps:=["thing","low","high"]) fun _ _ _ _ _ _ us hl=>match us,hl with|[_,_,_],_=>rfl
 have oG:=W.mg_of X G a1;obtain⟨_,iR⟩:=d2.fn;have ud:=iR.binds (ps:=["n","thing"]) fun _ _ _ _ _ _ us hl=>match us,hl with|[_,_],_=>rfl
 have ue:=W.mg_of X G a2;obtain⟨_,tE⟩:=d3.fn;have GC:=tE.binds (ps:=["n","thing"]) fun _ _ _ _ _ _ us hl=>match us,hl with|[_,_],_=>rfl
 have GD:=W.mg_of X G a3;obtain⟨_,xk⟩:=d4.fn;have IC:=xk.binds (ps:=["n"]) fun _ _ _ _ _ _ us hl=>match us,hl with|[_],_=>rfl
 have ID:=W.mg_of X G a4;obtain⟨_,jM⟩:=d5.fn;have xm:=jM.binds (ps:=["order","first"]) fun _ _ _ _ _ _ us hl=>match us,hl with|[_,_],_=>rfl
 have xn:=W.mg_of X G a5;obtain⟨_,tF⟩:=d6.fn;have GF:=tF.binds (ps:=["order"]) fun _ _ _ _ _ _ us hl=>match us,hl with|[_],_=>rfl
 have GG:=W.mg_of X G a6;obtain⟨_,iw⟩:=d7.fn;have tG:=iw.binds (ps:=["n","lists"]) fun _ _ _ _ _ _ us hl=>match us,hl with|[_,_],_=>rfl
 have tH:=W.mg_of X G a7;obtain⟨_,Bb⟩:=d8.fn;have Ln:=Bb.binds (ps:=["n","lists"]) fun _ _ _ _ _ _ us hl=>match us,hl with|[_,_],_=>rfl
 have Lo:=W.mg_of X G a8;obtain⟨_,Bc⟩:=d9.fn;have Lp:=Bc.binds (ps:=["order"]) fun _ _ _ _ _ _ us hl=>match us,hl with|[_],_=>rfl
 have Lq:=W.mg_of X G a9;obtain⟨_,Bd⟩:=d10.fn;have Lr:=Bd.binds (ps:=["order"]) fun _ _ _ _ _ _ us hl=>match us,hl with|[_],_=>rfl
 have Lu:=W.mg_of X G a10;obtain⟨_,xo⟩:=d11.fn;have IE:=xo.binds (ps:=["row","k","way"]) fun _ _ _ _ _ _ us hl=>match us,hl with|[_,_,_],_=>rfl
 have IF:=W.mg_of X G a11;obtain⟨_,iS⟩:=d12.fn;have uf:=iS.binds (ps:=["things"]) fun _ _ _ _ _ _ us hl=>match us,hl with|[_],_=>rfl
 have ug:=W.mg_of X G a12;obtain⟨_,jN⟩:=d13.fn;have xp:=jN.binds (ps:=["order"]) fun _ _ _ _ _ _ us hl=>match us,hl with|[_],_=>rfl
 have xq:=W.mg_of X G a13;obtain⟨_,cJ⟩:=d14.fn;have jO:=cJ.binds (ps:=["thing"]) fun _ _ _ _ _ _ us hl=>match us,hl with|[_],_=>rfl
 have jP:=W.mg_of X G a14;obtain⟨_,bP⟩:=d15.fn;have fZ:=bP.binds (ps:=["word"]) fun _ _ _ _ _ _ us hl=>match us,hl with|[_],_=>rfl
 have gc:=W.mg_of X G a15;obtain⟨_,jQ⟩:=d16.fn;have Be:=jQ.binds (ps:=["n","text"]) fun _ _ _ _ _ _ us hl=>match us,hl with|[_,_],_=>rfl
 have Bf:=W.mg_of X G a16;obtain⟨_,iT⟩:=d17.fn;have uh:=iT.binds (ps:=["text"]) fun _ _ _ _ _ _ us hl=>match us,hl with|[_],_=>rfl
 have uk:=W.mg_of X G a17;obtain⟨_,iU⟩:=d18.fn;have um:=iU.binds (ps:=["lists"]) fun _ _ _ _ _ _ us hl=>match us,hl with|[_],_=>rfl
 have uo:=W.mg_of X G a18;obtain⟨_,jR⟩:=d19.fn;have xr:=jR.binds (ps:=["text"]) fun _ _ _ _ _ _ us hl=>match us,hl with|[_],_=>rfl
 have xt:=W.mg_of X G a19;obtain⟨_,nA⟩:=d20.fn;have Bg:=nA.binds (ps:=["text"]) fun _ _ _ _ _ _ us hl=>match us,hl with|[_],_=>rfl
 have Bh:=W.mg_of X G a20;obtain⟨_,iV⟩:=d21.fn;have uq:=iV.binds (ps:=["words"]) fun _ _ _ _ _ _ us hl=>match us,hl with|[_],_=>rfl
 have ur:=W.mg_of X G a21;obtain⟨_,nB⟩:=d22.fn;have Bi:=nB.binds (ps:=["row"]) fun _ _ _ _ _ _ us hl=>match us,hl with|[_],_=>rfl
 have Bj:=W.mg_of X G a22;obtain⟨_,jS⟩:=d23.fn;have xu:=jS.binds (ps:=["word"]) fun _ _ _ _ _ _ us hl=>match us,hl with|[_],_=>rfl
 have xv:=W.mg_of X G a23;obtain⟨_,lE⟩:=d24.fn;have zG:=lE.binds (ps:=["n","due","word"]) fun _ _ _ _ _ _ us hl=>match us,hl with|[_,_,_],_=>rfl
 have zH:=W.mg_of X G a24;obtain⟨_,pW⟩:=d25.fn;have DP:=pW.binds (ps:=["word","given"]) fun _ _ _ _ _ _ us hl=>match us,hl with|[_,_],_=>rfl
 have DQ:=W.mg_of X G a25;obtain⟨_,gI⟩:=d26.fn;have qA:=gI.binds (ps:=["n","given"]) fun _ _ _ _ _ _ us hl=>match us,hl with|[_,_],_=>rfl
 have D3:=W.mg_of X G a26;obtain⟨_,lF⟩:=d27.fn;have zI:=lF.binds (ps:=["n","given"]) fun _ _ _ _ _ _ us hl=>match us,hl with|[_,_],_=>rfl
 have JH:=W.mg_of X G a27;obtain⟨_,jT⟩:=d28.fn;have xx:=jT.binds (ps:=["n","given"]) fun _ _ _ _ _ _ us hl=>match us,hl with|[_,_],_=>rfl
 have IG:=W.mg_of X G a28;obtain⟨_,jU⟩:=d29.fn;have xy:=jU.binds (ps:=["n","given"]) fun _ _ _ _ _ _ us hl=>match us,hl with|[_,_],_=>rfl
 have IH:=W.mg_of X G a29;obtain⟨_,jV⟩:=d30.fn;have xA:=jV.binds (ps:=["n","given"]) fun _ _ _ _ _ _ us hl=>match us,hl with|[_,_],_=>rfl
 have II:=W.mg_of X G a30;obtain⟨_,lG⟩:=d31.fn;have zJ:=lG.binds (ps:=["n","given"]) fun _ _ _ _ _ _ us hl=>match us,hl with|[_,_],_=>rfl
 have JI:=W.mg_of X G a31;obtain⟨_,lH⟩:=d32.fn;have zK:=lH.binds (ps:=["n","given"]) fun _ _ _ _ _ _ us hl=>match us,hl with|[_,_],_=>rfl
 have JJ:=W.mg_of X G a32;obtain⟨_,lI⟩:=d33.fn;have zL:=lI.binds (ps:=["n","given"]) fun _ _ _ _ _ _ us hl=>match us,hl with|[_,_],_=>rfl
 have JK:=W.mg_of X G a33;obtain⟨_,jW⟩:=d34.fn;have xB:=jW.binds (ps:=["n","given"]) fun _ _ _ _ _ _ us hl=>match us,hl with|[_,_],_=>rfl
 have IJ:=W.mg_of X G a34;obtain⟨_,jX⟩:=d35.fn;have xC:=jX.binds (ps:=["n","given"]) fun _ _ _ _ _ _ us hl=>match us,hl with|[_,_],_=>rfl
 have IK:=W.mg_of X G a35;obtain⟨_,iW⟩:=d36.fn;have uu:=iW.binds (ps:=["n","given"]) fun _ _ _ _ _ _ us hl=>match us,hl with|[_,_],_=>rfl
 have GL:=W.mg_of X G a36;obtain⟨_,lJ⟩:=d37.fn;have zM:=lJ.binds (ps:=["n","given"]) fun _ _ _ _ _ _ us hl=>match us,hl with|[_,_],_=>rfl
 have JL:=W.mg_of X G a37;obtain⟨_,jY⟩:=d38.fn;have xD:=jY.binds (ps:=["_law_script","_law_at"]) fun _ _ _ _ _ _ us hl=>match us,hl with|[_,_],_=>rfl
 have xE:=W.mg_of X G a38;obtain⟨_,lK⟩:=d39.fn;have zN:=lK.binds (ps:=["_law_purse_here","_law_many"]) fun _ _ _ _ _ _ us hl=>match us,hl with|[_,_],_=>rfl
 have zO:=W.mg_of X G a39;obtain⟨_,nD⟩:=d40.fn;have Bk:=nD.binds (ps:=["_law_purse_here","_law_n","_law_most"]) fun _ _ _ _ _ _ us hl=>match us,hl with|[_,_,_],_=>rfl
 have Bl:=W.mg_of X G a40;obtain⟨_,iX⟩:=d41.fn;have uv:=iX.binds (ps:=["_law_order_here"]) fun _ _ _ _ _ _ us hl=>match us,hl with|[_],_=>rfl
 have uw:=W.mg_of X G a41;obtain⟨_,jZ⟩:=d42.fn;have xF:=jZ.binds (ps:=["_law_purse_here","_law_n"]) fun _ _ _ _ _ _ us hl=>match us,hl with|[_,_],_=>rfl
 have xG:=W.mg_of X G a42;obtain⟨_,gJ⟩:=d43.fn;have qB:=gJ.binds (ps:=["_law_row_here"]) fun _ _ _ _ _ _ us hl=>match us,hl with|[_],_=>rfl
 have qC:=W.mg_of X G a43;obtain⟨_,fj⟩:=d44.fn;have oH:=fj.binds (ps:=["_law_order_here"]) fun _ _ _ _ _ _ us hl=>match us,hl with|[_],_=>rfl
 have oI:=W.mg_of X G a44;obtain⟨_,nE⟩:=d45.fn;have Bm:=nE.binds (ps:=["_law_desk","_law_row_here"]) fun _ _ _ _ _ _ us hl=>match us,hl with|[_,_],_=>rfl
 have Bn:=W.mg_of X G a45;obtain⟨_,iy⟩:=d46.fn;have tJ:=iy.binds (ps:=["_law_word"]) fun _ _ _ _ _ _ us hl=>match us,hl with|[_],_=>rfl
 have tK:=W.mg_of X G a46;obtain⟨_,fS⟩:=d47.fn;have pX:=fS.binds (ps:=["_law_word"]) fun _ _ _ _ _ _ us hl=>match us,hl with|[_],_=>rfl
 have pY:=W.mg_of X G a47;obtain⟨_,iY⟩:=d48.fn;have ux:=iY.binds (ps:=["_law_n","_law_word"]) fun _ _ _ _ _ _ us hl=>match us,hl with|[_,_],_=>rfl
 have uy:=W.mg_of X G a48;obtain⟨_,gK⟩:=d49.fn;have qD:=gK.binds (ps:=["_law_n","_law_word"]) fun _ _ _ _ _ _ us hl=>match us,hl with|[_,_],_=>rfl
 have qF:=W.mg_of X G a49;obtain⟨_,iZ⟩:=d50.fn;have uz:=iZ.binds (ps:=[]) fun _ _ _ _ _ _ us hl=>match us,hl with|[],_=>rfl
 have uA:=W.mg_of X G a50;obtain⟨_,lL⟩:=d51.fn;have zP:=lL.binds (ps:=["_law_n","_law_sign","_law_word"]) fun _ _ _ _ _ _ us hl=>match us,hl with|[_,_,_],_=>rfl
 have zQ:=W.mg_of X G a51;obtain⟨_,j0⟩:=d52.fn;have xH:=j0.binds (ps:=["_law_n","_law_kept","_law_row_here"]) fun _ _ _ _ _ _ us hl=>match us,hl with|[_,_,_],_=>rfl
 have xI:=W.mg_of X G a52;obtain⟨_,lM⟩:=d53.fn;have zR:=lM.binds (ps:=["_law_purse_here","_law_n","_law_row_here"]) fun _ _ _ _ _ _ us hl=>match us,hl with|[_,_,_],_=>rfl
 have zS:=W.mg_of X G a53;obtain⟨_,i3⟩:=d54.fn;have uB:=i3.binds (ps:=["_law_purse_here","_law_text"]) fun _ _ _ _ _ _ us hl=>match us,hl with|[_,_],_=>rfl
 have uC:=W.mg_of X G a54;obtain⟨fd_law,JM⟩:=d55.fn;have Nh:=W.mg_of X G a55;have zB:=W.mg_none_of X G zB;have zC:=W.mg_none_of X G zC;have zD:=W.mg_none_of X G zD;have zE:=W.mg_none_of X G zE;have dh:=W.mg_none_of X G dh;have tj:=W.mg_none_of X G tj;have oq:=W.mg_none_of X G oq;have tq:=W.mg_none_of X G tq;have ot:=W.mg_none_of X G ot;have ou:=W.mg_none_of X G ou;have tu:=W.mg_none_of X G tu;have zF:=W.mg_none_of X G zF;have iq:=W.mg_none_of X G iq;have vz:=W.mg_none_of X G vz;have gv:=W.mg_none_of X G gv;have lz:=W.mg_none_of X G lz;have eX:=W.mg_none_of X G eX;have DR:=W.mg_of X G pM;have zT:=W.mg_of X G lA;have GH:=W.mg_of X G tw;have DS:=W.mg_of X G pN;have zU:=W.mg_of X G lB;have zV:=W.mg_of X G lC;have DU:=W.mg_of X G pO;have DV:=W.mg_of X G pP;have Bo:=W.mg_of X G nh;have Bp:=W.mg_of X G nj;have DW:=W.mg_of X G pQ;have DX:=W.mg_of X G pR;have xJ:=W.mg_of X G jL;have iL:=W.mg_of X G fg;have tL:=W.mg_of X G iu;have qG:=W.mg_of X G gG;have qH:=W.mg_of X G gH;have e:=hfa.symm.trans Nh;cases e;obtain⟨_,_,kV,dc,pm,an,cd,ct,_,rfl,_,_⟩:=id JM.ex;refine⟨W.fnOf "law" "law" (gW (top 133)) (dE (top 133)) (av (top 133)) .none kV dc pm an cd ct,fun s v=> .of_eq rfl,fun base _ _=>?_⟩;have t0:AI mg:=⟨zB,zC,zD⟩;have t1:T1 mg K:={t0 with B0:=zE,aH:=dh,Ep:=tj,gT:=oq,wY:=tq,cS:=ot,Ol:=kib};have Ni:=W.mg_of X G aDUE;have Nj:=W.mg_of X G aANS;have DY:=W.mg_of X G nq;have Lv:=W.mg_of X G aDesk;have kd:KTab K w.params AD [((Pd "row"),bq0),((Pd "star"),bq1),((Pd "home"),bq2),((Pd "copy"),bq3),((Pd "join"),bq4),((Pd "forth"),bq5),((Pd "back"),bq6),((Pd "drop"),bq7),((Pd "show"),bq8),((Pd "order"),bq9),((Pd "kind"),bq10),((Pd "least"),bq11),((Pd "parts"),bq12),((Pd "holes"),bq13),((Pd "lead"),bq14),((Pd "tree"),bq15),((Pd "cars"),bq16),((Pd "begun"),bq17),((Pd "count"),bq18),((Pd "joined"),bq19),((Pd "names"),bq20)]:=⟨sDUE,by show List.Nodup [(Pd "row"),(Pd "star"),(Pd "home"),(Pd "copy"),(Pd "join"),(Pd "forth"),(Pd "back"),(Pd "drop"),(Pd "show"),(Pd "order"),(Pd "kind"),(Pd "least"),(Pd "parts"),(Pd "holes"),(Pd "lead"),(Pd "tree"),(Pd "cars"),(Pd "begun"),(Pd "count"),(Pd "joined"),(Pd "names")];decide+kernel,_,_,lDUE,(.cons (.cons (.cons (.cons (.cons (.cons (.cons (.cons (.cons (.cons (.cons (.cons (.cons (.cons (.cons (.cons (.cons (.cons (.cons (.cons (.cons .nil)))))))))))))))))))))⟩;have ka:KTab K w.params AA [((Pd "show"),f37),((Pd "order"),f26),((Pd "kind"),f27),((Pd "least"),f28),((Pd "parts"),f29),((Pd "holes"),f30),((Pd "lead"),f31),((Pd "tree"),f32),((Pd "cars"),f33),((Pd "begun"),f34),((Pd "count"),f35),((Pd "joined"),f36)]:=⟨sANS,by show List.Nodup [(Pd "show"),(Pd "order"),(Pd "kind"),(Pd "least"),(Pd "parts"),(Pd "holes"),(Pd "lead"),(Pd "tree"),(Pd "cars"),(Pd "begun"),(Pd "count"),(Pd "joined")];decide+kernel,_,_,lANS,(.cons (.cons (.cons (.cons (.cons (.cons (.cons (.cons (.cons (.cons (.cons (.cons .nil))))))))))))⟩;have tupk:Paired (Lm K) CJ [((Pd "row"),bq0),((Pd "star"),bq1),((Pd "home"),bq2),((Pd "copy"),bq3),((Pd "join"),bq4),((Pd "forth"),bq5),((Pd "back"),bq6),((Pd "drop"),bq7),((Pd "show"),bq8),((Pd "order"),bq9),((Pd "kind"),bq10),((Pd "least"),bq11),((Pd "parts"),bq12),((Pd "holes"),bq13),((Pd "lead"),bq14),((Pd "tree"),bq15),((Pd "cars"),bq16),((Pd "begun"),bq17),((Pd "count"),bq18),((Pd "joined"),bq19),((Pd "names"),bq20)]:=(.cons ⟨rfl,by decide,_,_,_,lq0,rfl,rfl,(by show 2<=P6;decide),(.cons ⟨_,rfl⟩ (.cons ⟨_,rfl⟩ .nil))⟩ (.cons ⟨rfl,by decide,_,_,_,lq1,rfl,rfl,(by show 2<=P6;decide),(.cons ⟨_,rfl⟩ (.cons ⟨_,rfl⟩ .nil))⟩ (.cons ⟨rfl,by decide,_,_,_,lq2,rfl,rfl,(by show 2<=P6;decide),(.cons ⟨_,rfl⟩ (.cons ⟨_,rfl⟩ .nil))⟩ (.cons ⟨rfl,by decide,_,_,_,lq3,rfl,rfl,(by show 2<=P6;decide),(.cons ⟨_,rfl⟩ (.cons ⟨_,rfl⟩ .nil))⟩ (.cons ⟨rfl,by decide,_,_,_,lq4,rfl,rfl,(by show 3<=P6;decide),(.cons ⟨_,rfl⟩ (.cons ⟨_,rfl⟩ (.cons ⟨_,rfl⟩ .nil)))⟩ (.cons ⟨rfl,by decide,_,_,_,lq5,rfl,rfl,(by show 2<=P6;decide),(.cons ⟨_,rfl⟩ (.cons ⟨_,rfl⟩ .nil))⟩ (.cons ⟨rfl,by decide,_,_,_,lq6,rfl,rfl,(by show 2<=P6;decide),(.cons ⟨_,rfl⟩ (.cons ⟨_,rfl⟩ .nil))⟩ (.cons ⟨rfl,by decide,_,_,_,lq7,rfl,rfl,(by show 1<=P6;decide),(.cons ⟨_,rfl⟩ .nil)⟩ (.cons ⟨rfl,by decide,_,_,_,lq8,rfl,rfl,(by show 1<=P6;decide),(.cons ⟨_,rfl⟩ .nil)⟩ (.cons ⟨rfl,by decide,_,_,_,lq9,rfl,rfl,(by show 1<=P6;decide),(.cons ⟨_,rfl⟩ .nil)⟩ (.cons ⟨rfl,by decide,_,_,_,lq10,rfl,rfl,(by show 1<=P6;decide),(.cons ⟨_,rfl⟩ .nil)⟩ (.cons ⟨rfl,by decide,_,_,_,lq11,rfl,rfl,(by show 1<=P6;decide),(.cons ⟨_,rfl⟩ .nil)⟩ (.cons ⟨rfl,by decide,_,_,_,lq12,rfl,rfl,(by show 1<=P6;decide),(.cons ⟨_,rfl⟩ .nil)⟩ (.cons ⟨rfl,by decide,_,_,_,lq13,rfl,rfl,(by show 1<=P6;decide),(.cons ⟨_,rfl⟩ .nil)⟩ (.cons ⟨rfl,by decide,_,_,_,lq14,rfl,rfl,(by show 2<=P6;decide),(.cons ⟨_,rfl⟩ (.cons ⟨_,rfl⟩ .nil))⟩ (.cons ⟨rfl,by decide,_,_,_,lq15,rfl,rfl,(by show 1<=P6;decide),(.cons ⟨_,rfl⟩ .nil)⟩ (.cons ⟨rfl,by decide,_,_,_,lq16,rfl,rfl,(by show 1<=P6;decide),(.cons ⟨_,rfl⟩ .nil)⟩ (.cons ⟨rfl,by decide,_,_,_,lq17,rfl,rfl,(by show 2<=P6;decide),(.cons ⟨_,rfl⟩ (.cons ⟨_,rfl⟩ .nil))⟩ (.cons ⟨rfl,by decide,_,_,_,lq18,rfl,rfl,(by show 2<=P6;decide),(.cons ⟨_,rfl⟩ (.cons ⟨_,rfl⟩ .nil))⟩ (.cons ⟨rfl,by decide,_,_,_,lq19,rfl,rfl,(by show 2<=P6;decide),(.cons ⟨_,rfl⟩ (.cons ⟨_,rfl⟩ .nil))⟩ (.cons ⟨rfl,by decide,_,_,_,lq20,rfl,rfl,(by show 0<=P6;decide),.nil⟩ .nil)))))))))))))))))))));have cls:CH K cR:=⟨cpg,chd,cpo,csa⟩;have tdk:By K cR:=⟨cls,cno,cnk⟩;have FMI:=vU (st:=(mem (top 114) 0)) lmI cmI kmI;have bmI:=FMI.binds (ps:=["self","n"]) fun _ _ _ _ _ _ us hl=>match us,hl with|[_,_],_=>rfl
 have FMR:=vU (st:=(mem (top 114) 1)) lmR cmR kmR;have bmR:=FMR.binds (ps:=["self","name"]) fun _ _ _ _ _ _ us hl=>match us,hl with|[_,_],_=>rfl
 have FMY:=vU (st:=(mem (top 114) 2)) lmY cmY kmY;have bmY:=FMY.binds (ps:=["self","row"]) fun _ _ _ _ _ _ us hl=>match us,hl with|[_,_],_=>rfl
 have cl:∃c:vL,c=⟨oz,dI,ra,oA,jJ,jK,oB,oE,mj,ju,bc,bz,dW⟩:=⟨_,rfl⟩;obtain⟨cl,ecl⟩:=cl;have tcl:Ox mg cl:=by subst ecl;exact⟨DR,zT,GH,DS,zU,zV,DU,DV,Bo,Bp,DW,DX,xJ,dh,eX⟩
 have al10:pL K cl cl.cN 10:=by subst ecl;exact⟨mr,dt,pS,⟨_,_,_,_,_,_,_,_,_,_,_,_,fF,dJ,gE,fG,dM,dN,fH,fI,eY,e8,fJ,fL,by decide⟩,by decide⟩
 have al11:pL K cl cl.gw 11:=by subst ecl;exact⟨pU,du,pV,⟨_,_,_,_,_,_,_,_,_,_,_,_,fM,dO,gF,fN,dP,dQ,fO,fP,fc,fe,fQ,fR,by decide⟩,by decide⟩
 have xcT:jo K cl.cN:=by subst ecl;exact mq
 have xcR:GQ K cl.cN:=by subst ecl;exact⟨mq,mr,fK.ty,kpc⟩
 have xcN:jo K cl.gw:=by subst ecl;exact pT
 have xcB:jo K cl.gP:=by subst ecl;exact nu
 have xcO:jo K cl.gf:=by subst ecl;exact lD
 have emO:ua K cl.gf cl.gf true:=by subst ecl;exact cY
 have hLr:(HR cl).GX=dn:=rfl;have hLd:(HR cl).IS=AL (fun w=>decide (w=Pd "row")) cl.gP cl.kW:=rfl;have hLa:(HR cl).ans=tO:=rfl;have ftake:FnAt l.prog w K mg base "_law_take" 1 ["_law_purse_here","_law_many"] mV:=⟨⟨_,_,HS lK,zO,lK.kp,zN⟩⟩;have td:TD l.prog w K mg base:={t1 with sQ:=⟨⟨_,_,K5 nv t1,Ba,nv.kp,A9⟩⟩};have td2:Ou l.prog w K mg base:={t1 with eV:=⟨⟨_,_,Gm fh td,oG,fh.kp,oF⟩⟩};have td3:OC l.prog w K mg base (.int 60 eW):={t1 with cx:=iL,cu:=⟨_,rfl⟩,mP:=⟨⟨_,_,GZ iR td2,ue,iR.kp,ud⟩⟩};have fbi:FnAt l.prog w K mg base "is_between" 2 ["thing","low","high"] MU:=⟨⟨_,_,aQ.imp (Gm fh td) (fun _ H _ _ z=>by obtain⟨x,lo,hi,e,q⟩:=z;exact⟨.int x,fun _=>True,.int x,lo,hi,e,.int x,q⟩),oG,fh.kp,oF⟩⟩;have trw:Ov l.prog w K mg base:={t1 with az:=ftake,ic:=ou,qe:=tu};have ttx:Lw mg K (.int 9 gD):={t1 with di:=lz,ig:=qG,ie:=⟨_,rfl⟩};have ttn:Ej mg K (.int 9 gD) cl.cN:={ttx with aK:=tcl.aK,bp:=xcT};have fir:FnAt l.prog w K mg base "is_row" 6 ["n","thing"] qU:=⟨⟨_,_,Ge tE td3,GD,tE.kp,GC⟩⟩;have trr:Oy l.prog w K mg base:={t1 with
  bY:=⟨⟨_,_,BQ cJ ttx,jP,cJ.kp,jO⟩⟩
  bu:=⟨⟨_,_,Gj bP ttx,gc,bP.kp,fZ⟩⟩
  kG:=fir}
 have trn:MP l.prog w K mg base cl.cN:={t1 with
  bY:=⟨⟨_,_,Ci cJ ttn,jP,cJ.kp,jO⟩⟩
  bu:=⟨⟨_,_,xi bP ttn,gc,bP.kp,fZ⟩⟩
  kG:=fir
  aK:=tcl.aK
  bp:=xcT}
 have tck:M0 mg K (.int 8 j9) (.str (Pd "abcdefghijklmnopqrstuvwxyz") tkL) cl.cN:={t1 with
  kJ:=qH
  kM:=⟨_,rfl⟩
  uE:=DY
  vk:=⟨_,rfl⟩
  aK:=tcl.aK
  bp:=xcT}
 have tcx:OD l.prog w K mg base cl.gf:={t1 with eV:=fbi,bT:=tcl.bT,jF:=xcO};have tmx:OI l.prog w K mg base cl.gf:={t1 with qf:=gv,BE:=⟨⟨_,_,Fg xk t1,ID,xk.kp,IC⟩⟩,kO:=⟨⟨_,_,Dz iw tcx,tH,iw.kp,tG⟩⟩};have tr0:OG l.prog w K mg base:={t1 with ic:=ou,nX:=⟨⟨_,_,Mo jM,xn,jM.kp,xm⟩⟩};have frd:FnAt l.prog w K mg base "rounds" 3 ["order"] jh:=⟨⟨_,_,DJ tF tr0,GG,tF.kp,GF⟩⟩;have tso:OE l.prog w K mg base:={t1 with di:=lz,mG:=⟨⟨_,_,DH iS ttx,ug,iS.kp,uf⟩⟩,ya:=frd};have trt:Md l.prog w K mg base cl.cN:={t1 with bu:=⟨⟨_,_,xi bP ttn,gc,bP.kp,fZ⟩⟩};have tma:LK mg K (.int 12 lu) cl.cN:={t1 with JD:=zF,mB:=tL,mC:=⟨_,rfl⟩,aK:=tcl.aK,bp:=xcT};have tro:MO l.prog w K mg base cl.cN cl.gf:={t1 with
  bY:=⟨⟨_,_,Ci cJ ttn,jP,cJ.kp,jO⟩⟩
  mH:=⟨⟨_,_,AZ iT trt,uk,iT.kp,uh⟩⟩
  mK:=⟨⟨_,_,E7 iU tma,uo,iU.kp,um⟩⟩
  Fo:=⟨⟨_,_,Fv Bb tmx,Lo,Bb.kp,Ln⟩⟩
  nS:=⟨⟨_,_,AN jN tso,xq,jN.kp,xp⟩⟩
  aK:=tcl.aK
  bp:=xcT
  zf:=xcR
  bT:=tcl.bT
  em:=emO}
 have trwd:Ng l.prog w K mg base (HR cl):={t1 with
  bu:=⟨⟨_,_,aQ.imp (xi bP ttn) fun _ _ _ _ h=>h.2,gc,bP.kp,fZ⟩⟩
  rE:=⟨⟨_,_,aQ.imp ((An jQ trr).lift.or (za jQ trn)) fun _ _ _ _ h=>h.2,Bf,jQ.kp,Be⟩⟩
  nJ:=⟨⟨_,_,aQ.imp (xW jR tro) fun _ _ _ _ h=>h.2,xt,jR.kp,xr⟩⟩
  nU:=⟨⟨_,_,Kg jS tck,xv,jS.kp,xu⟩⟩
  aK:=tcl.aK
  bp:=xcT}
 have trd:OF l.prog w K mg base (fun w=>decide (w=Pd "row")) (.int 60 eW) cl.gP cl.kW:={t1 with
  F7:=⟨⟨_,_,Hn Bc fun _ _ _ _ h=>absurd h.1 (by decide+kernel),Lq,Bc.kp,Lp⟩⟩
  E5:=⟨⟨_,_,Hn Bd fun _ _ _ _ h=>absurd h.1 (by decide+kernel),Lu,Bd.kp,Lr⟩⟩
  Ca:=⟨⟨_,_,Hn xo fun _ _ _ _ h=>by obtain⟨⟨f,hf⟩,_⟩:=h;cases f<;>revert hf<;>decide+kernel,IF,xo.kp,IE⟩⟩
  cx:=iL
  cu:=⟨_,rfl⟩
  jf:=tcl.jf
  vc:=xcB}
 have tshk:LY l.prog w K mg base:={t1 with sr:=⟨⟨_,_,MS nA,Bh,nA.kp,Bg⟩⟩,sX:=⟨⟨_,_,Am nB ttx,Bj,nB.kp,Bi⟩⟩};have noA:∀{word:Str},word≠Pd "show"->∀vs H Q E,yk (HR cl) word vs H Q E->False:=fun{word} hw vs H Q E h=>Ht hLa hw h;have tsay:LI l.prog w K mg base cR AD AA _ _ (HR cl):={t1,tdk with
  sN:=vz
  gh:=iq
  aK:=tcl.aK
  bp:=xcT
  BK:=Ni
  BI:=rfl
  BX:=kd
  pI:=Nj
  oS:=rfl
  pG:=ka
  tabs:=DK tupk rfl
  mE:=⟨cls,_,_,⟨amR,fnmR,kmR⟩,Fc FMR {tdk with kS:=tcl.kS,zt:=xcN},bmR⟩
  qm:=⟨⟨_,_,Mx lE hLr trwd,zH,lE.kp,zG⟩⟩
  uM:=⟨⟨_,_,K1 pW hLd trd,DQ,pW.kp,DP⟩⟩
  my:=⟨⟨_,_,LU iV t1,ur,iV.kp,uq⟩⟩
  Jg:=fun f sp h=>by
   obtain⟨word,e,rfl⟩:=h;have mm:=u5 e;simp only[Po,PB,or_false,Prod.mk.injEq]at mm;rcases mm with⟨rfl,rfl⟩|⟨rfl,rfl⟩|⟨rfl,rfl⟩|⟨rfl,rfl⟩|⟨rfl,rfl⟩|⟨rfl,rfl⟩|⟨rfl,rfl⟩|⟨rfl,rfl⟩|⟨rfl,rfl⟩|⟨rfl,rfl⟩|⟨rfl,rfl⟩|⟨rfl,rfl⟩
   .exact vq (Kl lJ hLa tshk) (by decide) lJ.kp zM
   .exact rP (ps:=["n","given"]) gI gI.kp qA (noA (by decide+kernel))
   .exact rP (ps:=["n","given"]) lF lF.kp zI (noA (by decide+kernel))
   .exact rP (ps:=["n","given"]) jT jT.kp xx (noA (by decide+kernel))
   .exact rP (ps:=["n","given"]) jU jU.kp xy (noA (by decide+kernel))
   .exact rP (ps:=["n","given"]) jV jV.kp xA (noA (by decide+kernel))
   .exact rP (ps:=["n","given"]) lG lG.kp zJ (noA (by decide+kernel))
   .exact rP (ps:=["n","given"]) lH lH.kp zK (noA (by decide+kernel))
   .exact rP (ps:=["n","given"]) lI lI.kp zL (noA (by decide+kernel))
   .exact rP (ps:=["n","given"]) jW jW.kp xB (noA (by decide+kernel))
   .exact rP (ps:=["n","given"]) jX jX.kp xC (noA (by decide+kernel))
   .exact rP (ps:=["n","given"]) iW iW.kp uu (noA (by decide+kernel))}
 have tls:Jh l.prog w K mg base cl cR (HR cl):={t1,tcl with
  sM:=⟨cls,_,_,⟨amY,fnmY,kmY⟩,Kk FMY tsay,bmY⟩}
 have fsay:FnAt l.prog w K mg base "_law_say" 31 ["_law_desk","_law_row_here"] (A7 K cl cR (HR cl)):=⟨⟨_,_,GU nE tls,Bn,nE.kp,Bm⟩⟩;have fro:FnAt l.prog w K mg base "_law_rounds" 1 ["_law_order_here"] jh:=⟨⟨_,_,Az iX t1,uw,iX.kp,uv⟩⟩;have frow:FnAt l.prog w K mg base "_law_row" 2 ["_law_purse_here","_law_n","_law_most"] Gv:=⟨⟨_,_,JN nD trw,Bl,nD.kp,Bk⟩⟩;have flrw:FnAt l.prog w K mg base "_law_row_word" 1 ["_law_row_here"] B5:=⟨⟨_,_,Ku gJ {t1 with di:=lz},qC,gJ.kp,qB⟩⟩;have fshp:FnAt l.prog w K mg base "_law_shapes" 1 [] Cd:=⟨⟨_,_,JV iZ t1,uA,iZ.kp,uz⟩⟩;have tfit:L7 l.prog w K mg base:={t1 with
  jd:=⟨⟨_,_,KI fS t1,pY,fS.kp,pX⟩⟩
  kX:=⟨⟨_,_,JU iy t1,tK,iy.kp,tJ⟩⟩
  mz:=⟨⟨_,_,De iY {t1 with di:=lz},uy,iY.kp,ux⟩⟩
  j6:=⟨⟨_,_,DN gK {t1 with di:=lz,ic:=ou,gh:=iq},qF,gK.kp,qD⟩⟩}
 have tfau:Mg l.prog w K mg base:={t1 with dw:=fshp,qj:=⟨⟨_,_,KC lL tfit,zQ,lL.kp,zP⟩⟩,sN:=vz};have to:TO l.prog w K mg base:={t1 with az:=ftake};have tsaid:JA l.prog w K mg base:={t1 with
  az:=ftake
  dw:=fshp
  bV:=flrw
  iA:=⟨⟨_,_,Lf fj {t1 with di:=lz,mM:=fro},oI,fj.kp,oH⟩⟩
  nI:=⟨⟨_,_,Ey jZ to,xG,jZ.kp,xF⟩⟩
  gh:=iq
  di:=lz
  ic:=ou
  qe:=tu}
 have tsgn:Mt l.prog w K mg base:={t1 with az:=ftake};have tl:TL l.prog w K mg base cl cR:={t1 with
  qe:=tu
  ic:=ou
  jw:=⟨⟨_,_,FO jY t0,xE,jY.kp,xD⟩⟩
  az:=ftake
  jA:=frow
  bV:=flrw
  p9:=⟨⟨_,_,Iv lM tsaid,zS,lM.kp,zR⟩⟩
  mD:=⟨⟨_,_,JY i3 tsgn,uC,i3.kp,uB⟩⟩
  nN:=⟨⟨_,_,JS j0 tfau,xI,j0.kp,xH⟩⟩
  fv:=fsay
  zv:=al10
  rC:=al11
  B9:=⟨Lv,_,_,⟨cmk,amI,fnmI,ckp⟩,Ho FMI tdk,bmI⟩}
 exact KO JM tl
theorem walk{l:W.OpenLaw}{q:P0}{loose:List Str}{XP:(Str->Option PX)->Qd->Prop}{YP:P4->Qd->Prop}{d:DefRec}{K:Params->W.Frag}(hn:l.most=some 63)(hdf:d.params.defaults=[])
  (hY:∀(w:P4)(h:Qd),YP w h->(K w.params).In h)
  (F:∀(w:P4)(mg:Str->Option PX)(fa:PY)(h:Qd),(K w.params).In h->h.Ns P7 mg->mg d.name=some (.ref fa)->
   ∃fd:Qc,(∀(s:PZ)(u:PX),BindsTo s fd ⟨[u],[]⟩ [("_law_script",u)])/\∀base:Qd,(K w.params).In base->base.Ns P7 mg->aQ l.prog w (K w.params) mg base i4 33 fa fd ["_law_script"] (Cf (K w.params))):
  W.WalkO q loose XP YP l.row.toRowW d [] (fun f vs=>PySem.call f vs):=
 L2.Hr (n:=63) (k:=33) (x:= "_law_script") (CX:=fun _=>i4) (sp:=fun w=>Cf (K w.params)) hn (by decide) hdf ⟨rfl,rfl,by decide,by decide⟩ hY F (fun _ _ a ns hl _ hS=>⟨a,ns,rfl,hS,hl,fun _=>rfl⟩) fun _ _ _ _ _ z=>z
end Sw
namespace PySem.W.Fast
def tw3817473170903197870:=0
def tw14191572549852027139:=0
def tw16386793644564116259:=0
def tw4859585463871131319:=0
def tw4330063193869631502:=0
def tw8208597367373319603:=0
def tw14945598445333690659:=0
def tw7533743961511247951:=0
def tw5984556539445037642:=0
def tw3592323742338091987:=0
def tw15392535816935328162:=0
def tw11524169770801867002:=0
def tw10006055735901762460:=0
def tw14844299022914356784:=0
def tw54846343396769838:=0
def tw17242767260007940220:=0
def tw11278856035723037866:=0
def tw791198969295400412:=0
def tw10729314395690292866:=0
def tw2807774981065007210:=0
def tw1181595453995943140:=0
def tw1337051710603994888:=0
def tw7111714654545697297:=0
def tw1182582638452477822:=0
def tw560193082050596064:=0
def tw9567887512062254051:=0
def tw2382034407925918165:=0
def tw5181428248391240729:=0
def tw13816712288862993720:=0
def tw1431495397669870015:=0
def tw9729619483828559825:=0
def tw6160291035375826283:=0
def tw16721144946518134147:=0
def tw11022605568028088689:=0
def tw16434422286262956097:=0
def tw11147629408728592486:=0
def tw2173669205695110090:=0
def tw12225889960064935641:=0
def tw12696381651783450068:=0
def tw14271579501931843110:=0
def tw2759414400640125979:=0
def tw14092848959340844406:=0
def tw2589430688038923849:=0
def tw9704324563144836592:=0
def tw11559144660935956080:=0
def tw14492337681755396521:=0
def tw15085527149786173420:=0
def tw285721301781359281:=0
def tw3964103133461191167:=0
def tw18365072474289644282:=0
def tw3301659035432828382:=0
def tw13221931008399097428:=0
def tw17531583356169396046:=0
def tw16338787481580811453:=0
def tw6349958629307064844:=0
def tw404443880499670619:=0
def tw12084393357807500575:=0
def tw7589916376900424749:=0
def tw16063121678236809247:=0
def tw3700123994773997889:=0
def tw9922955431331090865:=0
def tw11647907381982192128:=0
def tw15358681402778222554:=0
def tw15460244454112117332:=0
def tw17780849637020196042:=0
def tw5854703737936342401:=0
def tw8339614636091491249:=0
def tw12125135007779823396:=0
def tw5897230523560592726:=0
def tw2557777615751154886:=0
def tw7484030324183242301:=0
def tw8649307455171764838:=0
def tw5194852944832669032:=0
def tw1954045194375373326:=0
def tw9818138501568301162:=0
def tw3942207132937547238:=0
def tw13923983232419927471:=0
def tw9357377883650606985:=0
def tw3308567346657277484:=0
def tw17662001217380924974:=0
def tw5073452337752937909:=0
def tw15464583152752523094:=0
def tw16382470492320326401:=0
def tw14454965432308151570:=0
def tw15628360924466421604:=0
def tw15148250333893614564:=0
def tw7357867165174447772:=0
def tw14656535430311946138:=0
def tw2411711293335042207:=0
def tw6745789765409598665:=0
def tw4484810187261778241:=0
def tw12899487958945306416:=0
def tw17039647769144487485:=0
def tw10032368549362828985:=0
def tw3174539256379430547:=0
def tw4133827025228799379:=0
def tw1732369270343775989:=0
def tw5615043855256655999:=0
def tw12522934739195763817:=0
def tw2061885759848447894:=0
def tw14598427331880005106:=0
def tw13577046412483474050:=0
def tw14775436471100986266:=0
def tw8383131364420885883:=0
def tw5196758910552760013:=0
def tw10439370005076908461:=0
def tw1833024789918286360:=0
def tw9005494281802286098:=0
def tw14202174349280945565:=0
def tw10719233426550527659:=0
def tw8488993162845449451:=0
def tw556109228883865922:=0
def tw392013643212233040:=0
def tw11458096890937398028:=0
def tw12389846477181139116:=0
def tw3721394352466143667:=0
def tw18161950211627730693:=0
def tw426288026035694148:=0
def tw5976928977760456378:=0
def tw12212139132132483725:=0
def tw12884411218166605020:=0
def tw6021533101467798305:=0
def tw94107096726865396:=0
def tw8204929648644950461:=0
def tw9157123602525272162:=0
def tw14399959659266304888:=0
def tw10723183709487679049:=0
def tw10983748841655451504:=0
def tw13821978803225350344:=0
def tw15410601760679624048:=0
def tw8136896073654668882:=0
def tw11825890912996508700:=0
def tw11910305055605642932:=0
def tw9949266996231602814:=0
def tw1495751089295973860:=0
def tw12808685126045708358:=0
def tw1232302436505788376:=0
def tw3356840938246579780:=0
def tw500705816860971781:=0
def tw2090098879052582613:=0
def tw16079811668961376761:=0
def tw17913825964425058834:=0
def tw1522596173661530347:=0
def tw731908072130119911:=0
def tw6400050597734884633:=0
def tw12161278214785886771:=0
def tw15519905479697102971:=0
def tw8554258054500077370:=0
def tw17036979007649809675:=0
def tw2665162349701213753:=0
def tw705763521536822046:=0
def tw16326291228987957309:=0
def tw1456285362750936563:=0
def tw12127330040342286666:=0
def tw13678065080879582823:=0
def tw10565406519082294023:=0
def tw10855364016616358837:=0
def tw7334641469998872907:=0
def tw12877789330042067880:=0
def tw12998078982899848896:=0
def tw9217768331415944920:=0
def tw18245191284326701110:=0
def tw15176314685602704216:=0
def tw11516725205586406894:=0
def tw5544973703239325882:=0
def tw16700048464679629152:=0
def tw9793853366202999301:=0
def tw11211985543153123252:=0
def tw3614539037660444982:=0
def tw1023616367346001308:=0
def tw4919865961554312839:=0
def tw5256525574298435638:=0
def tw2415056418440980038:=0
def tw4739548291371549724:=0
def tw10882150329655110729:=0
def tw13702311358667694289:=0
def tw9746639520271275774:=0
def tw8142288871345331750:=0
def tw14815426729828120326:=0
def tw7160193255973478891:=0
def tw16537027591314682996:=0
def tw4682124827092020863:=0
def tw17761361360948121798:=0
def tw7403930544074269979:=0
def tw17193277069225156065:=0
def tw16273537521575457543:=0
def tw7758300418670550379:=0
def tw11495943373133903028:=0
def tw2494501322570299625:=0
def tw5816690353367459259:=0
def tw2593418460530053093:=0
def tw17197359609062900639:=0
def tw5682705556928267116:=0
def tw851255650768903883:=0
def tw9406314135315884428:=0
def tw15913078270369349958:=0
def tw681744423415959791:=0
def tw12347018348264913081:=0
def tw13675389325221234202:=0
def tw4173658710104914265:=0
def tw11609711199223053267:=0
def tw1921333866035962890:=0
def tw12795563290768101801:=0
def tw15778421993078928459:=0
def tw6214624854935914914:=0
def tw7157461989213526637:=0
def tw988197673193829258:=0
def tw7677789993958406130:=0
def tw13727656320157234081:=0
def tw4810815934339020521:=0
def tw3384590756039358012:=0
def tw12509570289418213885:=0
def tw8212230313970321770:=0
def tw7280723394797970079:=0
def tw16975857857676293331:=0
def tw11958436465402505062:=0
def tw5198611372648585312:=0
def tw9325317988378225973:=0
def tw8166234932243328755:=0
def tw4424060804197974437:=0
def tw10535323726957394288:=0
def tw16478087682782296245:=0
def tw11036547025742383090:=0
def tw7166516255395177389:=0
def tw3214157481240855867:=0
def tw10747782570696880493:=0
def tw15077756897415320089:=0
def tw184119264181090734:=0
def tw10446685532232464191:=0
def tw8481848791753465477:=0
def tw8089466484696163004:=0
def tw18377337825692664969:=0
def tw49204158986677934:=0
def tw13261187317851569742:=0
def tw10001334675240608202:=0
def tw12205484602377427293:=0
def tw15248827305216158373:=0
def tw16251737320040501488:=0
def tw7376517843412400012:=0
def tw8831566636486423246:=0
def tw11189762103531059558:=0
def tw8355833247606725029:=0
def tw11659705343567762059:=0
def tw16267426049854996573:=0
def tw11247429096969702552:=0
def tw3545370883772828927:=0
def tw15713085996933239178:=0
def tw5831358121579030515:=0
def tw13514336956456075460:=0
def tw140513667487198444:=0
def tw2835315538234974106:=0
def tw10259819181908604240:=0
def tw6362535363283810151:=0
def tw7402472788353582258:=0
def tw18029909017006877320:=0
def tw6153028179014066695:=0
def tw6059570411755730617:=0
def tw224227103750567374:=0
def tw6837598260691940729:=0
def tw204004821970735190:=0
def tw7513080721933024189:=0
def tw7328812321008847977:=0
def tw9275605334794202324:=0
def tw18216956802508316063:=0
def tw3456526426528307504:=0
def tw2750595177149515368:=0
def tw16589310022079155809:=0
def tw8111547541374575990:=0
def tw10837734693093221949:=0
def tw15871981188175933095:=0
def tw3938353050557792420:=0
def tw1645770701211136761:=0
def tw10899661344596180036:=0
def tw18402940531776523790:=0
def tw13411414091339275692:=0
def tw8667010949866715459:=0
def tw1964606400072453722:=0
def tw14885212634906463901:=0
def tw543552566008309764:=0
def tw11448715914507776574:=0
def tw14279758604997632069:=0
def tw2445958958938447532:=0
def tw18349635317700973771:=0
def tw6160290887779309050:=0
def tw13315728743010590725:=0
def tw1654567828300098970:=0
def tw15370752945493511023:=0
def tw10115996670274092693:=0
def tw5315614564506211430:=0
def tw14359134248122320449:=0
def tw12232893894913983766:=0
def tw10364057315035047379:=0
def tw233181448321674428:=0
def tw4328098545808577351:=0
def tw8169979777208262647:=0
def tw9723637645116626398:=0
def tw13000765320529322793:=0
def tw12622508096431737242:=0
def tw74894239815771830:=0
def tw11325101674313404751:=0
def tw11524122829585875907:=0
def tw16150681727089140892:=0
def tw9185563828443567593:=0
def tw5834285666115663891:=0
def tw5749715250795527434:=0
def tw5014206501635304891:=0
def tw4512624281577185420:=0
def tw4254826705405999533:=0
def tw3225790864732313059:=0
def tw16178892805865115722:=0
def tw12422457695160195582:=0
def tw11462359727856683245:=0
def tw12996348988835660260:=0
def tw11505720628078097531:=0
def tw7060321452879471530:=0
def tw14342945762965025987:=0
def tw11424791534361426074:=0
def tw10605061630815319548:=0
def tw11306529670201283614:=0
def tw16651063288420166154:=0
def tw1411009464675379599:=0
def tw9141309928388955298:=0
def tw3729530224695235096:=0
def tw2935885949942755464:=0
def tw2735718106154658541:=0
def tw13047325364563015908:=0
def tw11776913900375556692:=0
def tw5660512624145457530:=0
def tw14848515330524631097:=0
def tw11009690100479497204:=0
def tw15850870308837341335:=0
def tw1533170123015387808:=0
def tw13314254603459764528:=0
def tw758800941067897108:=0
def tw5961054286846812324:=0
def tw1290831185073374141:=0
def tw16122398224690871386:=0
def tw16434781276797128457:=0
def tw8961707239411794906:=0
def tw17464601993192183057:=0
def tw1895237775246805170:=0
def tw18160311121257080290:=0
def tw9793725906284463298:=0
def tw2768922119472301558:=0
def tw8704364496484029395:=0
def tw8152355692576578425:=0
def tw5656832306737656851:=0
def tw388063329491463455:=0
def tw12953409468757440003:=0
def tw18181826097441845188:=0
def tw6694283692506634284:=0
def tw4404037846842687700:=0
def tw16611906016712886340:=0
def tw12339272702765884138:=0
def tw2706007367611390350:=0
def tw40887884581613252:=0
def tw6524489065799755365:=0
def tw2536713463713951841:=0
def tw5621007145882457722:=0
def tw14006054511132816708:=0
def tw4415166812490306030:=0
def tw3362893042069057831:=0
def tw2898704570900702745:=0
def tw17235278243414229355:=0
def tw11616144832039057608:=0
def tw5757019368379317669:=0
def tw295530278546686191:=0
def tw17994977969606730546:=0
def tw17947601641376351412:=0
def tw17089376592413146714:=0
def tw16388877143260431712:=0
def tw13348125978920489326:=0
def tw11845426313209508587:=0
def tw14524649243544983048:=0
def tw9591904032691833721:=0
def tw8869128008739784873:=0
def tw7997586965188964928:=0
def tw14629014555106534300:=0
def tw14607681023074836502:=0
def tw11589456065094873798:=0
def tw7233367492462059724:=0
def tw4684364488255697272:=0
def tw2476459799263830983:=0
def tw18068460045567167955:=0
def tw2867982245076755813:=0
def tw14819636258656450840:=0
def tw14032918881993151061:=0
def tw1072311043060114247:=0
def tw10089244444798537815:=0
def tw17629046095134896905:=0
def tw12793043896867284970:=0
def tw6498236246997887716:=0
def tw17982405793481764643:=0
def tw6540914956754892312:=0
def tw16926727287721005811:=0
def tw11426614092931758587:=0
def tw11418926537893763924:=0
def tw1112411857885682318:=0
def tw7486474632768479543:=0
def tw7243350776996052846:=0
def tw6962712941479635374:=0
def tw6108477801555374329:=0
def tw15379945347582141892:=0
def tw14332826533623700705:=0
def tw12925504984284489361:=0
def tw7606855047388042467:=0
def tw3235397777765597944:=0
def tw1675170595188084546:=0
def tw15390352202306086108:=0
def tw13450029689381569498:=0
def tw8408923747245828711:=0
def tw5366120992715875107:=0
def tw4841019365145741017:=0
def tw2480039042920561128:=0
def tw2114770280454819924:=0
def tw15513891643767795553:=0
def tw10032060939493227834:=0
def tw17954351211264092932:=0
def tw11465903767866523860:=0
def tw9756802642057503184:=0
def tw7800876705086342544:=0
def tw491491400425668341:=0
def tw11158617151235405176:=0
def tw3708258098441902982:=0
def tw12893191497150805199:=0
def tw6226730921017115183:=0
def tw9277355927434213508:=0
def tw16431258643264163112:=0
def tw359435017436954509:=0
def tw6719939467611406418:=0
def tw5814604336539389262:=0
def tw5749304845439433836:=0
def tw8028648643403822226:=0
def tw3156627249214807173:=0
def tw1206148357293407439:=0
def tw6448626924153751556:=0
def tw10635981573163052616:=0
def tw7209739487783510948:=0
def tw2418831851494221491:=0
def tw14899473911804622167:=0
def tw5150774342556785083:=0
def tw4730923100037245813:=0
def tw1850131370966676938:=0
def tw7432761285791436222:=0
def tw7230837429912453500:=0
def tw5182377189653206195:=0
def tw817165161316538342:=0
def tw2795139050831568806:=0
def tw2230466378549958673:=0
def tw1814138509060609673:=0
def tw5530229379450216786:=0
def tw5772185142277299110:=0
def tw208585152844158607:=0
def tw17751583309496644264:=0
def tw12507762819534753135:=0
def tw9294189780439430279:=0
def tw6306135620368415866:=0
def tw4601649004300853367:=0
def tw2088704462939785228:=0
def tw485538987116846501:=0
def tw12747597221178839913:=0
def tw9945297387137199158:=0
def tw9044068013137956768:=0
def tw14861293893527690034:=0
def tw2239039533820732685:=0
def tw4021147257312640670:=0
def tw15988620254430303784:=0
def tw6153779225810643141:=0
def tw9417901537579540207:=0
def tw5233062518224902035:=0
def tw15139649365122930031:=0
def tw12246688175705173117:=0
def tw959379597817360076:=0
def tw4426445538511034965:=0
def tw4115234503346216378:=0
def tw9943790000541222781:=0
def tw9515779953439155058:=0
def tw9183593633420046462:=0
def tw8849480434167709186:=0
def tw6561313687293399940:=0
def tw649029699760957175:=0
def tw6255455281728629213:=0
def tw5676340918063697643:=0
def tw2735119537735887488:=0
def tw18428415096082536854:=0
def tw18323009175777552833:=0
def tw17857496359801205427:=0
def tw16041396273892664105:=0
def tw15894830303656749148:=0
def tw14369124348117949380:=0
def tw14314087235743138591:=0
def tw12965955306590180695:=0
def tw11520831256481854690:=0
def tw1007479432532740620:=0
def tw9355890337543696210:=0
def tw1372509439302723243:=0
def tw1300231570664791449:=0
def tw6290554536182950631:=0
def tw10911021545199045912:=0
def tw13092941965545589727:=0
def tw10127869713307664831:=0
def tw8689878828234498440:=0
def tw9533844452724709275:=0
def tw8195028700278619980:=0
def tw6470328788629440104:=0
def tw3952642796355144657:=0
def tw3349362181769759428:=0
def tw3114268056155262131:=0
def tw2482075921602401621:=0
def tw17342422087950051870:=0
def tw1666429791791412138:=0
def tw13170923449172021749:=0
def tw1181663632438919200:=0
def tw8904568515320234005:=0
def tw6316127806298878069:=0
def tw13995017315463857918:=0
def tw1245239108695009970:=0
def tw8864164564160550502:=0
def tw2615001192722686169:=0
def tw16407075997078365478:=0
def tw17799794908633392843:=0
def tw5551645928388706655:=0
def tw14525757604036979021:=0
def tw12094276262924768962:=0
def tw9528314464619865383:=0
def tw8597880667070169157:=0
def tw7016852090401374158:=0
def tw6770507569779101419:=0
def tw4785838427945834841:=0
def tw18421533521243671631:=0
def tw16976523789589715338:=0
def tw1325729960806150547:=0
def tw12970547285232159093:=0
def tw12835057254236077306:=0
def tw10839589479040098712:=0
def tw2418090234349526946:=0
def tw2199818917851105414:=0
def tw16626850677593666623:=0
def tw11546027251505474863:=0
def tw10355420146042680379:=0
def tw9679756465976100318:=0
def tw8115038459504189143:=0
def tw7520231063899249285:=0
def tw681356221335822862:=0
def tw6392346887394256143:=0
def tw5609996337056846989:=0
def tw4138746050183274516:=0
def tw2036336609521651749:=0
def tw15682275129440905343:=0
def tw15539266117491527284:=0
def tw1464174264814290399:=0
def tw11347441358034054206:=0
def tw11008102523526393931:=0
def tw10510551285027725682:=0
def tw9979327807304157529:=0
def tw9083363448760775026:=0
def tw8355314836124979642:=0
def tw8274477318756327286:=0
def tw740269330040483387:=0
def tw6270978389381837462:=0
def tw3803176314432888392:=0
def tw226627320882154276:=0
def tw16233763802077061413:=0
def tw14896011674600325747:=0
def tw12011926084510208006:=0
def tw11955610120218685100:=0
def tw11528825339718255872:=0
def tw10809553416874342233:=0
def tw4282380122319947489:=0
def tw7711990931560461441:=0
def tw7413322669192009368:=0
def tw6668868042916166620:=0
def tw5318775517025214586:=0
def tw4502801926262648364:=0
def tw2505533174386974594:=0
def tw18436197369555555632:=0
def tw17764187962198174389:=0
def tw15912557602242930192:=0
def tw15098175704123357349:=0
def tw13643253930485347522:=0
def tw12320048355155291991:=0
def tw8389314285674919665:=0
def tw6182475838410525935:=0
def tw3773169729257775025:=0
def tw24449376389127426:=0
def tw15728048588434823368:=0
def tw15725444535962794315:=0
def tw15321610238550316187:=0
def tw14241332792813096838:=0
def tw13858036138737888444:=0
def tw12505576101779624381:=0
def tw11600810905704089168:=0
def tw11306781340260807119:=0
def tw10885648862890659806:=0
def tw10089646647385619839:=0
def tw9936491724277121623:=0
def tw9846872340332476228:=0
def tw9790788097876390249:=0
def tw9666376515268429929:=0
def tw9654447757095909695:=0
def tw9482422432779019625:=0
def tw9435661544728139461:=0
def tw9384918819915896852:=0
def tw935776625210232676:=0
def tw9355765276490561998:=0
def tw9308725013728854585:=0
def tw9273587545328719776:=0
def tw9257207425803495209:=0
def tw925431699397798303:=0
def tw9228480370273859058:=0
def tw9000601943241486713:=0
def tw8889058862574027353:=0
def tw8683767634098549770:=0
def tw8674544530237068590:=0
def tw8658147695234619385:=0
def tw8547460366417617066:=0
def tw8432158307012424194:=0
def tw8293637969890434096:=0
def tw8189691114857728349:=0
def tw8141121163417896499:=0
def tw8039303115960961811:=0
def tw8022442342694579616:=0
def tw7848726664172754482:=0
def tw7823727203311950852:=0
def tw7779870343860953448:=0
def tw7773482321692156937:=0
def tw7762730150443684849:=0
def tw7669180164795945893:=0
def tw7651087251455844662:=0
def tw7569039219387567092:=0
def tw7475348420621622789:=0
def tw7328994356991706043:=0
def tw7121080012252702747:=0
def tw7042430683353488467:=0
def tw6902187763784777647:=0
def tw6871727447094166715:=0
def tw6426756271097269386:=0
def tw6418573469385687046:=0
def tw6323820636907527339:=0
def tw6301746016260137794:=0
def tw616018732124525555:=0
def tw6102365319708059212:=0
def tw5990491827510463801:=0
def tw5835403177066690189:=0
def tw5793757407665822286:=0
def tw5724147677588405060:=0
def tw5719221147865013270:=0
def tw5675153027009225969:=0
def tw5517381897357740443:=0
def tw5284010245817639562:=0
def tw5275274267067638168:=0
def tw4754065178586079927:=0
def tw462194101759116341:=0
def tw4606832121177775205:=0
def tw4568979079715566459:=0
def tw4279688134190167217:=0
def tw4249234455262330313:=0
def tw4076227877067590428:=0
def tw4009324788265452423:=0
def tw3908667232545833807:=0
def tw3907401376417173163:=0
def tw3760299189925972820:=0
def tw3754665350819979826:=0
def tw3626525382772961763:=0
def tw3527939581350221796:=0
def tw3298141035081184352:=0
def tw3277182790209456972:=0
def tw3211452626297432753:=0
def tw313508894368098463:=0
def tw3060891445157699962:=0
def tw3047140905456844411:=0
def tw3046224341067315354:=0
def tw3029584295686743559:=0
def tw3002936408926377904:=0
def tw2877210835883355804:=0
def tw2842649551133920548:=0
def tw2438748539421530302:=0
def tw2410515619417580828:=0
def tw2343984623588098355:=0
def tw2343869883466142451:=0
def tw1971738370404207313:=0
def tw1929282206943605364:=0
def tw18432461666584439696:=0
def tw18318888003709978172:=0
def tw18233828933409245659:=0
def tw18140663269560621467:=0
def tw18044101573163324882:=0
def tw17980127544758608720:=0
def tw1790755685004241732:=0
def tw17777872231738758462:=0
def tw1738057826325733832:=0
def tw17209153477069139820:=0
def tw17107877153847400537:=0
def tw17068780458262121291:=0
def tw17019369658810558177:=0
def tw16897245540600283620:=0
def tw16874447012720310197:=0
def tw16795079782635139807:=0
def tw16751273399161548466:=0
def tw16720874147564685754:=0
def tw16652601817811744356:=0
def tw16644681541168635149:=0
def tw16611193915756709677:=0
def tw16560557026863580906:=0
def tw16437281653858800586:=0
def tw1586868706043927897:=0
def tw15817493845932765128:=0
def tw15791935494627780539:=0
def tw15776936179729943896:=0
def tw15639598296735883625:=0
def tw15617936487466178996:=0
def tw15553329167103302669:=0
def tw15359348781592974480:=0
def tw15343131699107988898:=0
def tw15338031579236660098:=0
def tw1533002359933235897:=0
def tw15324890301904648801:=0
def tw15119025141837978439:=0
def tw15030794789773029648:=0
def tw14902908719691392974:=0
def tw14859443898846771310:=0
def tw1484882714514469443:=0
def tw14847228796653191357:=0
def tw14679141420681987559:=0
def tw14653403031802073447:=0
def tw14549080135484743184:=0
def tw14382651002216297657:=0
def tw14202594772028338093:=0
def tw14140918802531562280:=0
def tw14083542419480726300:=0
def tw14081975004711258907:=0
def tw14024036969376016063:=0
def tw13874986905772341066:=0
def tw13818749216881265666:=0
def tw13762939380275469924:=0
def tw13721718645784641289:=0
def tw13665205845173791294:=0
def tw13663090777882886422:=0
def tw13645604282155485269:=0
def tw13583304245682740277:=0
def tw13541487813198157465:=0
def tw13389762631880584358:=0
def tw13339520947701964850:=0
def tw13249544441589263691:=0
def tw13108585533171683186:=0
def tw13097355517589041703:=0
def tw13050562828579662870:=0
def tw13043160874084060010:=0
def tw12866498102087448326:=0
def tw12856977834047828966:=0
def tw1280729272508022181:=0
def tw12752298107954903049:=0
def tw12537123908330536893:=0
def tw12523912177903524601:=0
def tw12481445838860187546:=0
def tw12355855933461319781:=0
def tw11932313682483041589:=0
def tw11912038761743225656:=0
def tw11868368632216411106:=0
def tw11821847816212719781:=0
def tw11753646592136621450:=0
def tw11599105428833628795:=0
def tw11580707764433756106:=0
end PySem.W.Fast
open PySem PySem.W PyProof.Rows
set_option maxRecDepth 100000 in
set_option maxHeartbeats 0 in
theorem PySem.Challenge.cw_swapstars_k79_a_desk_refuses_holds : PySem.Challenge.rw_swapstars_k79_a_desk_refuses.Holds := by
 w_on;o_law;k_head;(case hw=>w_witness2)
 k_fill
 refine Sw.walk (l:=PySem.Challenge.rw_swapstars_k79_a_desk_refuses) rfl rfl (fun w h Y=>W.kIn_of Y) ?F
 case F=>
  intro w mg fa h KX G hmg
  refine' Sw.all_mk KX G hmg ?a0 ?d0 ?a1 ?d1 ?a2 ?d2 ?a3 ?d3 ?a4 ?d4 ?a5 ?d5 ?a6 ?d6 ?a7 ?d7 ?a8 ?d8 ?a9 ?d9 ?a10 ?d10 ?a11 ?d11 ?a12 ?d12 ?a13 ?d13 ?a14 ?d14 ?a15 ?d15 ?a16 ?d16 ?a17 ?d17 ?a18 ?d18 ?a19 ?d19 ?a20 ?d20 ?a21 ?d21 ?a22 ?d22 ?a23 ?d23 ?a24 ?d24 ?a25 ?d25 ?a26 ?d26 ?a27 ?d27 ?a28 ?d28 ?a29 ?d29 ?a30 ?d30 ?a31 ?d31 ?a32 ?d32 ?a33 ?d33 ?a34 ?d34 ?a35 ?d35 ?a36 ?d36 ?a37 ?d37 ?a38 ?d38 ?a39 ?d39 ?a40 ?d40 ?a41 ?d41 ?a42 ?d42 ?a43 ?d43 ?a44 ?d44 ?a45 ?d45 ?a46 ?d46 ?a47 ?d47 ?a48 ?d48 ?a49 ?d49 ?a50 ?d50 ?a51 ?d51 ?a52 ?d52 ?a53 ?d53 ?a54 ?d54 ?a55 ?d55 ?zB ?zC ?zD ?zE ?dh ?tj ?oq ?tq ?ot ?ou ?tu ?zF ?iq ?vz ?gv ?lz ?eX ?pM ?lA ?tw ?pN ?lB ?lC ?pO ?pP ?nh ?nj ?pQ ?pR ?jL ?mq ?mr ?pS ?fF ?dJ ?gE ?fG ?dM ?dN ?fH ?fI ?eY ?e8 ?fJ ?fK ?fL ?gN ?dt ?pT ?pU ?pV ?fM ?dO ?gF ?fN ?dP ?dQ ?fO ?fP ?fc ?fe ?fQ ?fR ?gO ?du ?fg ?iu ?gG ?gH ?aDUE ?lDUE ?sDUE ?lq0 ?lq1 ?lq2 ?lq3 ?lq4 ?lq5 ?lq6 ?lq7 ?lq8 ?lq9 ?lq10 ?lq11 ?lq12 ?lq13 ?lq14 ?lq15 ?lq16 ?lq17 ?lq18 ?lq19 ?lq20 ?aANS ?lANS ?sANS ?nq ?aDesk ?cpg ?chd ?cpo ?csa ?cno ?cnk ?cmk ?ckp ?amI ?fnmI ?kmI ?lmI ?cmI ?amR ?fnmR ?kmR ?lmR ?cmR ?amY ?fnmY ?kmY ?lmY ?cmY ?lD ?cY ?kpc ?nu ?kib
  (case a0|a1|a2|a3|a4|a5|a6|a7|a8|a9|a10|a11|a12|a13|a14|a15|a16|a17|a18|a19|a20|a21|a22|a23|a24|a25|a26|a27|a28|a29|a30|a31|a32|a33|a34|a35|a36|a37|a38|a39|a40|a41|a42|a43|a44|a45|a46|a47|a48|a49|a50|a51|a52|a53|a54|a55|zB|zC|zD|zE|dh|tj|oq|tq|ot|ou|tu|zF|iq|vz|gv|lz|eX|pM|lA|tw|pN|lB|lC|pO|pP|nh|nj|pQ|pR|jL=>k_is)
  (case d0|d1|d2|d3|d4|d5|d6|d7|d8|d9|d10|d11|d12|d13|d14|d15|d16|d17|d18|d19|d20|d21|d22|d23|d24|d25|d26|d27|d28|d29|d30|d31|d32|d33|d34|d35|d36|d37|d38|d39|d40|d41|d42|d43|d44|d45|d46|d47|d48|d49|d50|d51|d52|d53|d54|d55=>exact⟨_,_,_,_,_,_,_,_,_,by k_is,by k_is,by k_is⟩)
  (case mq|pT=>kernel_rfl)
  (case mr|pU=>exact⟨by k_is,by k_is,by k_is,by k_is,by k_is,by k_is,by k_is,by kernel_rfl⟩)
  (case pS|fF|dJ|gE|fG|dM|dN|fH|fI|eY|e8|fJ|fL|gN|pV|fM|dO|gF|fN|dP|dQ|fO|fP|fc|fe|fQ|fR|gO=>kit_is)
  (case fK|dt|du=>exact⟨by k_is,by kernel_rfl,by k_is,by k_is⟩)
  (case fg=>k_is)
  (case iu=>k_is)
  (case gG=>k_is)
  (case gH=>k_is)
  (case aDUE|lDUE|lq0|lq1|lq2|lq3|lq4|lq5|lq6|lq7|lq8|lq9|lq10|lq11|lq12|lq13|lq14|lq15|lq16|lq17|lq18|lq19|lq20|aANS|lANS|nq|aDesk=>k_is)
  (case sDUE|sANS=>rfl)
  (case cpg|chd|cpo|csa|cno|cnk|cmk|ckp|amI|fnmI|kmI|lmI|cmI|amR|fnmR|kmR|lmR|cmR|amY|fnmY|kmY|lmY|cmY=>first|k_is|kernel_rfl)
  (case lD=>kernel_rfl)
  (case cY=>exact⟨by k_is,by kernel_rfl,by k_is,by k_is⟩)
  (case kpc=>k_is)
  (case nu=>kernel_rfl)
  (case kib=>exact L2.vE _)
