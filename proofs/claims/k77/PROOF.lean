import PyProof.Rows.All
import Wide.All
import OpenK.AllK
import Wide.FinOn
import Lean
import PyProof.EqAt
import PyProof.EqKinds
import PyProof.TupleCall
import KE.KIntText
import PyProof.StrBlockH
import PyProof.StrLawsTight
import PyProof.StrLawsReplace
import PyProof.StrLawsJoin
import PyProof.StrLawsNeg
import KE.LcSums
import KE.KSortAsk
import PyProof.ZipIter
import PyProof.Draws
import PyProof.ToksMono
import PyProof.StrReplace2
import KE.KItemsList
import KE.KRevIter
import PySem.Challenge.RW_swapstars_k77_a_desk_of_the_great_round
open PySem.Str renaming ofString→Mt
open List renaming length_map→Mu
open List renaming getElem?_map→Mv
open List renaming length_append→Mw
open List renaming getElem?_eq_getElem→Mx
open List renaming map_append→My
open List renaming length_cons→Mz
open List renaming map_cons→MA
open List renaming length_take→MB
open List renaming mem_cons→MC
open List renaming map_map→MD
open List renaming getD_eq_getElem?_getD→ME
open List renaming mem_of_getElem?→MF
open List renaming mem_cons_self→MG
open List renaming mem_cons_of_mem→MH
open List renaming take_of_length_le→MI
open List renaming mem_append_right→MJ
open List renaming mem_append_left→MK
open List renaming size_toArray→ML
open List renaming not_mem_nil→MM
open List renaming append_nil→MN
open List renaming take_succ→MO
open Nat renaming le_refl→MP
open Nat renaming lt_of_lt_of_le→MQ
open Nat renaming ne_of_lt→MR
open Nat renaming le_trans→MS
open Nat renaming zero_le→MT
open Bool renaming false_ne_true→MU
open Option.some renaming inj→MV
open Option renaming map_some→MW
open PySem renaming Value→MX
open PySem renaming Addr→MY
open PySem renaming Shared→MZ
open PySem renaming Program→M0
open PySem renaming World→M3
open PySem renaming Around→M4
open PySem renaming sizeLine→M5
open PySem renaming mainGlobals→M6
open PySem renaming wpAny_bind→M7
open PySem renaming wpAny_pure→M8
open PySem renaming wpAny_mono→M9
open PySem renaming starEach→Na
open PySem renaming FuncData→Nb
open PySem renaming Heap→Nc
open PySem renaming backTo→Nd
open PySem renaming wpAny→Nf
open PySem renaming Stmt→Ng
open PySem renaming NameKind→Nh
open PySem renaming Builtin→Ni
set_option Elab.async false
set_option linter.all false
set_option maxRecDepth 100000
set_option maxHeartbeats 8000000
namespace L2
open PySem PySem.Spec PyProof.Rows
abbrev Key:=Sum Int Str
def pf:Key->MX->Bool
 | .inl k,v=>MX.isInt k v
 | .inr x,v=>MX.isStrOf x v
def K7(w:M3):Key->Int
 | .inl k=>hashInt k
 | .inr x=>hashStr w x
theorem bL:∀{k:Key}{v:MX},pf k v=true->(∃i t,k=Sum.inl i/\v=MX.int i t)\/(∃x t,k=Sum.inr x/\v=MX.str x t)
 | .inl i,v,h=>by
  obtain⟨t,e⟩:=MX.isInt_shape (k:=i) (v:=v) h;exact .inl ⟨i,t,rfl,e⟩
 | .inr x,v,h=>by
  obtain⟨t,e⟩:=MX.isStrOf_shape (x:=x) (v:=v) h;exact .inr ⟨x,t,rfl,e⟩
theorem zB(i:Int)(t:Tok):pf (.inl i) (.int i t)=true:=by simp[pf,MX.isInt]
theorem zN(x:Str)(t:Tok):pf (.inr x) (.str x t)=true:=by simp[pf,MX.isStrOf]
theorem HW(a b:Int):decide ((Sum.inl a:Key)=Sum.inl b)=(a==b):=by
 by_cases e:a=b
 .subst e;simp
 .have h:¬(Sum.inl a:Key)=Sum.inl b:=fun q=>e (Sum.inl.inj q)
  rw[decide_eq_false h];exact(beq_eq_false_iff_ne.mpr e).symm
theorem Hw(a b:Str):decide ((Sum.inr a:Key)=Sum.inr b)=decide (a=b):=by
 by_cases e:a=b
 .subst e;simp
 .have h:¬(Sum.inr a:Key)=Sum.inr b:=fun q=>e (Sum.inr.inj q)
  rw[decide_eq_false h,decide_eq_false e]
theorem Hj(a:Int)(b:Str):decide ((Sum.inl a:Key)=Sum.inr b)=false:=decide_eq_false (fun q=>nomatch q)
theorem Ii(a:Str)(b:Int):decide ((Sum.inr a:Key)=Sum.inl b)=false:=decide_eq_false (fun q=>nomatch q)
def aW(prog:M0)(w:M3):PySem.KeyKind prog w Key where
 is:=pf
 hash:=K7 w
 inj:=fun v a b ha hb=>by
  rcases bL ha with⟨i,t,rfl,rfl⟩|⟨x,t,rfl,rfl⟩
  .rcases bL hb with⟨j,u,rfl,e⟩|⟨y,u,rfl,e⟩
   .injection e with e1 _;rw[e1]
   .exact nomatch e
  .rcases bL hb with⟨j,u,rfl,e⟩|⟨y,u,rfl,e⟩
   .exact nomatch e
   .injection e with e1 _;rw[e1]
 byValue:=fun k v h=>by
  rcases bL h with⟨i,t,rfl,rfl⟩|⟨x,t,rfl,rfl⟩<;>rfl
 pyHash:=fun hv h=>by
  rcases bL hv with⟨i,t,rfl,rfl⟩|⟨x,t,rfl,rfl⟩
  .exact wpAny_pyHash_int h
  .exact wpAny_pyHash_str h
 eqBool:=fun hu hv h=>by
  rcases bL hu with⟨i,t,rfl,rfl⟩|⟨x,t,rfl,rfl⟩
  .rcases bL hv with⟨j,u,rfl,rfl⟩|⟨y,u,rfl,rfl⟩
   .rw[HW]at h;exact wpAny_eqBool_int h
   .rw[Hj]at h;exact SeqAt.EqAt.int_str i t y u _ _ _ _ h
  .rcases bL hv with⟨j,u,rfl,rfl⟩|⟨y,u,rfl,rfl⟩
   .rw[Ii]at h;exact SeqAt.EqAt.str_int x t j u _ _ _ _ h
   .rw[Hw]at h;exact wpAny_eqBool_str h
 «strs»:=fun k x t v h=>by
  rcases bL h with⟨i,u,rfl,e⟩|⟨y,u,rfl,e⟩
  .exact nomatch e
  .injection e with e1 _
   subst e1;cases v<;>rfl
theorem t5(prog:M0)(w:M3)(i:Int)(t:Tok):(aW prog w).is (.inl i) (.int i t)=true:=zB i t
theorem vt(prog:M0)(w:M3)(x:Str)(t:Tok):(aW prog w).is (.inr x) (.str x t)=true:=zN x t
inductive V where
 |de|bl (b:Bool)|int (i:Int)|str (x:Str)|byt (b:Array UInt8)|nu (b:UInt64)|ref (a:MY)|ty (n:String)
 deriving DecidableEq
def RelV:V->MX->Prop
 | .de,u=>u=MX.none
 | .bl b,u=>u=MX.bool b
 | .int i,u=>∃t,u=MX.int i t
 | .str x,u=>∃t,u=MX.str x t
 | .byt b,u=>∃t,u=MX.bytes b t
 | .nu b,u=>∃t,u=MX.float b t
 | .ref a,u=>u=MX.ref a
 | .ty n,u=>u=MX.type n
abbrev Vals:List V->List MX->Prop:=Paired RelV
theorem Vals.length {xs:List V}{us:List MX}(r:Vals xs us):xs.length=us.length:=Paired.length r
theorem Vals.get:∀{xs:List V}{us:List MX}{i:Nat}{x:V},Vals xs us->xs[i]?=some x->∃u,us[i]?=some u/\RelV x u
 |_,_,_,_,.nil,e=>by simp at e
 |_,_,0,_,.cons r _,e=>by simp at e;subst e;exact⟨_,rfl,r⟩
 |_,_,i+1,x,.cons _ t,e=>by
  obtain⟨u,h1,h2⟩:=Vals.get (i:=i) (x:=x) t (by simpa using e);exact⟨u,by simpa using h1,h2⟩
theorem Vals.set {x:V}{u:MX}(r:RelV x u):∀{xs:List V}{us:List MX}(i:Nat),Vals xs us->Vals (xs.set i x) (us.set i u)
 |_,_,_,.nil=> .nil
 |_,_,0,.cons _ t=> .cons r t
 |_,_,i+1,.cons q t=> .cons q (Vals.set r i t)
theorem Vals.append:∀{xs ys:List V}{us ws:List MX},Vals xs us->Vals ys ws->Vals (xs++ys) (us++ws)
 |_,_,_,_,.nil,s=>s
 |_,_,_,_,.cons r t,s=> .cons r (Vals.append t s)
theorem Vals.take:∀{xs:List V}{us:List MX}(n:Nat),Vals xs us->Vals (xs.take n) (us.take n)
 |_,_,0,_=> .nil
 |_,_,_+1,.nil=> .nil
 |_,_,n+1,.cons r t=> .cons r (Vals.take n t)
theorem Vals.drop:∀{xs:List V}{us:List MX}(n:Nat),Vals xs us->Vals (xs.drop n) (us.drop n)
 |_,_,0,r=>r
 |_,_,_+1,.nil=> .nil
 |_,_,n+1,.cons _ t=>Vals.drop n t
def gZ:Option V->Option MX->Prop
 |some v,some u=>RelV v u
 |none,none=>True
 |_,_=>False
def KV{κ:Type}:List (κ×V)->List (κ×MX)->Prop:=Paired fun(p:κ×V)(q:κ×MX)=>p.1=q.1/\RelV p.2 q.2
def kV:Key->V
 | .inl i=> .int i
 | .inr x=> .str x
inductive HO where
 |lst (xs:List V)
 |tup (xs:List V)
 |dK (kvs:List (Key×V))|dT (kvs:List (List Key×V))
 |set (S:Int->Bool) (n:Nat)
 |ins (C dx:MY) (fs:List (Str×V))
 |own (x:MY)
 |xd (fs:List (Str×V))
 |met (f x:MY)
 |m6 (lo hi:Int)
 |tY (o:Obj) (u:HO)
 |Fj (ps:Array MX)
 |ext (φ:Nc->Prop)
abbrev Hp:=MY->Option HO
def upd(H:Hp)(a:MY)(o:HO):Hp:=fun b=>if b=a then some o else H b
theorem ae{H:Hp}{a:MY}{o:HO}:upd H a o a=some o:=by unfold upd;rw[if_pos rfl]
theorem aq{H:Hp}{a b:MY}{o:HO}(h:b≠a):upd H a o b=H b:=by unfold upd;rw[if_neg h]
theorem xJ{H:Hp}{a:MY}{o u:HO}:upd (upd H a o) a u=upd H a u:=by
 funext b;unfold upd;split<;>rfl
theorem Ce{H:Hp}{a b:MY}{o u:HO}(h:H a=some o)(h':H b=some u)(d:o≠u):a≠b:=by
 intro e;subst e;rw[h]at h';exact d (MV h')
theorem ao{H:Hp}{a b:MY}{o:HO}(h:H a=some o)(h':H b=none):a≠b:=by
 intro e;subst e;rw[h]at h';cases h'
section
variable(P:M0)(w:M3)
def bF(H:Hp)(h:Nc)(a:MY):HO->Prop
 | .lst xs=>xs.length<=M5/\∃(its:List MX)(n:Nat),Vals xs its/\h.get? a=some {cls:= .type "list",data:= .seq its.toArray n}
 | .tup xs=>xs.length<=M5/\∃its:List MX,Vals xs its/\IsTup h a its.toArray
 | .dK kvs=>kvs.length<=M5/\(a==sysModules)=false/\∃vs,KV kvs vs/\h.DictOf (aW P w) a vs
 | .dT kvs=>kvs.length<=M5/\(a==sysModules)=false/\∃xs:List (List Key×MY×MX),
   Paired (fun(p:List Key×V)(q:List Key×MY×MX)=>p.1=q.1/\H q.2.1=some (.tup (p.1.map kV))/\RelV p.2 q.2.2) kvs xs/\
   ∃o es ep,h.get? a=some o/\o.ExactDict/\o.data= .dict es ep/\es.toList=xs.map (entryOfKey (tupleKind (aW P w)))/\(xs.map (·.1)).Nodup
 | .set S n=>h.SetOf (intKind P w) a S n
 | .ins C dx fs=>H dx=some (.own a)/\fs.length<=1000/\dx≠a/\h.get? a=some (W.instObj C dx)/\
   ∃mA,h.Ns1 dx mA/\(∀f,gZ (fs.lookup f) (mA f))/\PySem.Within mA (fs.map (·.1))
 | .own _=>∃o,h.get? a=some o
 | .xd fs=>∃mA,h.Ns1 a mA/\∀f,gZ (fs.lookup f) (mA f)
 | .m6 lo hi=>∃t u v,h.get? a=some {cls:= .type "range",data:= .fields #[.int lo t,.int hi u,.int 1 v]}
 | .tY o u=>h.get? a=some o/\bF H h a u
 | .Fj ps=>h.get? a=some {cls:= .none,data:= .fields ps}
 | .met f x=>h.get? a=some (W.methodObj (.ref f) (.ref x))
 | .ext φ=>φ h/\(∃o,h.get? a=some o)/\∀h1 h2:Nc,φ h1->(∀o,h1.get? a=some o->h2.get? a=some o)->φ h2
def jF(H:Hp)(h:Nc):Prop:=∀a o,H a=some o->bF P w H h a o
end
section
variable{P:M0}{w:M3}{H H':Hp}{h h':Nc}{a:MY}{o:HO}
theorem bF.lt (x:bF P w H h a o):a<h.objs.size:=by
 cases o with
 |lst xs=>obtain⟨_,_,_,_,e⟩:=x;exact Nc.lt_size e
 |tup xs=>obtain⟨_,_,_,p⟩:=x;exact p.lt
 |dK kvs=>obtain⟨_,_,_,_,o,_,_,e,_⟩:=x;exact Nc.lt_size e
 |dT kvs=>obtain⟨_,_,_,_,o,_,_,e,_⟩:=x;exact Nc.lt_size e
 |set S n=>obtain⟨o,_,_,_,e,_⟩:=x;exact Nc.lt_size e
 |ins C dx fs=>obtain⟨_,_,_,e,_⟩:=x;exact Nc.lt_size e
 |own y=>obtain⟨_,e⟩:=x;exact Nc.lt_size e
 |xd fs=>obtain⟨_,⟨_,_,_,e,_⟩,_⟩:=x;exact Nc.lt_size e
 |m6 lo hi=>obtain⟨_,_,_,e⟩:=x;exact Nc.lt_size e
 |tY ob u=>obtain⟨e,_⟩:=x;exact Nc.lt_size e
 |Fj ps=>exact Nc.lt_size (show h.get? a=some _ from x)
 |met f y=>exact Nc.lt_size (show h.get? a=some _ from x)
 |ext φ=>obtain⟨_,⟨_,e⟩,_⟩:=x;exact Nc.lt_size e
theorem Paired.rX {α β:Type}{F G:α->β->Prop}:∀{l₁:List α}{l₂:List β},Paired F l₁ l₂->(∀a b,F a b->G a b)->Paired G l₁ l₂
 |_,_,.nil,_=> .nil
 |_,_,.cons r t,f=> .cons (f _ _ r) (Paired.rX t f)
theorem bF.gM (x:bF P w H h a o)(k:∀b u,(b=a\/H b=some (.own a))->h.get? b=some u->h'.get? b=some u)
  (ho:∀b,H b=some (.own a)->H' b=some (.own a)) (ht:∀b xs,H b=some (.tup xs)->H' b=some (.tup xs)):bF P w H' h' a o:=by
 induction o with
 |lst xs=>obtain⟨z,its,n,r,e⟩:=x;exact⟨z,its,n,r,k _ _ (.inl rfl) e⟩
 |tup xs=>obtain⟨z,its,r,ob,e,c⟩:=x;exact⟨z,its,r,ob,k _ _ (.inl rfl) e,c⟩
 |dK kvs=>obtain⟨z,y,vs,r,ob,es,ep,e,c⟩:=x;exact⟨z,y,vs,r,ob,es,ep,k _ _ (.inl rfl) e,c⟩
 |dT kvs=>
  obtain⟨z,y,xs,r,ob,es,ep,e,c⟩:=x;exact⟨z,y,xs,Paired.rX r fun p q z=>⟨z.1,ht _ _ z.2.1,z.2.2⟩,ob,es,ep,k _ _ (.inl rfl) e,c⟩
 |set S n=>obtain⟨ob,es,ep,t,e,c⟩:=x;exact⟨ob,es,ep,t,k _ _ (.inl rfl) e,c⟩
 |ins C dx fs=>
  obtain⟨d,z,ne,e,mA,⟨od,es,ep,e2,c⟩,r⟩:=x;exact⟨ho _ d,z,ne,k _ _ (.inl rfl) e,mA,⟨od,es,ep,k _ _ (.inr d) e2,c⟩,r⟩
 |own y=>obtain⟨ob,e⟩:=x;exact⟨ob,k _ _ (.inl rfl) e⟩
 |xd fs=>obtain⟨mA,⟨od,es,ep,e,c⟩,r⟩:=x;exact⟨mA,⟨od,es,ep,k _ _ (.inl rfl) e,c⟩,r⟩
 |m6 lo hi=>obtain⟨t,u,v,e⟩:=x;exact⟨t,u,v,k _ _ (.inl rfl) e⟩
 |tY ob u ih=>obtain⟨e,q⟩:=x;exact⟨k _ _ (.inl rfl) e,ih q⟩
 |Fj ps=>
  have e:h.get? a=some {cls:= .none,data:= .fields ps}:=x;show h'.get? a=some {cls:= .none,data:= .fields ps};exact k a _ (.inl rfl) e
 |met f y=>
  have e:h.get? a=some (W.methodObj (.ref f) (.ref y)):=x;show h'.get? a=some (W.methodObj (.ref f) (.ref y));exact k a _ (.inl rfl) e
 |ext φ=>obtain⟨p,⟨o,e⟩,st⟩:=x;exact⟨st _ _ p fun o q=>k _ _ (.inl rfl) q,⟨o,k _ _ (.inl rfl) e⟩,st⟩
theorem jF.lt (x:jF P w H h)(e:H a=some o):a<h.objs.size:=(x a o e).lt
theorem jF.fresh (x:jF P w H h)(e:h.objs.size<=a):H a=none:=by
 cases q:H a with
 |none=>rfl
 |some u=>exact absurd (MQ (x.lt q) e) (Nat.lt_irrefl _)
theorem jF.kept (x:jF P w H h)(k:∀b u,h.get? b=some u->h'.get? b=some u):jF P w H h':=fun a o e=>
 (x a o e).gM (fun b u _ q=>k b u q) (fun _ q=>q) fun _ _ q=>q
theorem jF.laid (x:jF P w H h)(k:∀b u,h.get? b=some u->h'.get? b=some u)(hp:h.objs.size<=a)(new:bF P w (upd H a o) h' a o):jF P w (upd H a o) h':=fun b u e=>by
 have hn:=x.fresh hp;by_cases hb:b=a
 .subst hb;rw[ae]at e;cases e;exact new
 .rw[aq hb]at e
  exact(x b u e).gM (fun c v _ q=>k c v q) (fun c q=>by rw[aq (ao q hn)];exact q) fun c xs q=>by rw[aq (ao q hn)];exact q
end
def Rd(H:Hp)(a:MY)(u:HO):Prop:=H a=some u\/∃o,H a=some (.tY o u)
theorem Rd.ok {P:M0}{w:M3}{H:Hp}{h:Nc}{a:MY}{u:HO}(r:Rd H a u)(x:jF P w H h):bF P w H h a u:=by
 rcases r with r|⟨o,r⟩
 .exact x a u r
 .obtain⟨_,q⟩:=x a _ r
  exact q
def Jh:Option HO->Prop
 |some (.lst _)=>True
 |some (.dK _)=>True
 |some (.dT _)=>True
 |some (.set _ _)=>True
 |some (.ins _ _ _)=>True
 |some (.ext _)=>True
 |_=>False
section
variable{P:M0}{w:M3}{H:Hp}{h h':Nc}{x e:MY}{o':HO}
theorem jF.write (ok:jF P w H h)(mu:Jh (H x))(he:e=x\/H e=some (.own x))(k:∀b u,b≠e->h.get? b=some u->h'.get? b=some u)(heo:∃u,h'.get? e=some u)
  (new:bF P w (upd H x o') h' x o'):jF P w (upd H x o') h':=fun b u q=>by
 have nown:∀c y,H c=some (.own y)->c≠x:=fun c y r z=>by subst z;rw[r]at mu;exact mu
 have ntup:∀c xs,H c=some (.tup xs)->c≠x:=fun c xs r z=>by subst z;rw[r]at mu;exact mu
 by_cases hb:b=x
 .subst hb;rw[ae]at q;cases q;exact new
 .rw[aq hb]at q
  by_cases hbe:b=e
  .have q':H b=some (.own x):=by
    rcases he with z|z
    .exact absurd (hbe.trans z) hb
    .rw[hbe];exact z
   rw[q]at q';cases q';obtain⟨v,hv⟩:=heo;exact⟨v,by rw[hbe];exact hv⟩
  .refine(ok b u q).gM (fun c v hc r=>k c v ?_ r) (fun c r=>by rw[aq (nown c b r)];exact r) fun c xs r=>by rw[aq (ntup c xs r)];exact r
   rcases hc with rfl|hc
   .exact hbe
   .rintro rfl
    rcases he with z|z
    .exact nown c b hc z
    .rw[hc]at z;cases z;exact hb rfl
end
structure Un(fs ex:List MY)(H H':Hp)(h h':Nc):Prop where
 keep:∀b o,h.get? b=some o->H b=none->b∉fs->b∉ex->h'.get? b=some o
 slot:∀b o,h.get? b=some o->H b=none->b∈fs->b∉ex->∃sl,h'.get? b=some {o with slots:=sl}
 free:∀b o,h.get? b=some o->H b=none->b∉ex->H' b=none
 there:∀b o,h.get? b=some o->b∉ex->∃o',h'.get? b=some o'
 bH:∀b xs,H b=some (.tup xs)->H' b=some (.tup xs)
 iy:∀b o u,H b=some (.tY o u)->H' b=some (.tY o u)
 iN:∀b ps,H b=some (.Fj ps)->∃more,H' b=some (.Fj (ps++more))
section
variable{fs fs' ex ex':List MY}{H H1 H2:Hp}{h h1 h2 h':Nc}{a x e:MY}{o:HO}
theorem Un.any (u:Un fs ex H H1 h h1){b:MY}{ob:Obj}(q:h.get? b=some ob)(n:H b=none)(hx:b∉ex):∃sl,h1.get? b=some {ob with slots:=sl}:=by
 by_cases hb:b∈fs
 .exact u.slot b ob q n hb hx
 .exact⟨ob.slots,u.keep b ob q n hb hx⟩
theorem Un.kept (k:∀b u,h.get? b=some u->h'.get? b=some u):Un fs ex H H h h':=
 ⟨fun b ob q _ _ _=>k b ob q,fun b ob q _ _ _=>⟨ob.slots,k b ob q⟩,fun _ _ _ n _=>n,fun b ob q _=>⟨ob,k b ob q⟩,fun _ _ q=>q,fun _ _ _ q=>q,fun _ ps q=>⟨#[],by rw[q];simp⟩⟩
theorem Un.refl:Un fs ex H H h h:=Un.kept fun _ _ q=>q
theorem Un.laid (k:∀b u,h.get? b=some u->h'.get? b=some u)(hp:h.objs.size<=a)(hn:H a=none):Un fs ex H (upd H a o) h h' where
 keep:=fun b u q _ _ _=>k b u q
 slot:=fun b u q _ _ _=>⟨u.slots,k b u q⟩
 free:=fun b u q n _=>by rw[aq (MR (MQ (Nc.lt_size q) hp))];exact n
 there:=fun b u q _=>⟨u,k b u q⟩
 bH:=fun b xs q=>by rw[aq (ao q hn)];exact q
 iy:=fun b u xs q=>by rw[aq (ao q hn)];exact q
 iN:=fun b ps q=>⟨#[],by rw[aq (ao q hn),q];simp⟩
theorem Un.write (mu:Jh (H x))(he:e=x\/H e=some (.own x))(k:∀b u,b≠e->h.get? b=some u->h'.get? b=some u)(heo:∃u,h'.get? e=some u):Un fs ex H (upd H x o) h h':=by
 have hx:∀b,H b=none->b≠x:=fun b n z=>by subst z;rw[n]at mu;exact mu
 have hb:∀b,H b=none->b≠e:=fun b n z=>by
  subst z;rcases he with r|r
  .exact hx b n r
  .rw[n]at r;cases r
 have hm:∀b u,H b=some u->¬Jh (some u)->b≠x:=fun b u q nm z=>by subst z;rw[q]at mu;exact nm mu
 refine⟨fun b u q n _ _=>k b u (hb b n) q,fun b u q n _ _=>⟨u.slots,k b u (hb b n) q⟩,fun b u q n _=>by rw[aq (hx b n)];exact n,fun b u q _=>?_,
  fun b xs q=>by rw[aq (hm b _ q fun z=>z)];exact q,fun b u xs q=>by rw[aq (hm b _ q fun z=>z)];exact q,fun b ps q=>⟨#[],by rw[aq (hm b _ q fun z=>z),q];simp⟩⟩
 by_cases hbe:b=e
 .subst hbe;exact heo
 .exact⟨u,k b u hbe q⟩
end
def tN(h:Nc)(H:Hp):List MY:=(List.range h.objs.size).filter fun a=>(H a).isSome
def sZ(h:Nc)(H:Hp):Nc:=W.hideAll h (tN h H)
theorem y6(h:Nc)(H:Hp):(sZ h H).objs.size=h.objs.size:=W.hideAll_size _ _
theorem A0{h:Nc}{H:Hp}{b:MY}{o:Obj}(e:h.get? b=some o)(n:H b=none):(sZ h H).get? b=some o:=
 W.hideAll_get _ e fun hm=>by
  have q:(H b).isSome=true:=(List.mem_filter.mp hm).2;rw[n]at q;simp at q
theorem Dw{h:Nc}{H:Hp}{b:MY}{o:Obj}(e:(sZ h H).get? b=some o):h.get? b=some o/\H b=none:=by
 have e':h.get? b=some o:=W.of_hideAll (tN h H) e;refine⟨e',?_⟩
 cases q:H b with
 |none=>rfl
 |some x=>
  have hm:b∈tN h H:=List.mem_filter.mpr ⟨List.mem_range.mpr (Nc.lt_size e'),by simp[q]⟩;have z:(sZ h H).get? b=none:=W.hideAll_none (tN h H) hm;rw[z]at e;cases e
structure Mod(K:W.Frag)(mg:Str->Option MX)(base:Nc):Prop where
 De:K.In base
 glob:base.Ns M6 mg
 blt:∃mb,base.Ns builtinsNs mb/\∀x:Str,x≠"__name__"->mb x=bootBuiltins x
 nolimit:base.NoLimit
structure Cx where
 prog:M0
 w:M3
 K:W.Frag
 mg:Str->Option MX
 base:Nc
 A:M4
 N:List Str
 s₀:MZ
 H₀:Hp
 env:Env
 outer:List Env
 stack:List Env
 ex:List MY
 fn:Str->Bool
 calm:Bool
 pn:List (MY×Obj)
 xe:MX->MZ->Prop
def fV(l:List Env):List MY:=l.filterMap (·.frame)
abbrev Cx.fs (X:Cx):List MY:=fV X.outer
def Kt(sc:Scope)(x:Str):Prop:=sc.names.lookup x=some .local\/sc.names.lookup x=some .cell\/sc.names.lookup x=some .free
def Loc(sc:Scope)(x:Str):Prop:=sc.names.lookup x=some .local\/sc.names.lookup x=some .cell
def Look(env:Env)(h:Nc)(m:Str->Option MX)(x:Str)(u:MX):Prop:=
 (env.kindOf x=some .local/\m x=some u)\/((env.kindOf x=some .cell\/env.kindOf x=some .free)/\∃c,env.cells.lookup x=some c/\h.IsCell c (some u))
structure Cx.Ok (X:Cx):Prop where
 mod:Mod X.K X.mg X.base
 kind:X.env.scope.kind= .function
 glob:X.env.globals=M6
 blt:X.env.builtins=builtinsNs
 above:X.s₀.heap.objs.size<=X.env.locals
 inj:∀x y c,X.env.cells.lookup x=some c->X.env.cells.lookup y=some c->x=y
 has:∀x,(X.env.kindOf x=some .cell\/X.env.kindOf x=some .free)->∃c,X.env.cells.lookup x=some c
 Ca:∀x c,X.fn x=true->X.env.cells.lookup x=some c->X.s₀.heap.objs.size<=c
 hd:X.calm=true->X.A.handled=none
 frames:X.A.frames=some X.stack
 Ar:X.stack=X.outer\/(X.stack=X.env::X.outer/\X.env.frame=some X.env.locals)
 Fq:∀b∈X.ex,b≠X.env.locals/\∀x c,X.env.cells.lookup x=some c->c≠b
 bs:∀b o,X.base.get? b=some o->X.s₀.heap.get? b=some o/\X.H₀ b=none
 yF:X.base.objs.size<=X.s₀.heap.objs.size
 oJ:∀b o,X.base.get? b=some o->b∉X.ex
 pZ:∀b∈X.ex,b∉X.fs
 iq:X.s₀.heap.FunFrames X.base X.outer
 nY:∀b∈X.fs,X.H₀ b=none
structure Inv(X:Cx)(pins:List (MY×Obj))(σ:List (Option V))(H:Hp)(s:MZ):Prop where
 ok:X.Ok
 os:s.os=X.s₀.os
 bare:AllBare s.gens
 base:Un X.fs X.ex X.H₀ H X.s₀.heap s.heap
 loc:∃m,s.heap.Ns X.env.locals m/\∀(i:Nat)(x:Str)(v:V),X.N[i]?=some x->σ[i]?=some (some v)->Kt X.env.scope x->∃u,RelV v u/\Look X.env s.heap m x u
 cell:∀x c,X.env.cells.lookup x=some c->∃v,s.heap.IsCell c v
 free:H X.env.locals=none
 eX:∀x c,X.env.cells.lookup x=some c->H c=none
 pin:∀p∈X.pn++pins,s.heap.get? p.1=some p.2/\H p.1=none/\p.1≠X.env.locals/\p.1∉X.fs/\∀v,p.2.data≠.cell v
 aX:jF X.prog X.w H s.heap
 len:σ.length=X.N.length
section
variable{X:Cx}{pins:List (MY×Obj)}{σ:List (Option V)}{H H':Hp}{s:MZ}{h':Nc}
theorem Cx.Ok.Ln (ok:X.Ok){b:MY}{o:Obj}(e:X.base.get? b=some o):b∉X.fs:=fun hb=>by
 have:=(ok.iq.mem hb).1;rw[e]at this;cases this
theorem Inv.bs (I:Inv X pins σ H s):∀b o,X.base.get? b=some o->s.heap.get? b=some o/\H b=none:=fun b o e=>
 ⟨I.base.keep b o (I.ok.bs b o e).1 (I.ok.bs b o e).2 (I.ok.Ln e) (I.ok.oJ b o e),I.base.free b o (I.ok.bs b o e).1 (I.ok.bs b o e).2 (I.ok.oJ b o e)⟩
theorem Inv.bk (I:Inv X pins σ H s):∀b o,X.base.get? b=some o->s.heap.get? b=some o:=fun b o e=>(I.bs b o e).1
theorem Inv.mod (I:Inv X pins σ H s):Mod X.K X.mg X.base:=I.ok.mod
theorem Inv.jr (I:Inv X pins σ H s):X.K.In s.heap:=I.ok.mod.De.keeps I.bk
theorem Inv.lt (I:Inv X pins σ H s):X.env.locals<s.heap.objs.size:=let⟨_,hn,_⟩:=I.loc;hn.lt
theorem Inv.sz (I:Inv X pins σ H s):X.s₀.heap.objs.size<=s.heap.objs.size:=MS I.ok.above (Nat.le_of_lt I.lt)
theorem Inv.JY (I:Inv X pins σ H s){a:MY}(h:s.heap.objs.size<=a):a∉X.fs:=fun hb=>by
 obtain⟨_,o,ho,_⟩:=I.ok.iq.mem hb;exact absurd (MQ (Nc.lt_size ho) (MS I.sz h)) (Nat.lt_irrefl _)
theorem Inv.Ax (I:Inv X pins σ H s):∀x c,X.env.cells.lookup x=some c->c≠X.env.locals:=fun x c e z=>by
 obtain⟨v,o,ho,hd⟩:=I.cell x c e;obtain⟨m,⟨o',es,ep,ho',hd',_⟩,_⟩:=I.loc;rw[z,ho']at ho;cases ho;rw[hd']at hd;cases hd
theorem Inv.iq (I:Inv X pins σ H s):s.heap.FunFrames X.base X.outer:=by
 have all:∀(l:List Env),(∀b∈fV l,b∈X.fs)->X.s₀.heap.FunFrames X.base l->s.heap.FunFrames X.base l:=by
  intro l
  induction l with
  |nil=>intro _ _;trivial
  |cons env r ih=>
   intro hs hl;obtain⟨hk,⟨L,o,hf,hn,ho,hd⟩,hr⟩:=hl;have hL:L∈X.fs:=hs L (by unfold fV;rw[List.filterMap_cons,hf];exact MG);obtain⟨sl,e⟩:=I.base.slot L o ho (I.ok.nY L hL) hL fun z=>I.ok.pZ L z hL;exact⟨hk,⟨L,_,hf,hn,e,hd⟩,ih (fun b hb=>hs b (by unfold fV;rw[List.filterMap_cons,hf];exact MH _ hb)) hr⟩
 exact all X.outer (fun _ hb=>hb) I.ok.iq
theorem Inv.stack (I:Inv X pins σ H s):s.heap.FunFrames X.base X.stack:=by
 rcases I.ok.Ar with e|⟨e,hf⟩
 .rw[e];exact I.iq
 .rw[e]
  obtain⟨m,hn,_⟩:=I.loc;refine .cons (by rw[I.ok.kind];decide) hf hn ?_ I.iq;exact Nc.get?_none_of_le (MS I.ok.yF I.ok.above)
theorem Inv.i7 (I:Inv X pins σ H s):∀b∈fV X.stack,b∈X.env.locals::X.fs:=fun b hb=>by
 rcases I.ok.Ar with e|⟨e,hf⟩
 .rw[e]at hb;exact MH _ hb
 .rw[e]at hb
  unfold fV at hb;rw[List.filterMap_cons,hf]at hb;exact hb
theorem Inv.nU (I:Inv X pins σ H s):∀b∈fV X.stack,H b=none:=fun b hb=>by
 rcases List.mem_cons.mp (I.i7 b hb)with e|hb
 .rw[e];exact I.free
 .obtain⟨_,o,ho,_⟩:=I.ok.iq.mem hb
  exact I.base.free b o ho (I.ok.nY b hb) fun z=>I.ok.pZ b z hb
theorem Inv.step {g':Array GenState}{t':Nat}{d':Drawn}{ch:List MY}(I:Inv X pins σ H s)
  (hch:∀b∈ch,(b∈X.ex\/X.s₀.heap.objs.size<=b)/\b≠X.env.locals/\(∀x c,X.env.cells.lookup x=some c->c≠b)/\∀p∈X.pn++pins,p.1≠b)
  (keep:∀b o,b≠X.env.locals->b∉X.fs->b∉ch->s.heap.get? b=some o->H b=none->h'.get? b=some o)
  (slot:∀b o,b≠X.env.locals->b∈X.fs->b∉ch->s.heap.get? b=some o->H b=none->∃sl,h'.get? b=some {o with slots:=sl}) (free:∀b o,b∉ch->s.heap.get? b=some o->H b=none->H' b=none)
  (there:∀b o,b∉ch->s.heap.get? b=some o->∃o',h'.get? b=some o')
  (bH:∀b xs,H b=some (.tup xs)->H' b=some (.tup xs)) (iy:∀b o u,H b=some (.tY o u)->H' b=some (.tY o u)) (iN:∀b ps,H b=some (.Fj ps)->∃more,H' b=some (.Fj (ps++more)))
  (ns:∀m,s.heap.Ns X.env.locals m->h'.Ns X.env.locals m) (aX:jF X.prog X.w H' h') (hg:AllBare g'):
  Inv X pins σ H' {s with heap:=h',gens:=g',drawn:=d',toks:=t'}:=by
 have neL:∀b o,X.s₀.heap.get? b=some o->b≠X.env.locals:=fun b o e=>MR (MQ (Nc.lt_size e) I.ok.above);have neC:∀b o,X.s₀.heap.get? b=some o->b∉X.ex->b∉ch:=fun b o e hx hb=>by
  rcases(hch b hb).1 with z|z
  .exact hx z
  .exact absurd (MQ (Nc.lt_size e) z) (Nat.lt_irrefl _)
 have cellK:∀x c,X.env.cells.lookup x=some c->∀v,s.heap.IsCell c v->h'.IsCell c v:=fun x c e v ⟨o,ho,hd⟩=>by
  have nch:c∉ch:=fun z=>(hch c z).2.2.1 x c e rfl;by_cases hc:c∈X.fs
  .obtain⟨sl,q⟩:=slot c o (I.Ax x c e) hc nch ho (I.eX x c e)
   exact⟨_,q,hd⟩
  .exact⟨o,keep c o (I.Ax x c e) hc nch ho (I.eX x c e),hd⟩
 refine⟨I.ok,I.os,hg,⟨fun b o e n hb hx=>?_,fun b o e n hb hx=>?_,fun b o e n hx=>?_,fun b o e hx=>?_,fun b xs e=>bH b xs (I.base.bH b xs e),fun b o xs e=>iy b o xs (I.base.iy b o xs e),fun b ps e=>?_⟩,?_,fun x c e=>?_,?_,fun x c e=>?_,fun p hp=>?_,aX,I.len⟩
 .exact keep b o (neL b o e) hb (neC b o e hx) (I.base.keep b o e n hb hx) (I.base.free b o e n hx)
 .obtain⟨sl,e1⟩:=I.base.slot b o e n hb hx
  obtain⟨sl',e2⟩:=slot b _ (neL b o e) hb (neC b o e hx) e1 (I.base.free b o e n hx);exact⟨sl',e2⟩
 .obtain⟨o',e1⟩:=I.base.there b o e hx
  exact free b o' (neC b o e hx) e1 (I.base.free b o e n hx)
 .obtain⟨o',e1⟩:=I.base.there b o e hx
  exact there b o' (neC b o e hx) e1
 .obtain⟨m1,e1⟩:=I.base.iN b ps e
  obtain⟨m2,e2⟩:=iN b _ e1;exact⟨m1++m2,by rw[e2,Array.append_assoc]⟩
 .obtain⟨m,hn,hl⟩:=I.loc
  refine⟨m,ns m hn,fun i x v e1 e2 e3=>?_⟩;obtain⟨u,r,l⟩:=hl i x v e1 e2 e3;refine⟨u,r,?_⟩;rcases l with l|⟨k,c,e,z⟩
  .exact .inl l
  .exact .inr ⟨k,c,e,cellK x c e _ z⟩
 .obtain⟨v,z⟩:=I.cell x c e
  exact⟨v,cellK x c e v z⟩
 .obtain⟨m,⟨o,_,_,ho,_⟩,_⟩:=I.loc
  exact free _ o (fun z=>(hch _ z).2.1 rfl) ho I.free
 .obtain⟨v,o,ho,hd⟩:=I.cell x c e
  exact free c o (fun z=>(hch c z).2.2.1 x c e rfl) ho (I.eX x c e)
 .obtain⟨e,n,ne,nf,d⟩:=I.pin p hp
  have nch:p.1∉ch:=fun z=>(hch p.1 z).2.2.2 p hp rfl;exact⟨keep p.1 p.2 ne nf nch e n,free p.1 p.2 nch e n,ne,nf,d⟩
theorem Inv.un {t':Nat}(I:Inv X pins σ H s)(u:Un X.fs [] H H' s.heap h')(aX:jF X.prog X.w H' h'):Inv X pins σ H' {s with heap:=h',toks:=t'}:=by
 obtain⟨m,⟨o,es,ep,ho,r⟩,_⟩:=id I.loc;obtain⟨sl,hL⟩:=u.any ho I.free (by simp);exact I.step (g':=s.gens) (d':=s.drawn) (ch:=[]) (fun _ z=>nomatch z) (fun b o _ hb _ e n=>u.keep b o e n hb (by simp)) (fun b o _ hb _ e n=>u.slot b o e n hb (by simp)) (fun b o _ e n=>u.free b o e n (by simp)) (fun b o _ e=>u.there b o e (by simp)) u.bH u.iy u.iN (fun m' hm=>by
  obtain⟨o',es',ep',ho',r'⟩:=hm;rw[ho]at ho';cases ho';exact⟨_,es',ep',hL,r'⟩) aX I.bare
theorem Inv.call {g':Array GenState}{t':Nat}{d':Drawn}{ch:List MY}(I:Inv X pins σ H s)(u:Un (fV X.stack) ch H H' s.heap h')(aX:jF X.prog X.w H' h')(hg:AllBare g')
  (hch:∀b∈ch,(b∈X.ex\/X.s₀.heap.objs.size<=b)/\b≠X.env.locals/\(∀x c,X.env.cells.lookup x=some c->c≠b)/\∀p∈X.pn++pins,p.1≠b):
  Inv X pins σ H' {s with heap:=h',gens:=g',drawn:=d',toks:=t'}:=by
 obtain⟨m,⟨o,es,ep,ho,r⟩,_⟩:=id I.loc;obtain⟨sl,hL⟩:=u.any ho I.free fun z=>(hch _ z).2.1 rfl;exact I.step (ch:=ch) hch (fun b o hL hb hc e n=>u.keep b o e n (fun z=>(List.mem_cons.mp (I.i7 b z)).elim hL hb) hc) (fun b o _ _ hc e n=>u.any e n hc) (fun b o hc e n=>u.free b o e n hc) (fun b o hc e=>u.there b o e hc) u.bH u.iy u.iN (fun m' hm=>by
  obtain⟨o',es',ep',ho',r'⟩:=hm;rw[ho]at ho';cases ho';exact⟨_,es',ep',hL,r'⟩) aX hg
theorem Inv.turned {t':Nat}{it:MY}(I:Inv X pins σ H s)(k:∀b o,b≠it->s.heap.get? b=some o->h'.get? b=some o)(hn:H it=none)(hL:it≠X.env.locals)
  (h1:it∈X.ex\/X.s₀.heap.objs.size<=it) (h2:∀x c,X.env.cells.lookup x=some c->c≠it) (h3:∀p∈X.pn++pins,p.1≠it):Inv X pins σ H {s with heap:=h',toks:=t'}:=by
 have nit:∀b u,H b=some u->b≠it:=fun b u e z=>by rw[z,hn]at e;cases e
 refine I.step (g':=s.gens) (d':=s.drawn) (ch:=[it]) (fun b hb=>?_) (fun b o _ _ hc e _=>k b o (fun z=>hc (by simp[z])) e) (fun b o _ _ hc e _=>⟨o.slots,k b o (fun z=>hc (by simp[z])) e⟩) (fun _ _ _ _ n=>n)
  (fun b o hc e=>⟨o,k b o (fun z=>hc (by simp[z])) e⟩) (fun _ _ e=>e) (fun _ _ _ e=>e) (fun b ps e=>⟨#[],by rw[e];simp⟩) (fun m hm=>?_) (fun b u e=>?_) I.bare
 .have e:b=it:=by simpa using hb
  subst e;exact⟨h1,hL,h2,h3⟩
 .obtain⟨o,es,ep,ho,r⟩:=hm
  exact⟨o,es,ep,k _ o (Ne.symm hL) ho,r⟩
 .refine(I.aX b u e).gM (fun c v hc q=>k c v ?_ q) (fun _ q=>q) fun _ _ q=>q
  rcases hc with z|z
  .rw[z];exact nit b u e
  .exact nit c _ z
theorem Inv.tok (I:Inv X pins σ H s)(t:Nat):Inv X pins σ H {s with toks:=t}:=I.un (h':=s.heap) (t':=t) Un.refl I.aX
theorem Inv.kept {t':Nat}(I:Inv X pins σ H s)(k:∀b u,s.heap.get? b=some u->h'.get? b=some u):Inv X pins σ H {s with heap:=h',toks:=t'}:=I.un (Un.kept k) (I.aX.kept k)
theorem Inv.laid {a:MY}{o:HO}{t':Nat}(I:Inv X pins σ H s)(k:∀b u,s.heap.get? b=some u->h'.get? b=some u)(hp:s.heap.objs.size<=a)(new:bF X.prog X.w (upd H a o) h' a o):
  Inv X pins σ (upd H a o) {s with heap:=h',toks:=t'}:=I.un (Un.laid k hp (I.aX.fresh hp)) (I.aX.laid k hp new)
theorem Inv.write {x e:MY}{o:HO}{t':Nat}(I:Inv X pins σ H s)(mu:Jh (H x))(he:e=x\/H e=some (.own x))(k:∀b u,b≠e->s.heap.get? b=some u->h'.get? b=some u)(heo:∃u,h'.get? e=some u)
  (new:bF X.prog X.w (upd H x o) h' x o):Inv X pins σ (upd H x o) {s with heap:=h',toks:=t'}:=I.un (Un.write mu he k heo) (I.aX.write mu he k heo new)
theorem Inv.nJ {pins':List (MY×Obj)}(I:Inv X pins σ H s)(h:∀p∈pins',s.heap.get? p.1=some p.2/\H p.1=none/\p.1≠X.env.locals/\p.1∉X.fs/\∀v,p.2.data≠.cell v):Inv X pins' σ H s:=
 ⟨I.ok,I.os,I.bare,I.base,I.loc,I.cell,I.free,I.eX,fun p hp=>(List.mem_append.mp hp).elim (fun z=>I.pin p (MK _ z)) (h p),I.aX,I.len⟩
theorem oM{N:List Str}(hN:N.Nodup){i j:Nat}{x:Str}(a:N[i]?=some x)(b:N[j]?=some x):i=j:=by
 obtain⟨h1,e1⟩:=List.getElem?_eq_some_iff.mp a;obtain⟨h2,e2⟩:=List.getElem?_eq_some_iff.mp b;exact(List.getElem_inj hN).mp (e1.trans e2.symm)
theorem mz{M:Model}{A:M4}{E:MX->MZ->Prop}{i:Nat}{x:Str}{v:V}{u:MX}{Q:Unit->MZ->Prop}(I:Inv X pins σ H s)(hN:X.N.Nodup)(hi:X.N[i]?=some x)(hx:Loc X.env.scope x)(r:RelV v u)
  (h:∀s',Inv X pins (σ.set i (some v)) H s'->(∃a,Nc.SameBut a s.heap s'.heap/\(a=X.env.locals\/X.env.cells.lookup x=some a))->Q () s') (hf:X.fn x=true\/X.env.scope.names.lookup x=some .local:=by first|exact .inl rfl|exact .inr rfl|assumption):Nf M A (storeName X.env x u) Q E s:=by
 obtain⟨m,hn,hl⟩:=id I.loc;have hcls:(X.env.scope.kind== .class||(X.env.scope.kind== .module&&X.env.locals !=X.env.globals))=false:=by rw[I.ok.kind];rfl
 have hiσ:i<σ.length:=by rw[I.len];exact(List.getElem?_eq_some_iff.mp hi).1
 have Ax:=I.Ax;have tracked:∀{a:MY}{h':Nc},(∃o,s.heap.get? a=some o/\H a=none)->Nc.SameBut a s.heap h'->jF X.prog X.w H h':=fun{a h'} ha hs b ob e=>by
  obtain⟨_,_,hfree⟩:=ha;refine(I.aX b ob e).gM (fun c w' hc q=>(hs.2 c ?_).trans q) (fun _ q=>q) fun _ _ q=>q;rintro rfl;rcases hc with rfl|hc
  .rw[hfree]at e;cases e
  .rw[hfree]at hc;cases hc
 rcases hx with hk|hk
 .refine wpAny_storeName_local hk hn (fun h' hn' hs=>?_) hcls
  obtain⟨oL,_,_,hoL,_⟩:=id hn;refine h _ ⟨I.ok,I.os,I.bare,⟨fun b o e n hb hx=>?_,fun b o e n hb hx=>?_,I.base.free,fun b o e hx=>?_,I.base.bH,I.base.iy,I.base.iN⟩,⟨_,hn',fun j y v' e1 e2 e3=>?_⟩,fun y c e=>?_,I.free,I.eX,fun p hp=>?_,tracked ⟨oL,hoL,I.free⟩ hs,by simpa using I.len⟩ ⟨_,hs,.inl rfl⟩
  .exact(hs.2 b (MR (MQ (Nc.lt_size e) I.ok.above))).trans (I.base.keep b o e n hb hx)
  .obtain⟨sl,e1⟩:=I.base.slot b o e n hb hx
   exact⟨sl,(hs.2 b (MR (MQ (Nc.lt_size e) I.ok.above))).trans e1⟩
  .obtain⟨o',e1⟩:=I.base.there b o e hx
   exact⟨o',(hs.2 b (MR (MQ (Nc.lt_size e) I.ok.above))).trans e1⟩
  .by_cases hj:j=i
   .subst hj
    rw[hi]at e1;cases e1;rw[List.getElem?_set_self hiσ]at e2;cases e2;exact⟨u,r,.inl ⟨hk,by simp⟩⟩
   .rw[List.getElem?_set_ne (Ne.symm hj)]at e2
    obtain⟨u',r',q⟩:=hl j y v' e1 e2 e3;refine⟨u',r',?_⟩;rcases q with⟨k,e⟩|⟨k,c,e,z⟩
    .refine .inl ⟨k,?_⟩
     have:y≠x:=fun e=>hj (oM hN e1 (e▸hi));simp[this,e]
    .exact .inr ⟨k,c,e,z.sameBut hs (Ax y c e)⟩
  .obtain⟨w',z⟩:=I.cell y c e
   exact⟨w',z.sameBut hs (Ax y c e)⟩
  .obtain⟨e,n,ne,nf,d⟩:=I.pin p hp
   exact⟨(hs.2 p.1 ne).trans e,n,ne,nf,d⟩
 .have hfn:X.fn x=true:=by
   rcases hf with z|z
   .exact z
   .rw[z]at hk;cases hk
  obtain⟨c,hc⟩:=I.ok.has x (.inl hk);obtain⟨w',z⟩:=I.cell x c hc;refine wpAny_storeName_cell I.ok.kind hk hc z (fun h' hc' hs=>?_);obtain⟨oc,hoc,hocd⟩:=id z;refine h {s with heap:=h'} ⟨I.ok,I.os,I.bare,⟨fun b o e n hb hx=>?_,fun b o e n hb hx=>?_,I.base.free,fun b o e hx=>?_,I.base.bH,I.base.iy,I.base.iN⟩,⟨m,hn.sameBut hs (Ne.symm (Ax x c hc)),fun j y v' e1 e2 e3=>?_⟩,fun y c' e=>?_,I.free,I.eX,fun p hp=>?_,tracked ⟨oc,hoc,I.eX x c hc⟩ hs,by simpa using I.len⟩ ⟨c,hs,.inr hc⟩
  .exact(hs.2 b (MR (MQ (Nc.lt_size e) (I.ok.Ca x c hfn hc)))).trans (I.base.keep b o e n hb hx)
  .obtain⟨sl,e1⟩:=I.base.slot b o e n hb hx
   exact⟨sl,(hs.2 b (MR (MQ (Nc.lt_size e) (I.ok.Ca x c hfn hc)))).trans e1⟩
  .obtain⟨o',e1⟩:=I.base.there b o e hx
   exact⟨o',(hs.2 b (MR (MQ (Nc.lt_size e) (I.ok.Ca x c hfn hc)))).trans e1⟩
  .by_cases hj:j=i
   .subst hj
    rw[hi]at e1;cases e1;rw[List.getElem?_set_self hiσ]at e2;cases e2;exact⟨u,r,.inr ⟨.inl hk,c,hc,hc'⟩⟩
   .rw[List.getElem?_set_ne (Ne.symm hj)]at e2
    obtain⟨u',r',q⟩:=hl j y v' e1 e2 e3;refine⟨u',r',?_⟩;rcases q with q|⟨k,c',e,z'⟩
    .exact .inl q
    .refine .inr ⟨k,c',e,z'.sameBut hs ?_⟩
     rintro rfl;exact hj (oM hN e1 (I.ok.inj _ _ _ e hc▸hi))
  .by_cases hcc:c'=c
   .subst hcc;exact⟨_,hc'⟩
   .obtain⟨w2,z2⟩:=I.cell y c' e
    exact⟨w2,z2.sameBut hs hcc⟩
  .obtain⟨e,n,ne,nf,d⟩:=I.pin p hp
   refine⟨(hs.2 p.1 ?_).trans e,n,ne,nf,d⟩;intro q;rw[q,hoc]at e;have q':oc=p.2:=MV e;exact d w' (by rw[←q'];exact hocd)
theorem fK{M:Model}{A:M4}{E:MX->MZ->Prop}{i:Nat}{x:Str}{v:V}{u:MX}{Q:Unit->MZ->Prop}(I:Inv X pins σ H s)(hN:X.N.Nodup)(hi:X.N[i]?=some x)(hx:Loc X.env.scope x)(r:RelV v u)
  (h:∀s',Inv X pins (σ.set i (some v)) H s'->Q () s') (hf:X.fn x=true\/X.env.scope.names.lookup x=some .local:=by first|exact .inl rfl|exact .inr rfl|assumption):Nf M A (storeName X.env x u) Q E s:=
 mz I hN hi hx r (fun s' I' _=>h s' I') hf
theorem Inv.B3 {s':MZ}{ch:List MY}(I:Inv X pins σ H s)(ho:s'.os=s.os)(u:Un (fV X.stack) ch H H' s.heap s'.heap)(aX:jF X.prog X.w H' s'.heap)(hg:AllBare s'.gens)
  (hch:∀b∈ch,(b∈X.ex\/X.s₀.heap.objs.size<=b)/\b≠X.env.locals/\(∀x c,X.env.cells.lookup x=some c->c≠b)/\∀p∈X.pn++pins,p.1≠b):Inv X pins σ H' s':=by
 obtain⟨h',g',d',t',o'⟩:=s';have e:o'=s.os:=ho;subst e;exact I.call (g':=g') (t':=t') (d':=d') u aX hg hch
end
abbrev XK:=MX->Option MY->Hp->Prop
abbrev St:=List (Option V)
abbrev VK:=V->Hp->Prop
abbrev TE:=St->Hp->VK->Prop
abbrev TT:=St->Hp->(Bool->Hp->Prop)->Prop
abbrev TA:=St->Hp->(List V->Hp->Prop)->Prop
structure Ends where
 nx:St->Hp->Prop
 rt:VK
 bk:St->Hp->Prop:=fun _ _=>False
 ct:St->Hp->Prop:=fun _ _=>False
abbrev TS:=Ends->St->Hp->Prop
def EP(X:Cx)(pins:List (MY×Obj))(σ:St)(Q:VK)(u:MX)(s':MZ):Prop:=∃v H',Inv X pins σ H' s'/\RelV v u/\Q v H'
def TP(X:Cx)(pins:List (MY×Obj))(σ:St)(Q:Bool->Hp->Prop)(b:Bool)(s':MZ):Prop:=∃H',Inv X pins σ H' s'/\Q b H'
def AP(X:Cx)(pins:List (MY×Obj))(σ:St)(Q:List V->Hp->Prop)(us:List MX)(s':MZ):Prop:=∃vs H',Inv X pins σ H' s'/\Vals vs us/\Q vs H'
def SP(X:Cx)(pins:List (MY×Obj))(D:Ends)(f:Flow)(s':MZ):Prop:=
 match f with
 | .next=>∃σ' H',Inv X pins σ' H' s'/\D.nx σ' H'
 | .brk=>∃σ' H',Inv X pins σ' H' s'/\D.bk σ' H'
 | .cont=>∃σ' H',Inv X pins σ' H' s'/\D.ct σ' H'
 | .ret u=>∃v σ' H',Inv X pins σ' H' s'/\RelV v u/\D.rt v H'
def PE(X:Cx)(e:Expr)(t:TE):Prop:=
 ∀(pins:List (MY×Obj))(s:MZ)(σ:St)(H:Hp)(Q:VK),Inv X pins σ H s->t σ H Q->Nf (model X.prog X.w) X.A (eval e X.env) (EP X pins σ Q) X.xe s
def PT(X:Cx)(e:Expr)(t:TT):Prop:=
 ∀(pins:List (MY×Obj))(s:MZ)(σ:St)(H:Hp)(Q:Bool->Hp->Prop),Inv X pins σ H s->t σ H Q->Nf (model X.prog X.w) X.A (isTrue e X.env (eval e X.env)) (TP X pins σ Q) X.xe s
def PW(X:Cx)(e:Expr)(t:TT):Prop:=
 ∀(whole:Sem MX)(pins:List (MY×Obj))(s:MZ)(σ:St)(H:Hp)(Q:Bool->Hp->Prop),Inv X pins σ H s->t σ H Q->Nf (model X.prog X.w) X.A (isTrue e X.env whole) (TP X pins σ Q) X.xe s
theorem PW.pt {X:Cx}{e:Expr}{t:TT}(h:PW X e t):PT X e t:=h _
def PA(X:Cx)(es:List Expr)(t:TA):Prop:=
 ∀(pos:Pos)(pins:List (MY×Obj))(s:MZ)(σ:St)(H:Hp)(Q:List V->Hp->Prop),Inv X pins σ H s->t σ H Q->Nf (model X.prog X.w) X.A (spliced (Nd pos (Na es X.env))) (AP X pins σ Q) X.xe s
def PS(X:Cx)(st:Ng)(t:TS):Prop:=
 ∀(pins:List (MY×Obj))(s:MZ)(σ:St)(H:Hp)(D:Ends),Inv X pins σ H s->t D σ H->Nf (model X.prog X.w) X.A (exec st X.env) (SP X pins D) X.xe s
def qg(X:Cx)(st:List Ng)(t:TS):Prop:=
 ∀(pins:List (MY×Obj))(s:MZ)(σ:St)(H:Hp)(D:Ends),Inv X pins σ H s->t D σ H->Nf (model X.prog X.w) X.A (execs st X.env) (SP X pins D) X.xe s
theorem aY{α:Type}{t:Sem α}{Q Q':α->MZ->Prop}{M:Model}{A:M4}{E:MX->MZ->Prop}{s:MZ}(h:Nf M A t Q E s)(hQ:∀a s,Q a s->Q' a s):Nf M A t Q' E s:=M9 h hQ fun _ _ x=>x
section
variable{X:Cx}
theorem bin{a b:Expr}{ta tb:TE}(ha:PE X a ta)(hb:PE X b tb){pins:List (MY×Obj)}{s:MZ}{σ:St}{H:Hp}{R:V->V->Hp->Prop}(I:Inv X pins σ H s)(h:ta σ H fun x H1=>tb σ H1 fun y H2=>R x y H2)
  {α:Type} {Q:α->MZ->Prop} {f:MX->MX->Sem α}
  (hf:∀v u s2 x y H2,Inv X pins σ H2 s2->RelV x v->RelV y u->R x y H2->Nf (model X.prog X.w) X.A (f v u) Q X.xe s2):
  Nf (model X.prog X.w) X.A (eval a X.env) (fun v s₁=>Nf (model X.prog X.w) X.A (eval b X.env) (fun u s₂=>Nf (model X.prog X.w) X.A (f v u) Q X.xe s₂) X.xe s₁) X.xe s:=by
 refine aY (ha pins s σ H _ I h) fun v s1 ⟨x,H1,I1,r1,q1⟩=>?_;refine aY (hb pins s1 σ H1 _ I1 q1) fun u s2 ⟨y,H2,I2,r2,q2⟩=>?_;exact hf v u s2 x y H2 I2 r1 r2 q2
def gY(i:Nat):TE:=fun σ H Q=>∃v,σ[i]?=some (some v)/\Q v H
def tC(v:V):TE:=fun _ H Q=>Q v H
theorem AH{i:Nat}{x:Str}{pos:Pos}(hN:X.N[i]?=some x)(hv:Kt X.env.scope x)(hd:(x==("__debug__" :Str))=false:=by decide)(hcd:(x==("__classdict__" :Str))=false:=by decide):PE X (.Name x pos) (gY i):=by
 intro pins s σ H Q I h;obtain⟨v,e,h⟩:=h;obtain⟨m,hn,hl⟩:=I.loc;obtain⟨u,r,l⟩:=hl i x v hN e hv;have fin:EP X pins σ Q u s:=⟨v,H,I,r,h⟩;rcases l with⟨hk,hm⟩|⟨hk,c,hc,hcell⟩
 .exact wpAny_Name (wpAny_loadName_local I.ok.kind hk hn hm fin) hd
 .rcases hk with hk|hk
  .exact wpAny_Name (wpAny_loadName_cell I.ok.kind hk hc hcell fin) hd
  .exact wpAny_Name (wpAny_loadName_free I.ok.kind hk hc hcell fin hcd) hd
theorem ai{i j pos}:PE X (.Constant (.int i) j pos) (tC (.int i)):=fun _ _ _ H _ I h=>wpAny_Constant_int ⟨.int i,H,I.tok _,⟨_,rfl⟩,h⟩
theorem jM{b j pos}:PE X (.Constant (.bool b) j pos) (tC (.bl b)):=fun _ _ _ H _ I h=>Constant_bool ⟨.bl b,H,I,rfl,h⟩
theorem aK{x j pos}:PE X (.Constant (.str x) j pos) (tC (.str x)):=fun _ _ _ H _ I h=>Calls.Constant_str ⟨.str x,H,I.tok _,⟨_,rfl⟩,h⟩
def Gl(X:Cx)(x:Str):Prop:=X.env.kindOf x=some .globalImplicit
theorem jo{E:MX->MZ->Prop}{pins:List (MY×Obj)}{s:MZ}{σ:St}{H:Hp}{x:Str}{u:MX}{pos:Pos}{Q:MX->MZ->Prop}(I:Inv X pins σ H s)(hg:Gl X x)(hm:X.mg x=some u)(h:Q u s)
  (hd:(x==("__debug__" :Str))=false:=by decide):Nf (model X.prog X.w) X.A (eval (.Name x pos) X.env) Q E s:=
 Calls.Name_function_global I.ok.kind hg (Calls.loadGlobal_global (by rw[I.ok.glob];exact I.mod.glob.keeps I.bk) hm h) hd
theorem j8{E:MX->MZ->Prop}{pins:List (MY×Obj)}{s:MZ}{σ:St}{H:Hp}{x:Str}{u:MX}{pos:Pos}{Q:MX->MZ->Prop}(I:Inv X pins σ H s)(hg:Gl X x)(hm:X.mg x=none)(hv:bootBuiltins x=some u)(h:Q u s)
  (hn:x≠"__name__" :=by decide) (hd:(x==("__debug__" :Str))=false:=by decide):Nf (model X.prog X.w) X.A (eval (.Name x pos) X.env) Q E s:=by
 obtain⟨mb,h1,h2⟩:=I.mod.blt;exact Calls.Name_function_global I.ok.kind hg (Calls.loadGlobal_builtin (by rw[I.ok.glob];exact I.mod.glob.keeps I.bk) hm (by rw[I.ok.blt];exact h1.keeps I.bk) ((h2 x hn).trans hv) h) hd
theorem dR{x:Str}{v:V}{u:MX}{pos:Pos}(hg:Gl X x)(hm:X.mg x=some u)(r:RelV v u)(hd:(x==("__debug__" :Str))=false:=by decide):PE X (.Name x pos) (tC v):=
 fun _ _ _ H _ I h=>jo I hg hm ⟨v,H,I,r,h⟩ hd
theorem jy{x:Str}{v:V}{u:MX}{pos:Pos}(hg:Gl X x)(hm:X.mg x=none)(hv:bootBuiltins x=some u)(r:RelV v u)(hn:x≠"__name__" :=by decide)(hd:(x==("__debug__" :Str))=false:=by decide):PE X (.Name x pos) (tC v):=
 fun _ _ _ H _ I h=>j8 I hg hm hv ⟨v,H,I,r,h⟩ hn hd
variable{a b:Expr}{ta tb:TE}{pos:Pos}
def PC(X:Cx)(op:CmpOp)(a b:Expr)(t:TE):Prop:=
 ∀(pins:List (MY×Obj))(s:MZ)(σ:St)(H:Hp)(Q:VK),Inv X pins σ H s->t σ H Q->
  Nf (model X.prog X.w) X.A (eval a X.env) (fun v s₁=>Nf (model X.prog X.w) X.A (eval b X.env) (fun u s₂=>Nf (model X.prog X.w) X.A (compareOp op v u) (EP X pins σ Q) X.xe s₂) X.xe s₁) X.xe s
def tB(t:TE):TT:=fun σ H Q=>t σ H fun x H1=>∃c,x= .bl c/\Q c H1
theorem wX{op:CmpOp}{t:TE}(h:PC X op a b t)(h1:behindInMarks op b=false:=by first|exact nobehind _ (by decide) (by decide)|rfl):PE X (.Compare a [op] [b] pos) t:=fun pins s σ H Q I hw=>wpAny_Compare1 (h pins s σ H Q I hw) h1
theorem iS{op:CmpOp}{t:TE}(h:PC X op a b t)(h1:behindInMarks op b=false:=by first|exact nobehind _ (by decide) (by decide)|rfl):PT X (.Compare a [op] [b] pos) (tB t):=by
 intro pins s σ H Q I hw;refine wpAny_isTrue_Compare1 (aY (h pins s σ H _ I hw) fun v s1 h1=>aY h1 fun u s2 h2=>aY h2 fun c s3 ⟨x,H1,I1,r1,q1⟩=>?_) h1;obtain⟨d,rfl,q⟩:=q1;cases r1;exact wpAny_truthy_bool ⟨H1,I1,q⟩
theorem fe{e:Expr}{t:TE}(h:PE X e t)(he:∀whole,isTrue e X.env whole=(do let v←whole;standAt e.pos;holding [v] (truthy v)):=by intro _;rfl):PT X e (tB t):=by
 intro pins s σ H Q I hw;refine isTrue_plain (aY (h pins s σ H _ I hw) fun v s1 ⟨x,H1,I1,r1,q1⟩=>?_) (he _);obtain⟨d,rfl,q⟩:=q1;cases r1;exact wpAny_truthy_bool ⟨H1,I1,q⟩
variable{tA tB':TT}{rest:List Expr}
def Lg(t u:TT):TT:=fun σ H Q=>t σ H fun c H1=>if c=true then u σ H1 Q else Q false H1
def Ma(t u:TT):TT:=fun σ H Q=>t σ H fun c H1=>if c=true then Q true H1 else u σ H1 Q
def KN(t:TT):TT:=fun σ H Q=>t σ H fun c H1=>Q (!c) H1
theorem jx(ha:PT X a tA):PW X (.BoolOp .And [a] pos) tA:=by
 intro wh pins s σ H Q I h;refine isTrue_and (aY (ha pins s σ H Q I h) fun c s1 e=>?_)
 cases c with
 |true=>exact isTrue_and_nil e
 |false=>exact e
theorem hV(ha:PT X a tA):PW X (.BoolOp .Or [a] pos) tA:=by
 intro wh pins s σ H Q I h;refine isTrue_or (aY (ha pins s σ H Q I h) fun c s1 e=>?_)
 cases c with
 |false=>exact isTrue_or_nil e
 |true=>exact e
theorem mL(ha:PT X a tA)(hb:PW X (.BoolOp .And (b::rest) pos) tB'):PW X (.BoolOp .And (a::b::rest) pos) (Lg tA tB'):=by
 intro wh pins s σ H Q I h;refine isTrue_and (aY (ha pins s σ H _ I h) fun c s1 ⟨H1,I1,q1⟩=>?_)
 cases c with
 |true=>exact hb wh pins s1 σ H1 Q I1 q1
 |false=>exact⟨H1,I1,q1⟩
theorem jK(ha:PT X a tA)(hb:PW X (.BoolOp .Or (b::rest) pos) tB'):PW X (.BoolOp .Or (a::b::rest) pos) (Ma tA tB'):=by
 intro wh pins s σ H Q I h;refine isTrue_or (aY (ha pins s σ H _ I h) fun c s1 ⟨H1,I1,q1⟩=>?_)
 cases c with
 |true=>exact⟨H1,I1,q1⟩
 |false=>exact hb wh pins s1 σ H1 Q I1 q1
theorem eZ(ha:PT X a tA):PT X (.UnaryOp .Not a pos) (KN tA):=by
 intro pins s σ H Q I h;exact isTrue_not (ha pins s σ H (fun c H1=>Q (!c) H1) I h)
def IP(ta tb:TE):TE:=fun σ H Q=>ta σ H fun x H1=>∃c,x= .bl c/\if c=true then tb σ H1 Q else Q (.bl false) H1
def IU(ta:TE):TE:=fun σ H Q=>ta σ H fun x H1=>∃c,x= .bl c/\Q (.bl (!c)) H1
theorem rC{op}{t:TE}(h:PE X a t):PE X (.BoolOp op [a] pos) t:=fun pins s σ H Q I hw=>BoolOp_one (h pins s σ H Q I hw)
theorem xj(ha:PE X a ta)(hb:PE X (.BoolOp .And (b::rest) pos) tb):PE X (.BoolOp .And (a::b::rest) pos) (IP ta tb):=by
 intro pins s σ H Q I h;refine BoolOp_and (aY (ha pins s σ H _ I h) fun v s1 ⟨x,H1,I1,r1,q1⟩=>?_);obtain⟨c,rfl,q1⟩:=q1;cases r1;refine wpAny_truthy_bool ?_
 cases c with
 |true=>exact hb pins s1 σ H1 Q I1 q1
 |false=>exact⟨.bl false,H1,I1,rfl,q1⟩
theorem Ih(ha:PE X a ta):PE X (.UnaryOp .Not a pos) (IU ta):=by
 intro pins s σ H Q I h;refine UnaryOp_ (aY (ha pins s σ H _ I h) fun v s1 ⟨x,H1,I1,r1,q1⟩=>?_);obtain⟨c,rfl,q1⟩:=q1;cases r1;exact not_of (wpAny_truthy_bool ⟨.bl (!c),H1,I1,rfl,q1⟩)
def L9(t:TT)(ta tb:TE):TE:=fun σ H Q=>t σ H fun c H1=>if c=true then ta σ H1 Q else tb σ H1 Q
theorem kO{c:Expr}(hc:PT X c tA)(ha:PE X a ta)(hb:PE X b tb):PE X (.IfExp c a b pos) (L9 tA ta tb):=by
 intro pins s σ H Q I h;refine wpAny_IfExp (aY (hc pins s σ H _ I h) fun d s1 ⟨H1,I1,q1⟩=>?_)
 cases d with
 |true=>exact ha pins s1 σ H1 Q I1 q1
 |false=>exact hb pins s1 σ H1 Q I1 q1
end
def aJ(K:W.Frag)(H:Hp)(a:MY)(xs:List V):Prop:=
 Rd H a (.lst xs)\/
  ∃(o:Obj)(its:Array MX)(n:Nat),K.lookup a=some o/\o.cls= .type "list"/\o.dict=none/\o.data= .seq its n/\its.size<=M5/\Vals xs its.toList
def dI(K:W.Frag)(H:Hp)(a:MY)(xs:List V):Prop:=
 Rd H a (.tup xs)\/
  ∃(o:Obj)(its:Array MX)(n:Nat),K.lookup a=some o/\o.cls= .type "tuple"/\o.data= .seq its n/\its.size<=M5/\Vals xs its.toList
def Li:MX->Option V
 | .none=>some .de
 | .bool b=>some (.bl b)
 | .int i _=>some (.int i)
 | .str x _=>some (.str x)
 | .bytes b _=>some (.byt b)
 | .float b _=>some (.nu b)
 | .ref a=>some (.ref a)
 | .type n=>some (.ty n)
 |_=>none
theorem RelV.abs {x:V}{u:MX}(r:RelV x u):Li u=some x:=by
 cases x with
 |de=>cases r;rfl
 |bl _=>cases r;rfl
 |int _=>obtain⟨t,rfl⟩:=r;rfl
 |str _=>obtain⟨t,rfl⟩:=r;rfl
 |byt _=>obtain⟨t,rfl⟩:=r;rfl
 |nu _=>obtain⟨t,rfl⟩:=r;rfl
 |ref _=>cases r;rfl
 |ty _=>cases r;rfl
theorem RelV.inj {x y:V}{u:MX}(r:RelV x u)(q:RelV y u):x=y:=MV (r.abs.symm.trans q.abs)
theorem Vals.inj:∀{xs ys:List V}{us:List MX},Vals xs us->Vals ys us->xs=ys
 |_,_,_,.nil,.nil=>rfl
 |_,_,_,.cons r t,.cons r' t'=>by rw[r.inj r',Vals.inj t t']
section
variable{X:Cx}{pins:List (MY×Obj)}{σ:St}{H:Hp}{s:MZ}{a:MY}{xs ys:List V}
theorem aJ.of {K:W.Frag}(h:H a=some (.lst xs)):aJ K H a xs:= .inl (.inl h)
theorem dI.of {K:W.Frag}(h:H a=some (.tup xs)):dI K H a xs:= .inl (.inl h)
theorem Inv.list (I:Inv X pins σ H s)(h:aJ X.K H a xs):∃its:List MX,Vals xs its/\PlainL s.heap a its.toArray/\xs.length<=M5:=by
 rcases h with h|⟨o,its,n,hk,hc,hd,hs,hz,r⟩
 .obtain⟨z,its,n,r,e⟩:=h.ok I.aX
  exact⟨its,r,⟨_,n,e,rfl,rfl,rfl⟩,z⟩
 .refine⟨its.toList,r,⟨o,n,I.jr a o hk,hc,hd,by simpa using hs⟩,?_⟩
  have e:=r.length;simp only[Array.length_toList]at e;lia
theorem Inv.tuple (I:Inv X pins σ H s)(h:dI X.K H a xs):∃its:List MX,Vals xs its/\IsTup s.heap a its.toArray/\xs.length<=M5:=by
 rcases h with h|⟨o,its,n,hk,hc,hs,hz,r⟩
 .obtain⟨z,its,r,p⟩:=h.ok I.aX
  exact⟨its,r,p,z⟩
 .refine⟨its.toList,r,⟨o,I.jr a o hk,hc,n,by simpa using hs⟩,?_⟩
  have e:=r.length;simp only[Array.length_toList]at e;lia
theorem Inv.Cu (I:Inv X pins σ H s)(h:aJ X.K H a xs)(h':aJ X.K H a ys):xs=ys:=by
 obtain⟨its,r,⟨o,n,e,_,_,d⟩,_⟩:=I.list h;obtain⟨its',r',⟨o',n',e',_,_,d'⟩,_⟩:=I.list h';rw[e]at e';cases e';rw[d]at d';injection d' with d1 _
 have:its=its':=by simpa using congrArg Array.toList d1
 subst this;exact r.inj r'
theorem Inv.zI (I:Inv X pins σ H s)(h:dI X.K H a xs)(h':dI X.K H a ys):xs=ys:=by
 obtain⟨its,r,⟨o,e,_,n,d⟩,_⟩:=I.tuple h;obtain⟨its',r',⟨o',e',_,n',d'⟩,_⟩:=I.tuple h';rw[e]at e';cases e';rw[d]at d';injection d' with d1 _
 have:its=its':=by simpa using congrArg Array.toList d1
 subst this;exact r.inj r'
end
abbrev Cx.pR (X:Cx)(E:MX->MZ->Prop):Cx:={X with xe:=E}
abbrev Cx.Ks (X:Cx):Cx:=X.pR fun _ _=>False
theorem Cx.Ok.pR {X:Cx}(ok:X.Ok)(E:MX->MZ->Prop):(X.pR E).Ok:=
 ⟨ok.mod,ok.kind,ok.glob,ok.blt,ok.above,ok.inj,ok.has,ok.Ca,ok.hd,ok.frames,ok.Ar,ok.Fq,ok.bs,ok.yF,ok.oJ,ok.pZ,ok.iq,ok.nY⟩
theorem Cx.Ok.iT {X:Cx}{E:MX->MZ->Prop}(ok:(X.pR E).Ok):X.Ok:=
 ⟨ok.mod,ok.kind,ok.glob,ok.blt,ok.above,ok.inj,ok.has,ok.Ca,ok.hd,ok.frames,ok.Ar,ok.Fq,ok.bs,ok.yF,ok.oJ,ok.pZ,ok.iq,ok.nY⟩
section
variable{X:Cx}{pins:List (MY×Obj)}{σ:St}{H:Hp}{s:MZ}{E:MX->MZ->Prop}
theorem Inv.pR (I:Inv X pins σ H s)(E:MX->MZ->Prop):Inv (X.pR E) pins σ H s:=⟨I.ok.pR E,I.os,I.bare,I.base,I.loc,I.cell,I.free,I.eX,I.pin,I.aX,I.len⟩
theorem Inv.iT (I:Inv (X.pR E) pins σ H s):Inv X pins σ H s:=⟨I.ok.iT,I.os,I.bare,I.base,I.loc,I.cell,I.free,I.eX,I.pin,I.aX,I.len⟩
theorem SP.iT {D:Ends}{f:Flow}{s':MZ}(h:SP (X.pR E) pins D f s'):SP X pins D f s':=by
 cases f with
 |next=>obtain⟨σ',H',I,q⟩:=h;exact⟨σ',H',I.iT,q⟩
 |brk=>obtain⟨σ',H',I,q⟩:=h;exact⟨σ',H',I.iT,q⟩
 |cont=>obtain⟨σ',H',I,q⟩:=h;exact⟨σ',H',I.iT,q⟩
 |ret u=>obtain⟨v,σ',H',I,r,q⟩:=h;exact⟨v,σ',H',I.iT,r,q⟩
theorem qg.Ks {st:List Ng}{t:TS}(h:qg X.Ks st t):qg X st t:=fun pins s σ H D I hw=>
 M9 (h pins s σ H D (I.pR _) hw) (fun _ _ q=>q.iT) fun _ _ z=>False.elim z
end
section
variable{X:Cx}{st:Ng}{rest:List Ng}{t u:TS}{e:Expr}{te:TE}{pos:Pos}
def yw:TS:=fun D σ H=>D.nx σ H
def u6(t u:TS):TS:=fun D σ H=>t {D with nx:=u D} σ H
theorem aE:qg X [] yw:=fun _ _ σ H _ I h=>wpAny_execs_nil ⟨σ,H,I,h⟩
theorem ag(h1:PS X st t)(h2:qg X rest u):qg X (st::rest) (u6 t u):=by
 intro pins s σ H D I h;refine wpAny_execs_cons (aY (h1 pins s σ H {D with nx:=u D} I h) fun f s1 q=>?_)
 cases f with
 |next=>
  obtain⟨σ',H',I',q⟩:=q;exact h2 pins s1 σ' H' D I' q
 |ret v=>exact q
 |brk=>exact q
 |cont=>exact q
theorem aj(h1:PS X st t):qg X [st] t:=by
 intro pins s σ H D I h;refine wpAny_execs_cons (aY (h1 pins s σ H D I h) fun f s1 q=>?_)
 cases f with
 |next=>exact wpAny_execs_nil q
 |ret v=>exact q
 |brk=>exact q
 |cont=>exact q
theorem Inv.quiet {pins:List (MY×Obj)}{σ:St}{H:Hp}{s:MZ}(I:Inv X pins σ H s):interactive X.env=false:=by simp[interactive,I.ok.kind]
def Kf(te:TE):TS:=fun D σ H=>te σ H fun _ H1=>D.nx σ H1
theorem cZ(he:PE X e te)(hs:swapsWith e none pos.line X.env=pure false:=by rfl):PS X (.Expr e pos) (Kf te):=by
 intro pins s σ H D I h;exact wpAny_Expr_any (aY (he pins s σ H _ I h) fun v s1 ⟨x,H1,I1,r1,q1⟩=>⟨σ,H1,I1,q1⟩) I.quiet hs
def CJ(te:TE):TS:=fun D σ H=>te σ H D.rt
theorem ay(he:PE X e te):PS X (.Return (some e) pos) (CJ te):=by
 intro pins s σ H D I h;exact wpAny_Return_some (aY (he pins s σ H _ I h) fun v s1 ⟨x,H1,I1,r1,q1⟩=>⟨x,σ,H1,I1,r1,q1⟩)
def EV(c:TT)(t u:TS):TS:=fun D σ H=>c σ H fun b H1=>if b=true then t D σ H1 else u D σ H1
theorem a8{c:Expr}{a b:List Ng}{tc:TT}(hc:PT X c tc)(ha:qg X a t)(hb:qg X b u):PS X (.If c a b pos) (EV tc t u):=by
 intro pins s σ H D I h;refine wpAny_If (aY (hc pins s σ H _ I h) fun d s1 ⟨H1,I1,q1⟩=>?_)
 cases d with
 |true=>exact ha pins s1 σ H1 D I1 q1
 |false=>exact hb pins s1 σ H1 D I1 q1
def GX:TS:=fun _ _ _=>False
theorem kI:PS X st GX:=fun _ _ _ _ _ _ h=>h.elim
end
abbrev TG:=V->St->Hp->(St->Hp->Prop)->Prop
abbrev Fo:=List V->St->Hp->(St->Hp->Prop)->Prop
def PG(X:Cx)(target:Expr)(t:TG):Prop:=
 ∀(pins:List (MY×Obj))(s:MZ)(σ:St)(H:Hp)(v:V)(u:MX)(Q:St->Hp->Prop),Inv X pins σ H s->RelV v u->t v σ H Q->
  Nf (model X.prog X.w) X.A (assign target X.env u) (fun _ s'=>∃σ' H',Inv X pins σ' H' s'/\Q σ' H') X.xe s
def Jw(X:Cx)(ts:List Expr)(t:Fo):Prop:=
 ∀(pins:List (MY×Obj))(s:MZ)(σ:St)(H:Hp)(vs:List V)(us:List MX)(Q:St->Hp->Prop),Inv X pins σ H s->Vals vs us->t vs σ H Q->
  Nf (model X.prog X.w) X.A (assignInOrder ((assignEach ts X.env).map (·.2)) us) (fun _ s'=>∃σ' H',Inv X pins σ' H' s'/\Q σ' H') X.xe s
abbrev HC:=V->V->V->Hp->(Hp->Prop)->Prop
def Jt(X:Cx)(t:HC):Prop:=
 ∀(pins:List (MY×Obj))(s:MZ)(σ:St)(H:Hp)(o i v:V)(ov iv u:MX)(Q:Hp->Prop),Inv X pins σ H s->RelV o ov->RelV i iv->RelV v u->t o i v H Q->
  Nf (model X.prog X.w) X.A (setItem ov iv u) (fun _ s'=>∃H',Inv X pins σ H' s'/\Q H') X.xe s
section
variable{X:Cx}{pos:Pos}
def cF(i:Nat):TG:=fun v σ H Q=>Q (σ.set i (some v)) H
theorem aw{i:Nat}{x:Str}(hN:X.N.Nodup)(hi:X.N[i]?=some x)(hx:Loc X.env.scope x)(hf:X.fn x=true\/X.env.scope.names.lookup x=some .local:=by first|exact .inl rfl|exact .inr rfl|assumption):PG X (.Name x pos) (cF i):=by
 intro pins s σ H v u Q I r h;exact wpAny_assign_Name (fK I hN hi hx r (fun s' I'=>⟨_,H,I',h⟩) hf)
def Ho:Fo:=fun vs σ H Q=>vs=[]/\Q σ H
def tO(t:TG)(u:Fo):Fo:=fun vs σ H Q=>∃v r,vs=v::r/\t v σ H fun σ' H'=>u r σ' H' Q
theorem cy:Jw X [] Ho:=by
 intro pins s σ H vs us Q I r h;obtain⟨e,h⟩:=h;subst e;cases r;exact assignInOrder_nil ⟨σ,H,I,h⟩
theorem aO{e:Expr}{es:List Expr}{t:TG}{u:Fo}(h1:PG X e t)(h2:Jw X es u)
  (hs:(assignEach (e::es) X.env).map (·.2)=assign e X.env::(assignEach es X.env).map (·.2):=by rfl):Jw X (e::es) (tO t u):=by
 intro pins s σ H vs us Q I r h;obtain⟨v,vr,e1,h⟩:=h;subst e1
 cases r with
 |cons r rr=>
  rw[hs];refine assignInOrder_cons (aY (h1 pins s σ H _ _ _ I r h) fun _ s1 ⟨σ1,H1,I1,q1⟩=>?_);exact h2 pins s1 σ1 H1 _ _ Q I1 rr q1
def DQ(K:W.Frag)(n:Nat)(t:Fo):TG:=fun v σ H Q=>∃a xs,v= .ref a/\dI K H a xs/\xs.length=n/\t xs σ H Q
theorem GP{es:List Expr}{k:Nat}{t:Fo}{n:Nat}(hc:X.calm=true)(h:Jw X es t)
  (hn:(assignEach es X.env).length=n:=by rfl) (hst:(assignEach es X.env).findIdx? (·.1)=none:=by rfl):PG X (.Tuple es k pos) (DQ X.K n t):=by
 intro pins s σ H v u Q I r hw;obtain⟨a,xs,e1,hq,hl,hw⟩:=hw;subst e1;cases r;obtain⟨its,rv,ht,hz⟩:=I.tuple hq;refine assign_Tuple_tuple (I.ok.hd hc) ht (by simp[hn,←hl,rv.length]) hst fun h' hx=>?_;have I1:Inv X pins σ H {s with heap:=h'}:=I.kept (t':=s.toks) fun b o e=>hx b o (MR (Nc.lt_size e)) e;exact h pins _ σ H xs _ Q I1 (by simpa using rv) hw
def JN(to ti:TE)(t:HC):TG:=fun v σ H Q=>to σ H fun o H1=>ti σ H1 fun i H2=>t o i v H2 fun H3=>Q σ H3
theorem ot{o i:Expr}{to ti:TE}{t:HC}(ho:PE X o to)(hi:PE X i ti)(hs:Jt X t)
  (ha:∀v,assign (.Subscript o i pos) X.env v=(do
   let ov←holding [v] (eval o X.env)
   let iv←holding [v,ov] (eval i X.env)
   standAt pos
   holding [v,ov,iv] (setItem ov iv v)
   release [v,ov,iv] []):=by intro _;rfl):PG X (.Subscript o i pos) (JN to ti t):=by
 intro pins s σ H v u Q I r h;rw[ha];refine M7 (wpAny_holding (aY (ho pins s σ H _ I h) fun ov s1 ⟨x,H1,I1,r1,q1⟩=>?_));refine M7 (wpAny_holding (aY (hi pins s1 σ H1 _ I1 q1) fun iv s2 ⟨y,H2,I2,r2,q2⟩=>?_));refine M7 (wpAny_standAt (M7 (wpAny_holding (aY (hs pins s2 σ H2 x y v ov iv u _ I2 r1 r2 r q2) fun _ s3 ⟨H3,I3,q3⟩=>?_))));exact wpAny_release ⟨σ,H3,I3,q3⟩
def vv(te:TE)(g:TG):TS:=fun D σ H=>te σ H fun x H1=>g x σ H1 D.nx
theorem j3{tg e:Expr}{te:TE}{g:TG}(he:PE X e te)(hg:PG X tg g)(hs:swapsWithSole [tg] e pos.line X.env=pure false:=by rfl)(hw:swappedStores [tg] e X.env=pure none:=by rfl)
  (h1:(assignEach [tg] X.env).map (·.2)=[assign tg X.env]:=by rfl):PS X (.Assign [tg] e pos) (vv te g):=by
 intro pins s σ H D I h;refine wpAny_Assign_stores (aY (he pins s σ H _ I h) fun v s1 ⟨x,H1,I1,r1,q1⟩=>?_) hs hw;rw[h1];exact aY (hg pins s1 σ H1 x v _ I1 r1 q1) fun _ s2 q=>q
theorem aC{i:Nat}{x:Str}{e:Expr}{te:TE}{pos':Pos}(hN:X.N.Nodup)(hi:X.N[i]?=some x)(hx:Loc X.env.scope x)(he:PE X e te)(hs:swapsWith e (some (.Name x pos')) pos.line X.env=pure false:=by rfl)(hf:X.fn x=true\/X.env.scope.names.lookup x=some .local:=by first|exact .inl rfl|exact .inr rfl|assumption):
  PS X (.Assign [.Name x pos'] e pos) (vv te (cF i)):=by
 intro pins s σ H D I h;refine wpAny_Assign_Name (aY (he pins s σ H _ I h) fun v s1 ⟨y,H1,I1,r1,q1⟩=>?_) hs;exact fK I1 hN hi hx r1 (fun s2 I2=>⟨_,H1,I2,q1⟩) hf
def K5(i j:Nat)(ta:TA):TS:=fun D σ H=>ta σ H fun vs H1=>∃v w,vs=[v,w]/\D.nx ((σ.set i (some v)).set j (some w)) H1
theorem GD{i j:Nat}{x y:Str}{a b:Expr}{ta:TA}{px py pt:Pos}{kt k2 pt2}(hc:X.calm=true)(hN:X.N.Nodup)(hi:X.N[i]?=some x)(hj:X.N[j]?=some y)(hij:i≠j)
  (hx:X.env.scope.names.lookup x=some .local) (hy:X.env.scope.names.lookup y=some .local) (ha:PA X [a,b] ta)
  (hw:swappedStores [.Tuple [.Name x px,.Name y py] kt pt] (.Tuple [a,b] k2 pt2) X.env=pure (some [x,y]))
  (hs:swapsWithSole [.Tuple [.Name x px,.Name y py] kt pt] (.Tuple [a,b] k2 pt2) pos.line X.env=pure false:=by rfl):
  PS X (.Assign [.Tuple [.Name x px,.Name y py] kt pt] (.Tuple [a,b] k2 pt2) pos) (K5 i j ta):=by
 intro pins s σ H D I h;rw[exec_Assign_arm];refine M7 (wpAny_standAt ?_);rw[hs];refine M7 (M8 ?_);rw[if_neg (by decide)];refine M7 (Tuple_ (aY (ha _ pins s σ H _ I h) fun us s1 ⟨vs,H1,I1,r1,q1⟩=>?_));obtain⟨v,w,e1,q1⟩:=q1;subst e1;obtain⟨u1,u2,rfl,rv,rw'⟩:∃u1 u2,us=[u1,u2]/\RelV v u1/\RelV w u2:=by
  cases r1 with
  |cons p q=>
   cases q with
   |cons p' q'=>
    cases q';exact⟨_,_,rfl,p,p'⟩
 refine wpAny_newObj_type ?_ (by show 2<=M5;decide);have I2:Inv X pins σ H1 {s1 with heap:=s1.heap.push {cls:= .type "tuple",data:= .seq [u1,u2].toArray}}:=I1.kept (t':=s1.toks) fun b o e=>Nc.get?_push_of_some _ e;rw[hw];refine M7 (M8 ?_);show Nf (model X.prog X.w) X.A (do rule "assign.swapped-stores";let items←unpackItems (.ref s1.heap.objs.size) 2 none;assignInOrder [fun v=>bindName X.env y v,fun v=>bindName X.env x v] items.reverse;pure Flow.next) _ _ _;refine M7 (wpAny_rule (M7 (unpackItems_tuple (items:= #[u1,u2]) (I.ok.hd hc) (IsTup.new s1.heap _) fun h' hx'=>?_)));have I3:=I2.kept (h':=h') (t':=s1.toks) fun b o e=>hx' b o (MR (Nc.lt_size e)) e;show Nf _ _ (assignInOrder [fun v=>bindName X.env y v,fun v=>bindName X.env x v] [u2,u1]>>=fun _=>pure Flow.next) _ _ _;refine M7 (assignInOrder_cons (wpAny_bindName (fK I3 hN hj (.inl hy) rw' (fun s2 I4=>?_) (.inr hy))));refine assignInOrder_cons (wpAny_bindName (fK I4 hN hi (.inl hx) rv (fun s3 I5=>assignInOrder_nil (M8 ?_)) (.inr hx)));rw[List.set_comm _ _ (Ne.symm hij)]at I5;exact⟨_,H1,I5,q1⟩
end
section
variable{X:Cx}{pos:Pos}
def Hf(c:TT)(tb:TS):TS:=fun D σ H=>∃W:Nat->St->Hp->Prop,(∃m,W m σ H)/\∀m σ H,W m σ H->
 c σ H fun b H1=>if b=true then∃N:St->Hp->Prop,(∀σ' H',N σ' H'->∃m',m'<m/\W m' σ' H')/\tb {D with nx:=N,ct:=N,bk:=D.nx} σ H1 else D.nx σ H1
theorem iU{c:Expr}{body:List Ng}{tc:TT}{tb:TS}(hp:PassesOwn (model X.prog X.w) X.A X.env X.xe)(hc:PT X c tc)(hb:qg X body tb):PS X (.While c body [] pos) (Hf tc tb):=by
 intro pins s σ H D I h;obtain⟨W,⟨m0,w0⟩,turn⟩:=h;refine wpAny_While (codeAny_whileLoop (fun n s'=>∃σ' H',Inv X pins σ' H' s'/\W n σ' H') ?_ m0 ⟨σ,H,I,w0⟩);rintro n s1 ⟨σ1,H1,I1,w1⟩;refine wpAny_passesOwn hp (aY (hc pins s1 σ1 H1 _ I1 (turn n σ1 H1 w1)) fun b s2 ⟨H2,I2,q2⟩=>?_)
 cases b with
 |true=>
  obtain⟨N,hN,q2⟩:=q2;rw[if_pos rfl];refine wpAny_passesOwn hp (aY (hb pins s2 σ1 H2 _ I2 q2) fun f s3 q3=>?_)
  cases f with
  |next=>
   obtain⟨σ3,H3,I3,n3⟩:=q3;obtain⟨m',hm,w3⟩:=hN σ3 H3 n3;exact⟨m',hm,σ3,H3,I3,w3⟩
  |cont=>
   obtain⟨σ3,H3,I3,n3⟩:=q3;obtain⟨m',hm,w3⟩:=hN σ3 H3 n3;exact⟨m',hm,σ3,H3,I3,w3⟩
  |brk=>exact q3
  |ret v=>exact q3
 |false=>
  rw[if_neg MU];exact wpAny_execs_nil ⟨σ1,H2,I2,q2⟩
end
structure It where
 go:Nat->Hp->Prop
 FU:Nat->Hp->V->Hp->Prop
 stop:Nat->Hp->Prop
def iK(X:Cx)(pins:List (MY×Obj))(H:Hp)(b:MY):Prop:=
 H b=none/\b≠X.env.locals/\b∉X.fs/\(b∈X.ex\/X.s₀.heap.objs.size<=b)/\(∀x c,X.env.cells.lookup x=some c->c≠b)/\∀p∈X.pn++pins,p.1≠b
theorem Inv.sV {X:Cx}{pins:List (MY×Obj)}{σ:St}{H H':Hp}{s:MZ}{b:MY}(I:Inv X pins σ H s)(hb:s.heap.objs.size<=b)(hn:H' b=none):iK X pins H' b:=by
 refine⟨hn,Nat.ne_of_gt (MQ I.lt hb),I.JY hb,.inr (MS I.sz hb),fun x c e z=>?_,fun p hp z=>?_⟩
 .obtain⟨v,q⟩:=I.cell x c e
  exact absurd (MQ q.lt (by rw[z];exact hb)) (Nat.lt_irrefl _)
 .exact absurd (MQ (Nc.lt_size (I.pin p hp).1) (by rw[z];exact hb)) (Nat.lt_irrefl _)
structure Turn(P:M0)(w:M3)(K:W.Frag)(tg:Expr)(J:It)(fp:List MY)(it:MY)(tn:Nat->Nc->Prop):Prop where
 mem:it∈fp
 obj:∀i h,tn i h->∀b∈fp,∃o,h.get? b=some o/\∀v,o.data≠.cell v
 keep:∀i h h',tn i h->(∀b∈fp,∀o,h.get? b=some o->h'.get? b=some o)->tn i h'
 item:∀(X:Cx),X.prog=P->X.w=w->X.K=K->X.calm=true->∀(i:Nat)(pins:List (MY×Obj))(s:MZ)(σ:St)(H:Hp)(E:MX->MZ->Prop),Inv X pins σ H s->(∀b∈fp,iK X pins H b)->tn i s.heap->J.go i H->
  Nf (model P w) X.A (pyNext (.ref it)) (fun r s1=>∃u,r=some u/\
   Nf (model P w) X.A (letOwnedTupleGo tg (.ref it) u) (fun _ s2=>∃x H',Inv X pins σ H' s2/\RelV x u/\J.FU i H x H'/\tn (i+1) s2.heap/\∀b∈fp,H' b=none) E s1) E s
 done:∀(X:Cx),X.prog=P->X.w=w->X.K=K->X.calm=true->∀(i:Nat)(pins:List (MY×Obj))(s:MZ)(σ:St)(H:Hp)(E:MX->MZ->Prop),Inv X pins σ H s->(∀b∈fp,iK X pins H b)->tn i s.heap->J.stop i H->
  Nf (model P w) X.A (pyNext (.ref it)) (fun r s1=>r=none/\Inv X pins σ H s1) E s
 self:∀(A:M4)(i:Nat)(s:MZ)(Q:MX->MZ->Prop)(E:MX->MZ->Prop),tn i s.heap->Q (.ref it) s->Nf (model P w) A (pyIter (.ref it)) Q E s
abbrev TI:=St->Hp->(It->Hp->Prop)->Prop
def Kq(X:Cx)(pins:List (MY×Obj))(σ:St)(tg:Expr)(R:It->Hp->Prop)(itv:MX)(s2:MZ):Prop:=
 ∃(it:MY)(fp:List MY)(tn:Nat->Nc->Prop)(J:It)(H':Hp),itv= .ref it/\Inv X pins σ H' s2/\Turn X.prog X.w X.K tg J fp it tn/\tn 0 s2.heap/\(∀b∈fp,iK X pins H' b)/\R J H'
def PI(X:Cx)(tg iter:Expr)(wi:TI):Prop:=
 ∀(pins:List (MY×Obj))(s:MZ)(σ:St)(H:Hp)(R:It->Hp->Prop),Inv X pins σ H s->wi σ H R->
  Nf (model X.prog X.w) X.A (eval iter X.env) (fun v s1=>Nf (model X.prog X.w) X.A (pyIter v) (Kq X pins σ tg R) X.xe s1) X.xe s
theorem uR{M:Model}{A:M4}{E:MX->MZ->Prop}{s:MZ}{tg:Expr}{it:MY}{u:MX}{o:Obj}{n:String}{vs:Array MX}{Q:Unit->MZ->Prop}(ho:s.heap.get? it=some o)(hc:o.cls= .type n)(hd:o.data= .fields vs)
  (hn:["enumerate","zip","dict_itemiterator","dict_reverseitemiterator","odict_iterator","itertools.zip_longest","itertools.pairwise"].contains n=false) (hQ:Q () s):Nf M A (letOwnedTupleGo tg (.ref it) u) Q E s:=by
 unfold letOwnedTupleGo;cases tg<;>first
  |exact M8 hQ
  |(cases u<;>first
    |exact M8 hQ
    |(refine M7 (wpAny_load ho ?_)
      rw[hc,hd];show Nf M A (if(["enumerate","zip","dict_itemiterator","dict_reverseitemiterator","odict_iterator","itertools.zip_longest","itertools.pairwise"].contains n&&vs[0]?==some (rawInt _))=true then _ else _) Q E s;rw[if_neg (by intro h;rw[hn,Bool.false_and]at h;cases h)];exact M8 hQ))
def Dd(K:W.Frag)(a:MY):It:=
 ⟨fun i H=>∃xs x,aJ K H a xs/\xs[i]?=some x,fun i H x H'=>H'=H/\∀xs,aJ K H a xs->xs[i]?=some x,fun i H=>∃xs,aJ K H a xs/\xs.length<=i⟩
def Lo(K:W.Frag)(a:MY):It:=
 ⟨fun i H=>∃xs x,dI K H a xs/\xs[i]?=some x,fun i H x H'=>H'=H/\∀xs,dI K H a xs->xs[i]?=some x,fun i H=>∃xs,dI K H a xs/\xs.length<=i⟩
def FA(lo:Int)(n:Nat):It:=⟨fun i _=>i<n,fun i H x H'=>H'=H/\x= .int (lo+i),fun i _=>n<=i⟩
theorem y3{P:M0}{w:M3}{K:W.Frag}{tg:Expr}(a it:MY):Turn P w K tg (Dd K a) [it] it (fun i h=>h.IsListIter it a i)where
 mem:=by simp
 obj:=fun i h st b hb=>by
  have e:b=it:=by simpa using hb
  subst e;obtain⟨o,e,c,d⟩:=st;exact⟨o,e,fun v z=>by rw[d]at z;cases z⟩
 keep:=fun i h h' st k=>st.at fun o e=>k it (by simp) o e
 item:=by
  intro X hP hw hK hc i pins s σ H E I hf st hg;subst hP hw hK;obtain⟨xs,x,hq,hx⟩:=hg;obtain⟨its,rv,p,hz⟩:=I.list hq;obtain⟨u,hu,ru⟩:=rv.get hx;obtain⟨f0,f1,f2,f3,f4,f5⟩:=hf it (by simp);refine wpAny_pyNext_list_item st p.isList (x:=u) (by simpa using hu) fun h' st' sb=>?_;have I1:Inv X pins σ H {s with heap:=h'}:=I.turned (t':=s.toks) (fun b o hb e=>(sb.2 b hb).trans e) f0 f1 f3 f4 f5;obtain⟨o,e,c,d⟩:=id st';exact⟨u,rfl,uR (s:={s with heap:=h'}) e c d (by decide) ⟨x,H,I1,ru,⟨rfl,fun ys hy=>by rw[I.Cu hy hq];exact hx⟩,st',fun b hb=>(hf b hb).1⟩⟩
 done:=by
  intro X hP hw hK hc i pins s σ H E I hf st hg;subst hP hw hK;obtain⟨xs,hq,hx⟩:=hg;obtain⟨its,rv,p,hz⟩:=I.list hq;obtain⟨f0,f1,f2,f3,f4,f5⟩:=hf it (by simp);have hl:=rv.length;exact wpAny_pyNext_list_end (I.ok.hd hc) st p.isList (by simp;lia) fun h' eb=>⟨rfl,I.turned (t':=s.toks) (fun b o hb e=>eb b o hb e) f0 f1 f3 f4 f5⟩
 self:=fun _ _ _ _ _ st h=>wpAny_pyIter_listiter st h
theorem vR{P:M0}{w:M3}{K:W.Frag}{tg:Expr}(a it:MY):Turn P w K tg (Lo K a) [it] it (fun i h=>h.IsTupleIter it a i)where
 mem:=by simp
 obj:=fun i h st b hb=>by
  have e:b=it:=by simpa using hb
  subst e;obtain⟨o,e,c,d⟩:=st;exact⟨o,e,fun v z=>by rw[d]at z;cases z⟩
 keep:=fun i h h' st k=>st.at fun o e=>k it (by simp) o e
 item:=by
  intro X hP hw hK hc i pins s σ H E I hf st hg;subst hP hw hK;obtain⟨xs,x,hq,hx⟩:=hg;obtain⟨its,rv,p,hz⟩:=I.tuple hq;obtain⟨u,hu,ru⟩:=rv.get hx;obtain⟨f0,f1,f2,f3,f4,f5⟩:=hf it (by simp);refine wpAny_pyNext_tuple_item st (show s.heap.IsTuple a its.toArray from p) (x:=u) (by simpa using hu) fun h' st' sb=>?_;have I1:Inv X pins σ H {s with heap:=h'}:=I.turned (t':=s.toks) (fun b o hb e=>(sb.2 b hb).trans e) f0 f1 f3 f4 f5;obtain⟨o,e,c,d⟩:=id st';exact⟨u,rfl,uR (s:={s with heap:=h'}) e c d (by decide) ⟨x,H,I1,ru,⟨rfl,fun ys hy=>by rw[I.zI hy hq];exact hx⟩,st',fun b hb=>(hf b hb).1⟩⟩
 done:=by
  intro X hP hw hK hc i pins s σ H E I hf st hg;subst hP hw hK;obtain⟨xs,hq,hx⟩:=hg;obtain⟨its,rv,p,hz⟩:=I.tuple hq;obtain⟨f0,f1,f2,f3,f4,f5⟩:=hf it (by simp);have hl:=rv.length;exact wpAny_pyNext_tuple_end (I.ok.hd hc) st (show s.heap.IsTuple a its.toArray from p) (by simp;lia) fun h' eb=>⟨rfl,I.turned (t':=s.toks) (fun b o hb e=>eb b o hb e) f0 f1 f3 f4 f5⟩
 self:=fun _ _ _ _ _ st h=>wpAny_pyIter_tupleiter st h
theorem wA{P:M0}{w:M3}{K:W.Frag}{tg:Expr}(it:MY)(lo:Int)(n:Nat):Turn P w K tg (FA lo n) [it] it (fun i h=>IsRangeIter h it (lo+(i:Nat)*1) ((n:Int)-(i:Nat)) 1)where
 mem:=by simp
 obj:=fun i h st b hb=>by
  have e:b=it:=by simpa using hb
  subst e;exact⟨_,st,fun v z=>by
   have z':Data.fields _=Data.cell v:=z;cases z'⟩
 keep:=fun i h h' st k=>k it (by simp) _ st
 item:=by
  intro X hP hw hK hc i pins s σ H E I hf st hg;subst hP hw hK;obtain⟨f0,f1,f2,f3,f4,f5⟩:=hf it (by simp);have W:=Walks.range (prog:=X.prog) (w:=X.w) (I.ok.hd hc) it lo 1 n;refine W.item i s _ _ hg st fun v h' tk hv st' kk=>?_;obtain⟨t,rfl⟩:=hv;have I1:Inv X pins σ H {s with heap:=h',toks:=tk}:=I.turned (fun b o hb e=>kk b o (by simpa using hb) e) f0 f1 f3 f4 f5;refine⟨_,rfl,uR (s:={s with heap:=h',toks:=tk}) (n:= "range_iterator") st' rfl rfl (by decide) ⟨.int (lo+i),H,I1,⟨t,?_⟩,⟨rfl,rfl⟩,st',fun b hb=>(hf b hb).1⟩⟩;rw[Int.mul_one]
 done:=by
  intro X hP hw hK hc i pins s σ H E I hf st hg;subst hP hw hK;obtain⟨f0,f1,f2,f3,f4,f5⟩:=hf it (by simp);exact wpAny_pyNext_range_end (I.ok.hd hc) st (by have:n<=i:=hg;lia) fun h' eb=>⟨rfl,I.turned (t':=s.toks) (fun b o hb e=>eb b o hb e) f0 f1 f3 f4 f5⟩
 self:=fun _ _ _ _ _ st h=>wpAny_pyIter_rangeiter st h
section
variable{X:Cx}{tg:Expr}
def AU(K:W.Frag)(tl:TE):TI:=fun σ H R=>tl σ H fun x H1=>∃a,x= .ref a/\(∃xs,aJ K H1 a xs)/\R (Dd K a) H1
def J7(K:W.Frag)(tl:TE):TI:=fun σ H R=>tl σ H fun x H1=>∃a,x= .ref a/\(∃xs,dI K H1 a xs)/\R (Lo K a) H1
theorem E7{l:Expr}{tl:TE}(hl:PE X l tl):PI X tg l (AU X.K tl):=by
 intro pins s σ H R I h;refine aY (hl pins s σ H _ I h) fun v s1 ⟨x,H1,I1,r1,q1⟩=>?_;obtain⟨a,e,⟨xs,hq⟩,q⟩:=q1;subst e;cases r1;obtain⟨its,rv,p,hz⟩:=I1.list hq;refine wpAny_pyIter_list p.isList ?_;refine⟨s1.heap.objs.size,[s1.heap.objs.size],_,_,H1,rfl,I1.kept (t':=s1.toks) fun b o e=>Nc.get?_push_of_some _ e,y3 a _,⟨_,Nc.get?_push_size _ rfl,rfl,rfl⟩,fun b hb=>?_,q⟩;have e:b=s1.heap.objs.size:=by simpa using hb
 subst e;exact I1.sV (MP _) (I1.aX.fresh (MP _))
theorem HD{l:Expr}{tl:TE}(hl:PE X l tl):PI X tg l (J7 X.K tl):=by
 intro pins s σ H R I h;refine aY (hl pins s σ H _ I h) fun v s1 ⟨x,H1,I1,r1,q1⟩=>?_;obtain⟨a,e,⟨xs,hq⟩,q⟩:=q1;subst e;cases r1;obtain⟨its,rv,p,hz⟩:=I1.tuple hq;refine wpAny_pyIter_tuple (show s1.heap.IsTuple a its.toArray from p) ?_;refine⟨s1.heap.objs.size,[s1.heap.objs.size],_,_,H1,rfl,I1.kept (t':=s1.toks) fun b o e=>Nc.get?_push_of_some _ e,vR a _,⟨_,Nc.get?_push_size _ rfl,rfl,rfl⟩,fun b hb=>?_,q⟩;have e:b=s1.heap.objs.size:=by simpa using hb
 subst e;exact I1.sV (MP _) (I1.aX.fresh (MP _))
theorem vk{pins:List (MY×Obj)}{σ:St}{H:Hp}{s:MZ}{R:It->Hp->Prop}{E:MX->MZ->Prop}{lo hi:Int}{t u v:Tok}{tk:Nat}(I:Inv X pins σ H s)(h1: -(2^62)<=lo)(h2:lo<2^62)(h3: -(2^62)<=hi)(h4:hi<2^62)
  (q:R (FA lo (hi-lo).toNat) H):Nf (model X.prog X.w) X.A (pyIter (.ref s.heap.objs.size)) (Kq X pins σ tg R) E {s with heap:=s.heap.push {cls:= .type "range",data:= .fields #[.int lo t,.int hi u,.int 1 v]},toks:=tk}:=by
 refine wpAny_pyIter_range (IsRange.new ..) (small_one h1 h2 h3 h4) ?_;have I1:Inv X pins σ H {s with heap:=s.heap.push {cls:= .type "range",data:= .fields #[.int lo t,.int hi u,.int 1 v]},toks:=tk}:=I.kept fun b o e=>Nc.get?_push_of_some _ e;refine⟨(s.heap.push {cls:= .type "range",data:= .fields #[.int lo t,.int hi u,.int 1 v]}).objs.size,[(s.heap.push {cls:= .type "range",data:= .fields #[.int lo t,.int hi u,.int 1 v]}).objs.size],_,_,H,rfl,
  I1.kept (t':=tk) fun b o e=>Nc.get?_push_of_some _ e,wA _ lo (hi-lo).toNat,?_,fun b hb=>?_,q⟩
 .have e1:lo+((0:Nat):Int)*1=lo:=by simp
  have e2:(((hi-lo).toNat:Nat):Int)-((0:Nat):Int)=Ni.Range.rangeSize lo hi 1:=by rw[rangeSize_one];split<;>lia
  show IsRangeIter _ _ (lo+((0:Nat):Int)*1) ((((hi-lo).toNat:Nat):Int)-((0:Nat):Int)) 1;rw[e1,e2];exact Nc.get?_push_size _ rfl
 .have e:b=(s.heap.push {cls:= .type "range",data:= .fields #[.int lo t,.int hi u,.int 1 v]}).objs.size:=by simpa using hb
  subst e;exact I1.sV (MP _) (I1.aX.fresh (MP _))
def Ka(ta:TA):TI:=fun σ H R=>ta σ H fun vs H1=>∃j:Int,vs=[.int j]/\-(2^62)<=j/\j<2^62/\R (FA 0 j.toNat) H1
def I0(ta:TA):TI:=fun σ H R=>ta σ H fun vs H1=>∃i j:Int,vs=[.int i,.int j]/\(-(2^62)<=i/\i<2^62/\-(2^62)<=j/\j<2^62)/\R (FA i (j-i).toNat) H1
theorem eI{a:Expr}{ta:TA}{p pos:Pos}(hg:Gl X "range")(hm:X.mg "range" =none)(ha:PA X [a] ta)(hs:Na [a] X.env=[(false,eval a X.env)]:=by rfl):PI X tg (.Call (.Name "range" p) [a] [] pos) (Ka ta):=by
 intro pins s σ H R I h;refine Call_ (j8 I hg hm boot_range (PyProof.Rows.callWith_type1 (aY (ha pos pins s σ H _ I h) fun us s1 ⟨vs,H1,I1,r1,q1⟩=>?_) hs rfl));obtain⟨j,e,q1,q2,q⟩:=q1;subst e
 cases r1 with
 |cons r rr=>
  cases rr;obtain⟨t,rfl⟩:=r;exact call_range_1 (vk I1 (by lia) (by lia) q1 q2 (by simpa using q))
theorem gQ{a b:Expr}{ta:TA}{p pos:Pos}(hg:Gl X "range")(hm:X.mg "range" =none)(ha:PA X [a,b] ta)(hs:Na [a,b] X.env=[(false,eval a X.env),(false,eval b X.env)]:=by rfl)(hs2:Na [b] X.env=[(false,eval b X.env)]:=by rfl):
  PI X tg (.Call (.Name "range" p) [a,b] [] pos) (I0 ta):=by
 intro pins s σ H R I h;refine Call_ (j8 I hg hm boot_range (PyProof.Rows.callWith_type1 (aY (ha pos pins s σ H _ I h) fun us s1 ⟨vs,H1,I1,r1,q1⟩=>?_) (by rw[hs,hs2]) (by rw[hs2];rfl)));obtain⟨i,j,e,⟨q1,q2,q3,q4⟩,q⟩:=q1;subst e
 cases r1 with
 |cons r rr=>
  cases rr with
  |cons r' rr=>
   cases rr;obtain⟨t,rfl⟩:=r;obtain⟨t',rfl⟩:=r';exact call_range_2 (vk I1 q1 q2 q3 q4 q)
def K6(wi:TI)(g:TG)(tb:TS):TS:=fun D σ H=>wi σ H fun J H1=>∃W:Nat->Nat->St->Hp->Prop,(∃m,W 0 m σ H1)/\∀i m σ H,W i m σ H->
 (J.stop i H/\D.nx σ H)\/(J.go i H/\∃N:St->Hp->Prop,(∀σ' H',N σ' H'->∃m',m'<m/\W (i+1) m' σ' H')/\∀x H',J.FU i H x H'->g x σ H' fun σ2 H2=>tb {D with nx:=N,ct:=N,bk:=D.nx} σ2 H2)
def mJ(fp:List MY)(h:Nc):List (MY×Obj):=fp.filterMap fun b=>(h.get? b).map fun o=>(b,o)
theorem eK{fp:List MY}{h:Nc}{b:MY}{o:Obj}(hb:b∈fp)(e:h.get? b=some o):(b,o)∈mJ fp h:=List.mem_filterMap.mpr ⟨b,hb,by rw[e];rfl⟩
theorem y8{fp:List MY}{h:Nc}{p:MY×Obj}(hp:p∈mJ fp h):p.1∈fp/\h.get? p.1=some p.2:=by
 obtain⟨b,hb,e⟩:=List.mem_filterMap.mp hp
 cases q:h.get? b with
 |none=>rw[q]at e;cases e
 |some o=>
  rw[q]at e;have e':(b,o)=p:=MV e;subst e';exact⟨hb,q⟩
theorem Inv.pinned {pins:List (MY×Obj)}{σ:St}{H:Hp}{s:MZ}{fp:List MY}(I:Inv X pins σ H s)(hf:∀b∈fp,iK X pins H b)(ho:∀b∈fp,∃o,s.heap.get? b=some o/\∀v,o.data≠.cell v):Inv X (pins++mJ fp s.heap) σ H s:=
 I.nJ fun p hp=>(List.mem_append.mp hp).elim (fun z=>I.pin p (MJ _ z)) fun z=>by
  obtain⟨hb,e⟩:=y8 z;obtain⟨f0,f1,f2,_⟩:=hf p.1 hb;obtain⟨o,e',d⟩:=ho p.1 hb;rw[e]at e';cases e';exact⟨e,f0,f1,f2,d⟩
theorem Inv.dZ {pins pl:List (MY×Obj)}{σ:St}{H:Hp}{s:MZ}(I:Inv X (pins++pl) σ H s):Inv X pins σ H s:=I.nJ fun p hp=>I.pin p (MJ _ (MK _ hp))
theorem fi{iter:Expr}{body:List Ng}{wi:TI}{g:TG}{tb:TS}{pos:Pos}(hp:PassesOwn (model X.prog X.w) X.A X.env X.xe)(hc:X.calm=true)(hi:PI X tg iter wi)(hg:PG X tg g)(hb:qg X body tb)
  (hs:∀x,foldedSetIterable iter X.env x=pure x:=by intro _;rfl):PS X (.For tg iter body [] pos) (K6 wi g tb):=by
 intro pins s σ H D I h;refine wpAny_For (aY (hi pins s σ H _ I h) fun v s1 h1=>aY h1 fun itv s2 h2=>?_) hs;obtain⟨it,fp,tn,J,H2,e,I2,T,st2,f2,W,⟨m0,w0⟩,turn⟩:=h2;subst e;have stat:∀{H':Hp},(∀b∈fp,H' b=none)->∀b∈fp,iK X pins H' b:=fun hn b hb=>⟨hn b hb,(f2 b hb).2⟩;refine codeAny_forLoop_any (fun n s'=>∃i σ' H',Inv X pins σ' H' s'/\tn i s'.heap/\(∀b∈fp,H' b=none)/\W i n σ' H') ?_ m0 ⟨0,σ,H2,I2,st2,fun b hb=>(f2 b hb).1,w0⟩;rintro n s3 ⟨i,σ3,H3,I3,st3,fr3,w3⟩;rcases turn i n σ3 H3 w3 with⟨stop,qn⟩|⟨go,N,hN,step⟩
 .refine wpAny_passesOwn hp (aY (T.done X rfl rfl rfl hc i pins s3 σ3 H3 X.xe I3 (stat fr3) st3 stop) fun r s4 ⟨hr,I4⟩=>?_)
  subst hr;exact wpAny_execs_nil ⟨σ3,H3,I4,qn⟩
 .refine wpAny_passesOwn hp (aY (T.item X rfl rfl rfl hc i pins s3 σ3 H3 X.xe I3 (stat fr3) st3 go) fun r s4 ⟨u,hr,h4⟩=>?_)
  subst hr;refine wpAny_passesOwn hp (aY h4 fun _ s5 ⟨x,H5,I5,r5,y5,st5,fr5⟩=>?_);have I5':=I5.pinned (stat fr5) (T.obj _ _ st5);refine wpAny_passesOwn hp (aY (hg _ s5 σ3 H5 x u _ I5' r5 (step x H5 y5)) fun _ s6 ⟨σ6,H6,I6,q6⟩=>?_);refine wpAny_passesOwn hp (aY (hb _ s6 σ6 H6 _ I6 q6) fun f s7 q7=>?_);have again:∀{σ7:St}{H7:Hp},Inv X (pins++mJ fp s5.heap) σ7 H7 s7->N σ7 H7->∃m,m<n/\∃i σ' H',Inv X pins σ' H' s7/\tn i s7.heap/\(∀b∈fp,H' b=none)/\W i m σ' H':=fun{σ7 H7} I7 n7=>by
   obtain⟨m',hm,w7⟩:=hN σ7 H7 n7;refine⟨m',hm,i+1,σ7,H7,I7.dZ,T.keep _ _ _ st5 fun b hb o e=>(I7.pin (b,o) (MJ _ (MJ _ (eK hb e)))).1,fun b hb=>?_,w7⟩;obtain⟨o,e,d⟩:=T.obj _ _ st5 b hb;exact(I7.pin (b,o) (MJ _ (MJ _ (eK hb e)))).2.1
  cases f with
  |next=>obtain⟨σ7,H7,I7,n7⟩:=q7;exact again I7 n7
  |cont=>obtain⟨σ7,H7,I7,n7⟩:=q7;exact again I7 n7
  |brk=>obtain⟨σ7,H7,I7,q7⟩:=q7;exact⟨σ7,H7,I7.dZ,q7⟩
  |ret v=>obtain⟨x7,σ7,H7,I7,r7,q7⟩:=q7;exact⟨x7,σ7,H7,I7.dZ,r7,q7⟩
end
theorem lz{K:W.Frag}{a:MY}{xs:List V}{g:TG}{tb:TS}{D:Ends}{σ:St}{H:Hp}(Pv:Nat->St->Hp->Prop)(h0:Pv 0 σ H)(hl:∀i σ H,i<=xs.length->Pv i σ H->aJ K H a xs)
  (hs:∀i x σ H,xs[i]?=some x->Pv i σ H->g x σ H fun σ2 H2=>tb {D with nx:=Pv (i+1),ct:=Pv (i+1),bk:=D.nx} σ2 H2) (hd:∀σ H,Pv xs.length σ H->D.nx σ H):
  ∃W:Nat->Nat->St->Hp->Prop,(∃m,W 0 m σ H)/\∀i m σ H,W i m σ H->
   ((Dd K a).stop i H/\D.nx σ H)\/((Dd K a).go i H/\∃N:St->Hp->Prop,(∀σ' H',N σ' H'->∃m',m'<m/\W (i+1) m' σ' H')/\∀x H',(Dd K a).FU i H x H'->g x σ H' fun σ2 H2=>tb {D with nx:=N,ct:=N,bk:=D.nx} σ2 H2):=by
 refine⟨fun i m σ H=>m=xs.length-i/\i<=xs.length/\Pv i σ H,⟨xs.length,by simp,MT _,h0⟩,?_⟩;rintro i m σ H ⟨rfl,hi,p⟩;have q:=hl i σ H hi p;by_cases hlt:i<xs.length
 .refine .inr ⟨⟨xs,xs[i],q,by simp[hlt]⟩,Pv (i+1),fun σ' H' p'=>⟨xs.length-(i+1),by lia,rfl,hlt,p'⟩,fun x H' y=>?_⟩
  obtain⟨e,y⟩:=y;subst e;exact hs i x σ _ (y xs q) p
 .have e:i=xs.length:=by lia
  subst e;exact .inl ⟨⟨xs,q,MP _⟩,hd σ H p⟩
theorem eL{lo:Int}{n:Nat}{g:TG}{tb:TS}{D:Ends}{σ:St}{H:Hp}(Pv:Nat->St->Hp->Prop)(h0:Pv 0 σ H)
  (hs:∀i σ H,i<n->Pv i σ H->g (.int (lo+i)) σ H fun σ2 H2=>tb {D with nx:=Pv (i+1),ct:=Pv (i+1),bk:=D.nx} σ2 H2) (hd:∀σ H,Pv n σ H->D.nx σ H):
  ∃W:Nat->Nat->St->Hp->Prop,(∃m,W 0 m σ H)/\∀i m σ H,W i m σ H->
   ((FA lo n).stop i H/\D.nx σ H)\/((FA lo n).go i H/\∃N:St->Hp->Prop,(∀σ' H',N σ' H'->∃m',m'<m/\W (i+1) m' σ' H')/\∀x H',(FA lo n).FU i H x H'->g x σ H' fun σ2 H2=>tb {D with nx:=N,ct:=N,bk:=D.nx} σ2 H2):=by
 refine⟨fun i m σ H=>m=n-i/\i<=n/\Pv i σ H,⟨n,by simp,MT _,h0⟩,?_⟩;rintro i m σ H ⟨rfl,hi,p⟩;by_cases hlt:i<n
 .refine .inr ⟨hlt,Pv (i+1),fun σ' H' p'=>⟨n-(i+1),by lia,rfl,hlt,p'⟩,fun x H' y=>?_⟩
  obtain⟨e,y⟩:=y;subst e y;exact hs i σ _ hlt p
 .have e:i=n:=by lia
  subst e;exact .inl ⟨MP _,hd σ H p⟩
abbrev R2:=V->V->Hp->VK->Prop
def jP(X:Cx)(f:MX->MX->Sem MX)(r:R2):Prop:=
 ∀(pins:List (MY×Obj))(s:MZ)(σ:St)(H:Hp)(x y:V)(v u:MX)(Q:VK),Inv X pins σ H s->RelV x v->RelV y u->r x y H Q->
  Nf (model X.prog X.w) X.A (f v u) (EP X pins σ Q) X.xe s
def KR(X:Cx)(f:MX->Sem MX)(r:V->Hp->VK->Prop):Prop:=
 ∀(pins:List (MY×Obj))(s:MZ)(σ:St)(H:Hp)(x:V)(v:MX)(Q:VK),Inv X pins σ H s->RelV x v->r x H Q->
  Nf (model X.prog X.w) X.A (f v) (EP X pins σ Q) X.xe s
def bY(X:Cx)(f:MX)(r:List V->Hp->VK->Prop):Prop:=
 ∀(pins:List (MY×Obj))(s:MZ)(σ:St)(H:Hp)(xs:List V)(us:List MX)(Q:VK),Inv X pins σ H s->Vals xs us->r xs H Q->
  Nf (model X.prog X.w) X.A (call f us) (EP X pins σ Q) X.xe s
def KQ(X:Cx)(r:V->Hp->(Bool->Hp->Prop)->Prop):Prop:=
 ∀(pins:List (MY×Obj))(s:MZ)(σ:St)(H:Hp)(x:V)(v:MX)(Q:Bool->Hp->Prop),Inv X pins σ H s->RelV x v->r x H Q->
  Nf (model X.prog X.w) X.A (truthy v) (TP X pins σ Q) X.xe s
def yg(r:R2)(ta tb:TE):TE:=fun σ H Q=>ta σ H fun x H1=>tb σ H1 fun y H2=>r x y H2 Q
def LW(r:V->Hp->VK->Prop)(ta:TE):TE:=fun σ H Q=>ta σ H fun x H1=>r x H1 Q
def rI(C:Int->Int->Prop)(g:Int->Int->V):R2:=fun x y H Q=>∃i j,x= .int i/\y= .int j/\C i j/\Q (g i j) H
def Ap(g:Int->Int->V):R2:=fun x y H Q=>∃i j,x= .int i/\y= .int j/\Q (g i j) H
def rU(g:Int->V):V->Hp->VK->Prop:=fun x H Q=>∃i,x= .int i/\Q (g i) H
section
variable{X:Cx}{a b c:Expr}{ta tb tc:TE}{pos:Pos}
theorem Hn(ha:PE X a ta)(hb:PE X b tb){pins:List (MY×Obj)}{s:MZ}{σ:St}{H:Hp}{R:V->V->Hp->Prop}(I:Inv X pins σ H s)
  (h:ta σ H fun x H1=>tb σ H1 fun y H2=>R x y H2) {Q:MX->MZ->Prop} {f:MX->MX->Sem MX}
  (hf:∀v u s2 x y H2,Inv X pins σ H2 s2->RelV x v->RelV y u->R x y H2->Nf (model X.prog X.w) X.A (f v u) Q X.xe s2):
  Nf (model X.prog X.w) X.A (eval a X.env) (fun v s₁=>Nf (model X.prog X.w) X.A (eval b X.env) (fun u s₂=>Nf (model X.prog X.w) X.A (f v u) Q X.xe s₂) X.xe s₁) X.xe s:=by
 refine aY (ha pins s σ H _ I h) fun v s1 ⟨x,H1,I1,r1,q1⟩=>?_;refine aY (hb pins s1 σ H1 _ I1 q1) fun u s2 ⟨y,H2,I2,r2,q2⟩=>?_;exact hf v u s2 x y H2 I2 r1 r2 q2
theorem av{op:Operator}{r:R2}(ho:jP X (binaryOp op) r)(ha:PE X a ta)(hb:PE X b tb):PE X (.BinOp a op b pos) (yg r ta tb):=by
 intro pins s σ H Q I h;exact wpAny_BinOp (Hn ha hb I h fun v u s2 x y H2 I2 rx ry q=>ho pins s2 σ H2 x y v u Q I2 rx ry q)
theorem Fl{op:UnaryOp}{r:V->Hp->VK->Prop}(ho:KR X (unaryOp op) r)(ha:PE X a ta):PE X (.UnaryOp op a pos) (LW r ta):=by
 intro pins s σ H Q I h;exact UnaryOp_ (aY (ha pins s σ H _ I h) fun v s1 ⟨x,H1,I1,r1,q1⟩=>ho pins s1 σ H1 x v Q I1 r1 q1)
theorem Kw{f:MX->MX->Sem MX}{C:Int->Int->Prop}{g:Int->Int->Int}
  (rule:∀(i j:Int)(t u:Tok)(s:MZ)(Q:MX->MZ->Prop)(E:MX->MZ->Prop),C i j->Q (.int (g i j) s.toks) {s with toks:=s.toks+1}->Nf (model X.prog X.w) X.A (f (.int i t) (.int j u)) Q E s):
  jP X f (rI C fun i j=> .int (g i j)):=by
 intro pins s σ H x y v u Q I rx ry h;obtain⟨i,j,rfl,rfl,hc,q⟩:=h;obtain⟨t,rfl⟩:=rx;obtain⟨t',rfl⟩:=ry;exact rule i j t t' s _ _ hc ⟨.int (g i j),H,I.tok _,⟨_,rfl⟩,q⟩
theorem JI{f:MX->MX->Sem MX}{g:Int->Int->Int}
  (rule:∀(i j:Int)(t u:Tok)(s:MZ)(Q:MX->MZ->Prop)(E:MX->MZ->Prop),Q (.int (g i j) s.toks) {s with toks:=s.toks+1}->Nf (model X.prog X.w) X.A (f (.int i t) (.int j u)) Q E s):
  jP X f (Ap fun i j=> .int (g i j)):=by
 intro pins s σ H x y v u Q I rx ry h;obtain⟨i,j,rfl,rfl,q⟩:=h;obtain⟨t,rfl⟩:=rx;obtain⟨t',rfl⟩:=ry;exact rule i j t t' s _ _ ⟨.int (g i j),H,I.tok _,⟨_,rfl⟩,q⟩
theorem E6{f:MX->MX->Sem MX}{g:Int->Int->Bool}
  (rule:∀(i j:Int)(t u:Tok)(s:MZ)(Q:MX->MZ->Prop)(E:MX->MZ->Prop),Q (.bool (g i j)) s->Nf (model X.prog X.w) X.A (f (.int i t) (.int j u)) Q E s):
  jP X f (Ap fun i j=> .bl (g i j)):=by
 intro pins s σ H x y v u Q I rx ry h;obtain⟨i,j,rfl,rfl,q⟩:=h;obtain⟨t,rfl⟩:=rx;obtain⟨t',rfl⟩:=ry;exact rule i j t t' s _ _ ⟨.bl (g i j),H,I,rfl,q⟩
def KP(i j:Int):Prop:=0<=j/\j<=1000000/\i.natAbs<2^64
def Gk(i j:Int):Prop:=(-(2^64)<i/\i<2^64)\/(-(2^64)<j/\j<2^64)
theorem Gk.ok {i j:Int}(h:Gk i j):IntMulOk i j:=by
 rcases h with⟨h1,h2⟩|⟨h1,h2⟩
 .exact .of_left (intBits_le_64 h1 h2)
 .exact .of_right (intBits_le_64 h1 h2)
theorem aS:jP X (binaryOp .Add) (Ap fun i j=> .int (i+j)):=JI fun _ _ _ _ _ _ _ q=>add_int q
theorem bU:jP X (binaryOp .Sub) (Ap fun i j=> .int (i-j)):=JI fun _ _ _ _ _ _ _ q=>sub_int q
theorem ki:jP X (binaryOp .Mult) (rI Gk fun i j=> .int (i*j)):=Kw fun _ _ _ _ _ _ _ hc q=>mul_int q hc.ok
theorem gC:jP X (binaryOp .Mod) (rI (fun _ j=>0<j) fun i j=> .int (i%j)):=Kw fun i j _ _ _ _ _ hc q=>by
 have h1:(0:Int)<j:=hc;exact mod_int' (by lia) (by rw[Int.fmod_eq_emod_of_nonneg i (by lia)];exact q)
theorem rZ:jP X (binaryOp .Pow) (rI KP fun i j=> .int (i^j.toNat)):=Kw fun _ _ _ _ _ _ _ hc q=>pow_int_small hc.1 hc.2.1 hc.2.2 q
theorem Mf{f:MX->Sem MX}{g:Int->Int}
  (rule:∀(i:Int)(t:Tok)(s:MZ)(Q:MX->MZ->Prop)(E:MX->MZ->Prop),Q (.int (g i) s.toks) {s with toks:=s.toks+1}->Nf (model X.prog X.w) X.A (f (.int i t)) Q E s):
  KR X f (rU fun i=> .int (g i)):=by
 intro pins s σ H x v Q I rx h;obtain⟨i,rfl,q⟩:=h;obtain⟨t,rfl⟩:=rx;exact rule i t s _ _ ⟨.int (g i),H,I.tok _,⟨_,rfl⟩,q⟩
theorem A3:KR X (unaryOp .USub) (rU fun i=> .int (-i)):=Mf fun _ _ _ _ _ q=>neg_int q
end
def Kb:V->V->Bool
 | .de,.de=>true| .de,.int _=>true| .int _,.de=>true| .de,.bl _=>true| .bl _,.de=>true| .de,.str _=>true| .str _,.de=>true
 | .int _,.int _=>true| .bl _,.bl _=>true| .str _,.str _=>true| .byt _,.byt _=>true
 | .int _,.str _=>true| .str _,.int _=>true| .bl _,.str _=>true| .str _,.bl _=>true
 |_,_=>false
def LY:R2:=fun x y H Q=>Kb x y=true/\Q (.bl (decide (x=y))) H
def Mh:R2:=fun x y H Q=>Kb x y=true/\Q (.bl (!decide (x=y))) H
theorem yq{i j:Int}:decide (V.int i=V.int j)=(i==j):=by
 rw[Bool.eq_iff_iff];simp
theorem Cw{i j:Bool}:decide (V.bl i=V.bl j)=(i==j):=by
 rw[Bool.eq_iff_iff];simp
theorem yC{i j:Str}:decide (V.str i=V.str j)=(i==j):=by
 rw[Bool.eq_iff_iff];simp
theorem x6{i j:Array UInt8}:decide (V.byt i=V.byt j)=(i.toList==j.toList):=by
 rw[Bool.eq_iff_iff];cases i;cases j;simp
section
variable{X:Cx}{a b c:Expr}{ta tb tc:TE}{pos:Pos}
theorem bq{pins:List (MY×Obj)}{σ:St}{H:Hp}{s:MZ}{Q:VK}{k k':Bool}(I:Inv X pins σ H s)(q:Q (.bl k) H)(e:k=k'):EP X pins σ Q (.bool k') s:=by
 subst e;exact⟨.bl k,H,I,rfl,q⟩
theorem cR:jP X (compareOp .Eq) LY:=by
 intro pins s σ H x y v u Q I rx ry h;obtain⟨hs,q⟩:=h
 cases x with
 |de=>
  cases rx
  cases y with
  |de=>cases ry;exact PySem.EqNone.eq_none_none (bq I q (by simp))
  |bl j=>cases ry;exact PySem.EqNone.eq_none_bool (bq I q (by simp))
  |int j=>obtain⟨t',rfl⟩:=ry;exact PySem.EqNone.eq_none_int (bq I q (by simp))
  |str j=>obtain⟨t',rfl⟩:=ry;exact PySem.EqNone.eq_none_str (bq I q (by simp))
  |_=>exact absurd (show false=true from hs) MU
 |bl i=>
  cases rx
  cases y with
  |de=>cases ry;exact PySem.EqNone.eq_bool_none (bq I q (by simp))
  |bl j=>cases ry;exact eq_bool (bq I q Cw)
  |str j=>obtain⟨t',rfl⟩:=ry;exact PySem.EqMixed.eq_bool_str (bq I q (by simp))
  |_=>exact absurd (show false=true from hs) MU
 |int i=>
  obtain⟨t,rfl⟩:=rx
  cases y with
  |de=>cases ry;exact PySem.EqNone.eq_int_none (bq I q (by simp))
  |int j=>obtain⟨t',rfl⟩:=ry;exact eq_int (bq I q yq)
  |str j=>obtain⟨t',rfl⟩:=ry;exact PySem.EqMixed.eq_int_str (bq I q (by simp))
  |_=>exact absurd (show false=true from hs) MU
 |str i=>
  obtain⟨t,rfl⟩:=rx
  cases y with
  |de=>cases ry;exact PySem.EqNone.eq_str_none (bq I q (by simp))
  |bl j=>cases ry;exact PySem.EqMixed.eq_str_bool (bq I q (by simp))
  |int j=>obtain⟨t',rfl⟩:=ry;exact PySem.EqMixed.eq_str_int (bq I q (by simp))
  |str j=>obtain⟨t',rfl⟩:=ry;exact eq_str (bq I q yC)
  |_=>exact absurd (show false=true from hs) MU
 |byt i=>
  obtain⟨t,rfl⟩:=rx
  cases y with
  |byt j=>obtain⟨t',rfl⟩:=ry;exact W.eq_bytes (bq I q x6)
  |_=>exact absurd (show false=true from hs) MU
 |_=>cases y<;>exact absurd (show false=true from hs) MU
theorem iH:jP X (compareOp .NotEq) Mh:=by
 intro pins s σ H x y v u Q I rx ry h;obtain⟨hs,q⟩:=h
 cases x with
 |de=>
  cases rx
  cases y with
  |de=>cases ry;exact PySem.EqNone.ne_none_none (bq I q (by simp))
  |bl j=>cases ry;exact PySem.EqNone.ne_none_bool (bq I q (by simp))
  |int j=>obtain⟨t',rfl⟩:=ry;exact PySem.EqNone.ne_none_int (bq I q (by simp))
  |str j=>obtain⟨t',rfl⟩:=ry;exact PySem.EqNone.ne_none_str (bq I q (by simp))
  |_=>exact absurd (show false=true from hs) MU
 |bl i=>
  cases rx
  cases y with
  |de=>cases ry;exact PySem.EqNone.ne_bool_none (bq I q (by simp))
  |bl j=>cases ry;exact ne_bool (bq I q (congrArg not Cw))
  |str j=>obtain⟨t',rfl⟩:=ry;exact PySem.EqMixed.ne_bool_str (bq I q (by simp))
  |_=>exact absurd (show false=true from hs) MU
 |int i=>
  obtain⟨t,rfl⟩:=rx
  cases y with
  |de=>cases ry;exact PySem.EqNone.ne_int_none (bq I q (by simp))
  |int j=>obtain⟨t',rfl⟩:=ry;exact ne_int (bq I q (congrArg not yq))
  |str j=>obtain⟨t',rfl⟩:=ry;exact PySem.EqMixed.ne_int_str (bq I q (by simp))
  |_=>exact absurd (show false=true from hs) MU
 |str i=>
  obtain⟨t,rfl⟩:=rx
  cases y with
  |de=>cases ry;exact PySem.EqNone.ne_str_none (bq I q (by simp))
  |bl j=>cases ry;exact PySem.EqMixed.ne_str_bool (bq I q (by simp))
  |int j=>obtain⟨t',rfl⟩:=ry;exact PySem.EqMixed.ne_str_int (bq I q (by simp))
  |str j=>obtain⟨t',rfl⟩:=ry;exact ne_str (bq I q (congrArg not yC))
  |_=>exact absurd (show false=true from hs) MU
 |byt i=>
  obtain⟨t,rfl⟩:=rx
  cases y with
  |byt j=>obtain⟨t',rfl⟩:=ry;exact W.ne_bytes (bq I q (congrArg not x6))
  |_=>exact absurd (show false=true from hs) MU
 |_=>cases y<;>exact absurd (show false=true from hs) MU
theorem oK:jP X (compareOp .Lt) (Ap fun i j=> .bl (decide (i<j))):=E6 fun _ _ _ _ _ _ _ q=>lt_int q
theorem t8:jP X (compareOp .LtE) (Ap fun i j=> .bl (decide (i<=j))):=E6 fun _ _ _ _ _ _ _ q=>le_int q
theorem jS:jP X (compareOp .Gt) (Ap fun i j=> .bl (decide (j<i))):=E6 fun _ _ _ _ _ _ _ q=>gt_int q
theorem Ga:jP X (compareOp .GtE) (Ap fun i j=> .bl (decide (j<=i))):=E6 fun _ _ _ _ _ _ _ q=>ge_int q
theorem aG(b:Expr){op:CmpOp}(h:op≠.In:=by decide)(h2:op≠.NotIn:=by decide):behindInMarks op b=false:=by
 have e1:(op==CmpOp.In)=false:=by cases op<;>first|rfl|exact absurd rfl h
 have e2:(op==CmpOp.NotIn)=false:=by cases op<;>first|rfl|exact absurd rfl h2
 cases b<;>simp[behindInMarks,e1,e2]
theorem rW{op:CmpOp}{r:R2}(ho:jP X (compareOp op) r)(ha:PE X a ta)(hb:PE X b tb)(hm:behindInMarks op b=false):PE X (.Compare a [op] [b] pos) (yg r ta tb):=by
 intro pins s σ H Q I h;exact wpAny_Compare1 (Hn ha hb I h fun v u s2 x y H2 I2 rx ry q=>ho pins s2 σ H2 x y v u Q I2 rx ry q) hm
def AI(t:TE):TT:=fun σ H Q=>t σ H fun x H'=>∃k,x= .bl k/\Q k H'
theorem ax{op:CmpOp}{r:R2}(ho:jP X (compareOp op) r)(ha:PE X a ta)(hb:PE X b tb)(hm:behindInMarks op b=false):PT X (.Compare a [op] [b] pos) (AI (yg r ta tb)):=by
 intro pins s σ H Q I h;refine wpAny_isTrue_Compare1 (aY (ha pins s σ H _ I h) fun v s1 ⟨x,H1,I1,r1,q1⟩=>aY (hb pins s1 σ H1 _ I1 q1) fun u s2 ⟨y,H2,I2,r2,q2⟩=>
  aY (ho pins s2 σ H2 x y v u _ I2 r1 r2 q2) fun c s3 ⟨z,H3,I3,r3,k,e,q3⟩=>?_) hm
 subst e;cases r3;exact wpAny_truthy_bool ⟨H3,I3,q3⟩
def By(r r':R2)(ta tb tc:TE):TE:=fun σ H Q=>ta σ H fun x H1=>tb σ H1 fun y H2=>r x y H2 fun z H3=>∃k,z= .bl k/\
 (if k=true then tc σ H3 fun w' H4=>r' y w' H4 Q else Q (.bl false) H3)
theorem AZ{op op':CmpOp}{r r':R2}(ho:jP X (compareOp op) r)(ho':jP X (compareOp op') r')(ha:PE X a ta)(hb:PE X b tb)(hc:PE X c tc)
  (hm:lastMarks [op,op'] [b,c]=false:=by with_unfolding_all rfl):PE X (.Compare a [op,op'] [b,c] pos) (By r r' ta tb tc):=by
 intro pins s σ H Q I h;refine Compare_chain (aY (ha pins s σ H _ I h) fun v s1 ⟨x,H1,I1,r1,q1⟩=>chain_link (aY (hb pins s1 σ H1 _ I1 q1) fun u s2 ⟨y,H2,I2,r2,q2⟩=>
  aY (ho pins s2 σ H2 x y v u _ I2 r1 r2 q2) fun d s3 ⟨z,H3,I3,r3,k,e,q3⟩=>?_)) hm
 subst e;cases r3;refine wpAny_truthy_bool ?_
 cases k with
 |false=>exact ite_ff ⟨.bl false,H3,I3,rfl,q3⟩
 |true=>exact ite_tt (chain_last (aY (hc pins s3 σ H3 _ I3 q3) fun w' s4 ⟨z',H4,I4,r4,q4⟩=>ho' pins s4 σ H4 y z' u w' Q I4 r2 r4 q4))
theorem uT{op op':CmpOp}{r r':R2}(ho:jP X (compareOp op) r)(ho':jP X (compareOp op') r')(ha:PE X a ta)(hb:PE X b tb)(hc:PE X c tc)
  (hm:lastMarks [op,op'] [b,c]=false:=by with_unfolding_all rfl):PT X (.Compare a [op,op'] [b,c] pos) (AI (By r r' ta tb tc)):=by
 intro pins s σ H Q I h;refine isTrue_chain (aY (ha pins s σ H _ I h) fun v s1 ⟨x,H1,I1,r1,q1⟩=>test_link (aY (hb pins s1 σ H1 _ I1 q1) fun u s2 ⟨y,H2,I2,r2,q2⟩=>
  aY (ho pins s2 σ H2 x y v u _ I2 r1 r2 q2) fun d s3 ⟨z,H3,I3,r3,k,e,q3⟩=>?_)) hm
 subst e;cases r3;refine wpAny_truthy_bool ?_
 cases k with
 |false=>
  obtain⟨k',e',q'⟩:=q3;cases e';exact ite_ff ⟨H3,I3,q'⟩
 |true=>
  refine ite_tt (test_last (aY (hc pins s3 σ H3 _ I3 q3) fun w' s4 ⟨z',H4,I4,r4,q4⟩=>aY (ho' pins s4 σ H4 y z' u w' _ I4 r2 r4 q4) fun d' s5 ⟨z2,H5,I5,r5,k2,e2,q5⟩=>?_));subst e2;cases r5;exact wpAny_truthy_bool ⟨H5,I5,q5⟩
def Gw(K:W.Frag)(x:V)(H:Hp)(k:Bool):Prop:=
 match x with
 | .de=>k=false
 | .bl b=>k=b
 | .int i=>k=(i !=0)
 | .str y=>y.length<=M5/\k=((y.length:Int) !=0)
 | .byt y=>y.size<=M5/\k=((y.size:Int) !=0)
 | .ref p=>(∃xs,aJ K H p xs/\k= !xs.isEmpty)\/(∃xs,dI K H p xs/\k= !xs.isEmpty)\/∃kvs,H p=some (.dK kvs)/\k= !kvs.isEmpty
 |_=>False
theorem vX{κ:Type}{kvs:List (κ×V)}{vs:List (κ×MX)}(r:KV kvs vs):(!vs.isEmpty)= !kvs.isEmpty:=by
 cases r<;>rfl
theorem oG{xs:List V}{its:List MX}(r:Vals xs its):(!its.toArray.isEmpty)= !xs.isEmpty:=by
 cases r<;>simp
theorem l6:(M5:Nat)<2^63:=by rw[sizeLine_eq];decide
theorem Hy:KQ X (fun x H Q=>∃k,Gw X.K x H k/\Q k H):=by
 intro pins s σ H x v Q I rx h;obtain⟨k,e,q⟩:=h;have hl:=l6;have hs:M5=16777216:=sizeLine_eq
 cases x with
 |de=>
  cases rx;have e':k=false:=e;subst e';exact truthy_none ⟨H,I,q⟩
 |bl b=>
  cases rx;have e':k=b:=e;subst e';exact wpAny_truthy_bool ⟨H,I,q⟩
 |int i=>
  obtain⟨t,rfl⟩:=rx;have e':k=(i !=0):=e;subst e';exact PySem.P.truthy_int ⟨H,I,q⟩
 |str y=>
  obtain⟨t,rfl⟩:=rx;obtain⟨hy,e'⟩:y.length<=M5/\k=((y.length:Int) !=0):=e;subst e';exact PySem.P.truthy_str (by lia) ⟨H,I.tok _,q⟩
 |byt y=>
  obtain⟨t,rfl⟩:=rx;obtain⟨hy,e'⟩:y.size<=M5/\k=((y.size:Int) !=0):=e;subst e';exact W.truthy_bytes (by lia) ⟨H,I.tok _,q⟩
 |ref p=>
  cases rx;have e':(∃xs,aJ X.K H p xs/\k= !xs.isEmpty)\/(∃xs,dI X.K H p xs/\k= !xs.isEmpty)\/∃kvs,H p=some (.dK kvs)/\k= !kvs.isEmpty:=e;rcases e' with⟨xs,hx,e'⟩|⟨xs,hx,e'⟩|⟨kvs,hx,e'⟩
  .subst e'
   obtain⟨its,r,pl,hz⟩:=I.list hx;have hlen:=r.length;exact wpAny_truthy_list pl.isList (by simp only[ML];lia) ⟨H,I.tok _,by rw[oG r];exact q⟩
  .subst e'
   obtain⟨its,r,pl,hz⟩:=I.tuple hx;have hlen:=r.length;exact truthy_tuple pl (by simp only[ML];lia) ⟨H,I.tok _,by rw[oG r];exact q⟩
  .subst e'
   obtain⟨hz,hS,vs,r,m⟩:kvs.length<=M5/\(p==sysModules)=false/\∃vs,KV kvs vs/\s.heap.DictOf (aW X.prog X.w) p vs:=I.aX p _ hx;have hlen:kvs.length=vs.length:=Paired.length r;exact wpAny_truthy_dict hS m (by lia) ⟨H,I.tok _,by rw[vX r];exact q⟩
 |_=>exact(show False from e).elim
theorem eF:jP X (binaryOp .Add) (fun x y H Q=>∃i j,x= .str i/\y= .str j/\i.length+j.length<=M5/\Q (.str (i++j)) H):=by
 intro pins s σ H x y v u Q I rx ry h;obtain⟨i,j,rfl,rfl,hz,q⟩:=h;obtain⟨t,rfl⟩:=rx;obtain⟨t',rfl⟩:=ry;exact add_str (fun t' tk=>⟨.str (i++j),H,I.tok _,⟨_,rfl⟩,q⟩) hz
theorem vals1{x:V}{us:List MX}(r:Vals [x] us):∃u,us=[u]/\RelV x u:=by
 cases r with
 |cons r1 r2=>cases r2;exact⟨_,rfl,r1⟩
theorem vals2{x y:V}{us:List MX}(r:Vals [x,y] us):∃u w',us=[u,w']/\RelV x u/\RelV y w':=by
 cases r with
 |cons r1 r2=>
  cases r2 with
  |cons r3 r4=>cases r4;exact⟨_,_,rfl,r1,r3⟩
theorem AL:bY X (.builtin "abs") (fun xs H Q=>∃i,xs=[.int i]/\Q (.int (if i<0 then-i else i)) H):=by
 intro pins s σ H xs us Q I r h;obtain⟨i,rfl,q⟩:=h;obtain⟨u,rfl,t,rfl⟩:=vals1 r;exact call_abs_int fun u tk=>⟨.int (if i<0 then-i else i),H,I.tok _,⟨_,rfl⟩,q⟩
theorem jC(hc:X.calm=true):bY X (.builtin "max") (fun xs H Q=>∃i j,xs=[.int i,.int j]/\Q (.int (if j>i then j else i)) H):=by
 intro pins s σ H xs us Q I r h;obtain⟨i,j,rfl,q⟩:=h;obtain⟨u,w',rfl,⟨t,rfl⟩,⟨t',rfl⟩⟩:=vals2 r;refine max_two_ints (I.ok.hd hc) fun h' tk k=>⟨_,H,I.kept k,?_,q⟩;by_cases hj:j>i
 .rw[if_pos hj,if_pos hj];exact⟨_,rfl⟩
 .rw[if_neg hj,if_neg hj];exact⟨_,rfl⟩
theorem jn(hc:X.calm=true):bY X (.builtin "min") (fun xs H Q=>∃i j,xs=[.int i,.int j]/\Q (.int (if j<i then j else i)) H):=by
 intro pins s σ H xs us Q I r h;obtain⟨i,j,rfl,q⟩:=h;obtain⟨u,w',rfl,⟨t,rfl⟩,⟨t',rfl⟩⟩:=vals2 r;refine min_two_ints (I.ok.hd hc) fun h' tk k=>⟨_,H,I.kept k,?_,q⟩;by_cases hj:j<i
 .rw[if_pos hj,if_pos hj];exact⟨_,rfl⟩
 .rw[if_neg hj,if_neg hj];exact⟨_,rfl⟩
theorem qK:bY X (.type "int") (fun xs H Q=>(∃i,xs=[.int i]/\Q (.int i) H)\/∃k,xs=[.bl k]/\Q (.int (if k then 1 else 0)) H):=by
 intro pins s σ H xs us Q I r h;rcases h with⟨i,rfl,q⟩|⟨k,rfl,q⟩
 .obtain⟨u,rfl,t,rfl⟩:=vals1 r
  exact call_int_int ⟨.int i,H,I,⟨_,rfl⟩,q⟩
 .obtain⟨u,rfl,r1⟩:=vals1 r
  cases r1;exact call_int_bool ⟨.int (if k then 1 else 0),H,I.tok _,⟨_,rfl⟩,q⟩
theorem bJ:bY X (.type "str") (fun xs H Q=>∃i,xs=[.int i]/\i.natAbs.log2<1920/\Q (.str (toString i)) H):=by
 intro pins s σ H xs us Q I r h;obtain⟨i,rfl,hz,q⟩:=h;obtain⟨u,rfl,t,rfl⟩:=vals1 r;exact PySem.P.str_of_int hz ⟨.str _,H,I.tok _,⟨_,rfl⟩,q⟩
end
structure wZ(h:Nc)(x dx C:MY)(mA:Str->Option MX):Prop where
 obj:h.get? x=some (W.instObj C dx)
 ns:h.Ns1 dx mA
 ne:dx≠x
theorem zD{h:Nc}{dx:MY}{mA:Str->Option MX}(n:h.Ns1 dx mA):∃od,h.get? dx=some od/\∀name,W.lookIn name od=some (mA name):=by
 obtain⟨o,es,ep,ho,hd,hk,_,hm⟩:=n;refine⟨o,ho,fun name=>?_⟩;have e:=hm name;unfold nsFind findBy at e;rw[←Array.find?_toList]at e;unfold W.lookIn;rw[hd];dsimp only
 split
 .rename_i y q
  rw[q]at e;exact congrArg some e
 .rename_i q
  rw[q]at e;have a:es.toList.any (·.refKey)=false:=by
   rw[List.any_eq_false];intro y hy;obtain⟨z,t,hkey⟩:=hk y (Array.mem_toList_iff.mp hy);simp[DictEntry.refKey,hkey]
  have a':¬es.toList.any (·.refKey)=true:=by rw[a];exact MU
  rw[if_neg a'];exact congrArg some e
theorem wZ.look {h:Nc}{x dx C:MY}{mA:Str->Option MX}(I:wZ h x dx C mA):∃od,W.InstAt h x (W.instObj C dx) C (some od)/\∀name,W.lookIn name od=some (mA name):=
 let⟨od,ho,hl⟩:=zD I.ns
 ⟨od,⟨I.obj,rfl,rfl,ho⟩,hl⟩
section
variable{prog:M0}{w:M3}{A:M4}{E:MX->MZ->Prop}{s:MZ}{K:W.Frag}{x dx C f:MY}{mA:Str->Option MX}{name:Str}{v:MX}
theorem get_map{expr:Bool}{Q:MX->MZ->Prop}(X:K.In s.heap)(I:wZ s.heap x dx C mA)(hg:W.plainGet K C name=true)(hh:W.hasDictIn K C=true)
  (ha:W.findIn K (.ref C) name=some none) (hv:mA name=some v) (hv':W.handedIn v=true) (h:Q v {s with toks:=s.toks+1}):
  Nf (model prog w) A (getAttr (.ref x) name expr) Q E s:=by
 obtain⟨od,J,hl⟩:=I.look;exact W.get_value X J (W.plainGet_of hg).1 (W.findObj_own hh ha rfl (by rw[hl,hv])) hv' h
theorem CO{pl:Sem Bool}{Q:MX×List MX->MZ->Prop}(X:K.In s.heap)(I:wZ s.heap x dx C mA)(hg:W.plainGet K C name=true)
  (hf:W.findIn K (.ref C) name=some (some (.ref f))) (ht:W.isFn K (.ref f)=true) (hv:mA name=none) (h:Q (.ref f,[.ref x]) s):
  Nf (model prog w) A (getMethod (.ref x) name pl) Q E s:=by
 obtain⟨od,J,hl⟩:=I.look;exact W.method_fn X J (W.plainGet_of hg).1 (W.plainGet_of hg).2 hf (beq_iff_eq.mp ht) (by show(W.lookIn name od).map (·.isSome)=some false;rw[hl,hv];rfl) h
theorem EI{ns:List Str}{Q:Unit->MZ->Prop}(X:K.In s.heap)(I:wZ s.heap x dx C mA)
  (hs:W.findIn K (.ref C) "__setattr__" =some (some (.builtin "object.__setattr__"))) (hp:W.plainOver K C=true) (ht:W.takerIn K C name=some none) (hh:W.hasDictIn K C=true)
  (hw:PySem.Within mA ns) (hsz:ns.length<=M5)
  (h:∀h',wZ h' x dx C (fun y=>if y=name then some v else mA y)->Nc.SameBut dx s.heap h'->Q () {s with heap:=h',toks:=s.toks+2}):
  Nf (model prog w) A (setAttr (.ref x) name v) Q E s:=by
 obtain⟨od,J,hl⟩:=I.look;refine W.set_plain X J hs (W.osa_open (s:={s with toks:=s.toks+1}) (r:=none) X J hp ht fun b=>?_);obtain⟨cd,hc,hd'⟩:=W.any_some hh;have hx:s.heap.get? x=some ⟨.ref C,some dx,.plain,#[]⟩:=I.obj;refine M7 (M8 (M7 (M7 (wpAny_loadPart hx (M7 (W.Looks.here (s:={s with toks:=s.toks+1}) (W.looks_clsIn X hc) ?_))))));rw[hd'];refine M8 (a:=some dx) (M7 (M8 (M7 ?_)));refine wpAny_nsSet1 (s:={s with toks:=s.toks+1}) I.ns fun h' hn2 hs2=>?_;obtain⟨oD,esD,epD,hoD,hdD,hcD⟩:=hn2.count (PySem.Within.cons name v hw);refine M7 (wpAny_lookBehind hoD (by rw[hdD];exact pastItsLine_dict (MS hcD (by rw[Mz];lia))) ?_);exact M8 (h _ ⟨(hs2.2 _ (Ne.symm I.ne)).trans I.obj,hn2,I.ne⟩ hs2)
theorem BN{R:Result->MZ->Prop}{vs:List MX}{kw:List (Str×MX)}(X:K.In s.heap)(hm:W.makesIn K C=true)
  (hi:W.findIn K (.ref C) "__init__" =some (some (.ref f))) (hf:W.typeIn K (.ref f)=some (.type "function"))
  (h:codeAny (model prog w) (A.under (.builtin "type.__call__" ⟨.ref C::vs,kw⟩)) (.call (.ref f) ⟨.ref (s.heap.objs.size+1)::vs,kw⟩) (W.InitBack (s.heap.objs.size+1) R)
   {s with heap:=(s.heap.push W.emptyDict).push (W.instObj C s.heap.objs.size)}):
  codeAny (model prog w) A (.call (.ref C) ⟨vs,kw⟩) R s:=by
 obtain⟨hh,g,d,t,os⟩:=s;exact W.make_core (W.makes_of X hm) (W.looks_findIn X hi) (fun self=>W.bind_fn X self hf) (.inl rfl) h
end
def iL(f:Str)(v:V):List (Str×V)->List (Str×V)
 |[]=>[(f,v)]
 |(g,x)::r=>if g=f then(g,v)::r else(g,x)::iL f v r
theorem mU(f g:Str)(v:V):∀fs:List (Str×V),(iL f v fs).lookup g=if g=f then some v else fs.lookup g
 |[]=>by
  show List.lookup g [(f,v)]=_;by_cases h:g=f
  .have hb:(g==f)=true:=beq_iff_eq.mpr h
   simp only[List.lookup,hb,if_pos h]
  .have hb:(g==f)=false:=beq_eq_false_iff_ne.mpr h
   simp only[List.lookup,hb,if_neg h]
 |(k,x)::r=>by
  have ih:=mU f g v r;rw[show iL f v ((k,x)::r)=(if k=f then(k,v)::r else(k,x)::iL f v r)from rfl];by_cases hk:k=f
  .rw[if_pos hk]
   by_cases h:g=k
   .have hb:(g==k)=true:=beq_iff_eq.mpr h
    simp only[List.lookup,hb,if_pos (h.trans hk)]
   .have hb:(g==k)=false:=beq_eq_false_iff_ne.mpr h
    simp only[List.lookup,hb,if_neg (fun e:g=f=>h (e.trans hk.symm))]
  .rw[if_neg hk]
   by_cases h:g=k
   .have hb:(g==k)=true:=beq_iff_eq.mpr h
    simp only[List.lookup,hb,if_neg (fun e:g=f=>hk (h.symm.trans e))]
   .have hb:(g==k)=false:=beq_eq_false_iff_ne.mpr h
    simp only[List.lookup,hb];exact ih
theorem mD(f:Str)(v:V):∀fs:List (Str×V),f∈(iL f v fs).map (·.1)/\∀g,g∈fs.map (·.1)->g∈(iL f v fs).map (·.1)
 |[]=>⟨by simp[iL],fun g h=>by simp at h⟩
 |(k,x)::r=>by
  obtain⟨i1,i2⟩:=mD f v r;rw[show iL f v ((k,x)::r)=(if k=f then(k,v)::r else(k,x)::iL f v r)from rfl];by_cases hk:k=f
  .rw[if_pos hk]
   subst hk;exact⟨by simp,fun g h=>by simpa using h⟩
  .rw[if_neg hk]
   refine⟨?_,fun g h=>?_⟩
   .rw[MA]
    exact MH _ i1
   .rw[MA]at h⊢
    rcases List.mem_cons.mp h with e|e
    .exact List.mem_cons.mpr (.inl e)
    .exact MH _ (i2 g e)
theorem m7(f:Str)(v:V):∀fs:List (Str×V),(iL f v fs).length<=fs.length+1
 |[]=>by simp[iL]
 |(k,x)::r=>by
  have ih:=m7 f v r;rw[show iL f v ((k,x)::r)=(if k=f then(k,v)::r else(k,x)::iL f v r)from rfl];by_cases hk:k=f
  .rw[if_pos hk,Mz,Mz];lia
  .rw[if_neg hk,Mz,Mz];lia
theorem gZ.some_of {v:V}{o:Option MX}(r:gZ (some v) o):∃u,o=some u/\RelV v u:=by
 cases o with
 |none=>exact(show False from r).elim
 |some u=>exact⟨u,rfl,r⟩
theorem gZ.none_of {o:Option MX}(r:gZ none o):o=none:=by
 cases o with
 |none=>rfl
 |some u=>exact(show False from r).elim
theorem zq{v:V}{u:MX}(r:RelV v u):W.handedIn u=true:=by
 cases v with
 |de=>cases(show u=MX.none from r);rfl
 |bl b=>cases(show u=MX.bool b from r);rfl
 |int i=>obtain⟨t,e⟩:=(show∃t,u=MX.int i t from r);cases e;rfl
 |str x=>obtain⟨t,e⟩:=(show∃t,u=MX.str x t from r);cases e;rfl
 |byt b=>obtain⟨t,e⟩:=(show∃t,u=MX.bytes b t from r);cases e;rfl
 |nu b=>obtain⟨t,e⟩:=(show∃t,u=MX.float b t from r);cases e;rfl
 |ref a=>cases(show u=MX.ref a from r);rfl
 |ty n=>cases(show u=MX.type n from r);rfl
section
variable{P:M0}{w:M3}{H H':Hp}{h h':Nc}{a C dx:MY}{fs fs':List (Str×V)}
theorem nH(aX:jF P w H h)(e:H a=some (.ins C dx fs)):∃mA,wZ h a dx C mA/\(∀f,gZ (fs.lookup f) (mA f))/\PySem.Within mA (fs.map (·.1))/\fs.length<=1000/\H dx=some (.own a):=by
 obtain⟨d,z,ne,ob,mA,n,r,q⟩:=(show bF P w H h a (.ins C dx fs)from aX a _ e);exact⟨mA,⟨ob,n,ne⟩,r,q,z,d⟩
end
structure zK(K:W.Frag)(C:MY):Prop where
 pg:W.plainGet K C Str.empty=true
 hd:W.hasDictIn K C=true
 po:W.plainOver K C=true
 sa:W.findIn K (.ref C) "__setattr__" =some (some (.builtin "object.__setattr__"))
theorem zK.get {K:W.Frag}{C:MY}(c:zK K C)(f:Str):W.plainGet K C f=true:=c.pg
def gu(K:W.Frag)(C:MY)(f:Str):Prop:=W.findIn K (.ref C) f=some none
theorem gu.Jd {K:W.Frag}{C:MY}{f:Str}(n:gu K C f):W.takerIn K C f=some none:=by
 unfold W.takerIn;rw[show W.findIn K (.ref C) f=some none from n];rfl
structure Meth(K:W.Frag)(C:MY)(m:Str)(f:MY):Prop where
 at_:W.findIn K (.ref C) m=some (some (.ref f))
 fn:W.isFn K (.ref f)=true
 kp:W.keepIn K (.ref f)=true
section
variable{X:Cx}{pins:List (MY×Obj)}{σ:St}{H:Hp}{s:MZ}{a C dx:MY}{fs:List (Str×V)}{f:Str}{v:V}{A:M4}{E:MX->MZ->Prop}
theorem vV{b:Bool}{Q:MX->MZ->Prop}(I:Inv X pins σ H s)(e:H a=some (.ins C dx fs))(c:zK X.K C)(n:gu X.K C f)(l:fs.lookup f=some v)
  (h:∀u s',Inv X pins σ H s'->RelV v u->Q u s'):Nf (model X.prog X.w) A (getAttr (.ref a) f b) Q E s:=by
 obtain⟨mA,O,r,_,_,_⟩:=nH I.aX e;obtain⟨u,hu,ru⟩:=gZ.some_of (v:=v) (o:=mA f) (by rw[←l];exact r f);exact get_map I.jr O (c.get f) c.hd n hu (zq ru) (h u _ (I.tok _) ru)
theorem kh{m:Str}{g:MY}{pl:Sem Bool}{Q:MX×List MX->MZ->Prop}(I:Inv X pins σ H s)(e:H a=some (.ins C dx fs))(c:zK X.K C)(k:Meth X.K C m g)(l:fs.lookup m=none)
  (h:Q (.ref g,[.ref a]) s):Nf (model X.prog X.w) A (getMethod (.ref a) m pl) Q E s:=by
 obtain⟨mA,O,r,_,_,_⟩:=nH I.aX e;have hn:mA m=none:=gZ.none_of (by rw[←l];exact r m);exact CO I.jr O (c.get m) k.at_ k.fn hn h
theorem wL{y:V}{u:MX}{Q:Unit->MZ->Prop}(I:Inv X pins σ H s)(e:H a=some (.ins C dx fs))(c:zK X.K C)(n:gu X.K C f)(hl:fs.length<1000)(ry:RelV y u)
  (h:∀s',Inv X pins σ (upd H a (.ins C dx (iL f y fs))) s'->Q () s'):Nf (model X.prog X.w) A (setAttr (.ref a) f u) Q E s:=by
 obtain⟨mA,O,r,wi,_,ho⟩:=nH I.aX e;have hz:(fs.map (·.1)).length<=M5:=by rw[Mu,sizeLine_eq];lia
 refine EI I.jr O c.sa c.po n.Jd c.hd wi hz fun h' O' sb=>h _ ?_;have hd:∃o,h'.get? dx=some o:=let⟨o,_,_,e',_⟩:=O'.ns;⟨o,e'⟩
 refine I.write (x:=a) (e:=dx) (by rw[e];exact True.intro) (.inr ho) (fun b q hb z=>(sb.2 b hb).trans z) hd ?_;refine⟨by rw[aq O.ne];exact ho,?_,O.ne,O'.obj,_,O'.ns,fun g=>?_,fun g hg=>?_⟩
 .have:=m7 f y fs;lia
 .show gZ ((iL f y fs).lookup g) (if g=f then some u else mA g)
  rw[mU];by_cases q:g=f
  .rw[if_pos q,if_pos q];exact ry
  .rw[if_neg q,if_neg q];exact r g
 .by_cases q:g=f
  .rw[q];exact(mD f y fs).1
  .refine(mD f y fs).2 g (wi g fun z=>hg ?_)
   show(if g=f then some u else mA g)=none;rw[if_neg q];exact z
theorem Inv.made (I:Inv X pins σ H s):Inv X pins σ (upd (upd H s.heap.objs.size (.own (s.heap.objs.size+1))) (s.heap.objs.size+1) (.ins C s.heap.objs.size []))
  {s with heap:=(s.heap.push W.emptyDict).push (W.instObj C s.heap.objs.size)}:=by
 have e1:(s.heap.push W.emptyDict).get? s.heap.objs.size=some W.emptyDict:=Nc.get?_push_size s.heap rfl;have e2:((s.heap.push W.emptyDict).push (W.instObj C s.heap.objs.size)).get? (s.heap.objs.size+1)=some (W.instObj C s.heap.objs.size):=by
  have:=Nc.get?_push_size (s.heap.push W.emptyDict) (o:=W.instObj C s.heap.objs.size) rfl;rwa [Nc.size_push]at this
 have e3:(s.heap.push W.emptyDict).Ns s.heap.objs.size (fun _=>none):=⟨W.emptyDict,#[],_,e1,rfl,(fun e he=>absurd he (by simp)),fun _=>rfl⟩;have I1:=I.laid (a:=s.heap.objs.size) (o:= .own (s.heap.objs.size+1)) (h':=s.heap.push W.emptyDict) (t':=s.toks) (fun b u q=>Nc.get?_push_of_some _ q) (MP _) ⟨_,e1⟩;refine I1.laid (a:=s.heap.objs.size+1) (o:= .ins C s.heap.objs.size []) (t':=s.toks) (fun b u q=>Nc.get?_push_of_some _ q) (Nat.le_of_eq (Nc.size_push _ _)) ?_;have ne:s.heap.objs.size≠s.heap.objs.size+1:=MR (Nat.lt_succ_self _);refine⟨by rw[aq ne,ae],MT _,ne,e2,fun _=>none,(Nc.Ns1.of_empty e3).at fun o q=>Nc.get?_push_of_some _ q,fun _=>True.intro,fun y hy=>absurd rfl hy⟩
theorem EB{prog:M0}{w:M3}{env:Env}{e:Expr}{f:Str}{pos:Pos}{s:MZ}{Q:MX->MZ->Prop}(hb:attributeBase e f env (eval e env)=eval e env)
  (h:Nf (model prog w) A (eval e env) (fun o s₁=>Nf (model prog w) A (getAttr o f true) Q E s₁) E s):Nf (model prog w) A (eval (.Attribute e f pos) env) Q E s:=
 Attribute_any_ h (by rw[arm_eval_Attribute,hb])
end
def JL(K:W.Frag)(ta:TE)(f:Str):TE:=fun σ H Q=>ta σ H fun x H1=>∃a C dx fs v,x= .ref a/\H1 a=some (.ins C dx fs)/\zK K C/\gu K C f/\fs.lookup f=some v/\Q v H1
def JZ(K:W.Frag)(ta tv:TE)(f:Str):TS:=fun D σ H=>tv σ H fun y H1=>ta σ H1 fun x H2=>∃a C dx fs,x= .ref a/\H2 a=some (.ins C dx fs)/\zK K C/\gu K C f/\fs.length<1000/\
 D.nx σ (upd H2 a (.ins C dx (iL f y fs)))
section
variable{X:Cx}{o e value:Expr}{f:Str}{pos pos' tpos:Pos}{ta tv:TE}
theorem Gv(he:PE X e ta)(hb:attributeBase e f X.env (eval e X.env)=eval e X.env):PE X (.Attribute e f pos) (JL X.K ta f):=by
 intro pins s σ H Q I h;refine EB hb (aY (he pins s σ H _ I h) fun u s1 ⟨x,H1,I1,rx,a,C,dx,fs,v,ex,ea,c,n,l,q⟩=>?_);subst ex;obtain rfl:u=MX.ref a:=rx;exact vV I1 ea c n l fun u' s2 I2 ru=>⟨v,H1,I2,ru,q⟩
theorem Ic(ha:PE X o ta)(hv:PE X value tv)(hs:swapsWith value (some (.Attribute o f pos')) pos.line X.env=pure false):PS X (.Assign [.Attribute o f pos'] value pos) (JZ X.K ta tv f):=by
 intro pins s σ H D I h;refine plainObj_wpAny_Assign_Attribute (aY (hv pins s σ H _ I h) fun u s1 ⟨y,H1,I1,ry,q⟩=>aY (ha pins s1 σ H1 _ I1 q) fun ov s2 ⟨x,H2,I2,rx,a,C,dx,fs,ex,ea,c,n,l,q2⟩=>?_) hs;subst ex;obtain rfl:ov=MX.ref a:=rx;exact wL I2 ea c n l ry fun s3 I3=>⟨σ,_,I3,q2⟩
theorem Fm{pl:Sem Bool}{m:Str}{apos:Pos}{args:List Expr}{pins:List (MY×Obj)}{s:MZ}{σ:St}{H:Hp}{Q:MX->MZ->Prop}{te:TE}(he:PE X e te)(I:Inv X pins σ H s)
  (h:te σ H fun x H1=>∃a C dx fs g,x= .ref a/\H1 a=some (.ins C dx fs)/\zK X.K C/\Meth X.K C m g/\fs.lookup m=none/\
   ∀s1,Inv X pins σ H1 s1->Nf (model X.prog X.w) X.A (callWith pos (.ref g) [.ref a] (Nd pos (Na args X.env)) (backToKw pos (keywordEach [] X.env))) Q X.xe s1)
  (ht:eval (.Call (.Attribute e m apos) args [] pos) X.env=(do
   let ov←eval e X.env
   standAt apos.atName
   let(f,first)←holding [ov] (getMethod ov m pl)
   callWith pos f first (Nd pos (Na args X.env)) (backToKw pos (keywordEach [] X.env)))):
  Nf (model X.prog X.w) X.A (eval (.Call (.Attribute e m apos) args [] pos) X.env) Q X.xe s:=by
 refine W.methodCall_KW (pl:=pl) (aY (he pins s σ H _ I h) fun u s1 ⟨x,H1,I1,rx,a,C,dx,fs,g,ex,ea,c,k,l,q⟩=>?_) ht;subst ex;obtain rfl:u=MX.ref a:=rx;exact kh I1 ea c k l (q s1 I1)
end
section
variable{X:Cx}{pins:List (MY×Obj)}{σ:St}{H:Hp}{s:MZ}{A:M4}{E:MX->MZ->Prop}{Q:MX->MZ->Prop}{c:MX}{b:Bool}
inductive jX(K:W.Frag)(H:Hp):V->MX->Prop where
 |de:jX K H .de (.type "NoneType")
 |bl (x:Bool):jX K H (.bl x) (.type "bool")
 |int (i:Int):jX K H (.int i) (.type "int")
 |str (x:Str):jX K H (.str x) (.type "str")
 |nu (x:UInt64):jX K H (.nu x) (.type "float")
 |lst {a:MY} {xs:List V} (e:H a=some (.lst xs)):jX K H (.ref a) (.type "list")
 |tY {a:MY} {o:Obj} {xs:List V} (e:H a=some (.tY o (.lst xs))):jX K H (.ref a) (.type "list")
 |tup {a:MY} {xs:List V} (e:H a=some (.tup xs)):jX K H (.ref a) (.type "tuple")
 |dK {a:MY} {kvs:List (Key×V)} (e:H a=some (.dK kvs)):jX K H (.ref a) (.type "dict")
 |dT {a:MY} {kvs:List (List Key×V)} (e:H a=some (.dT kvs)):jX K H (.ref a) (.type "dict")
 |ins {a C dx:MY} {fs:List (Str×V)} (e:H a=some (.ins C dx fs)) (cl:zK K C) (ha:W.findIn K (.ref C) "__class__" =some (some (.builtin "object.__class__")))
   (hn:W.specialIn K (.builtin "object.__class__") "__get__" =some (some (.builtin "getset_descriptor.__get__"))) (htk:W.takesIn K (.builtin "object.__class__")=some true)
   (hm:W.mroIn K C (.type "object")=some true):jX K H (.ref a) (.ref C)
theorem yX{x:V}{u t:MX}(I:Inv X pins σ H s)(rx:RelV x u)(ty:jX X.K H x t)(e:W.kitOne X.K t c=some b)(h:∀tk,Q (.bool b) {s with toks:=tk}):
  Nf (model X.prog X.w) A (call (.builtin "isinstance") [u,c]) Q E s:=by
 cases ty with
 |de=>cases(show u=MX.none from rx);exact W.kia_one W.kitx_none I.jr True.intro e (fun z=>nomatch z) h
 |bl y=>cases(show u=MX.bool y from rx);exact W.kia_one W.kitx_bool I.jr True.intro e (fun z=>nomatch z) h
 |int i=>obtain⟨t,q⟩:=(show∃t,u=MX.int i t from rx);cases q;exact W.kia_one W.kitx_int I.jr True.intro e (fun z=>nomatch z) h
 |str y=>obtain⟨t,q⟩:=(show∃t,u=MX.str y t from rx);cases q;exact W.kia_one W.kitx_str I.jr True.intro e (fun z=>nomatch z) h
 |nu y=>obtain⟨t,q⟩:=(show∃t,u=MX.float y t from rx);cases q;exact W.kia_one W.kitx_float I.jr True.intro e (fun z=>nomatch z) h
 | @lst a xs ea=>
  cases(show u=MX.ref a from rx);obtain⟨_,_,n,_,h1⟩:=(show bF X.prog X.w H s.heap a (.lst xs)from I.aX a _ ea);exact W.kia_one W.kitx_list I.jr ⟨_,h1,rfl⟩ e (fun z=>nomatch z) h
 | @tY a ob xs ea=>
  cases(show u=MX.ref a from rx);obtain⟨_,_,_,n,_,h1⟩:=(show bF X.prog X.w H s.heap a (.tY ob (.lst xs))from I.aX a _ ea);exact W.kia_one W.kitx_list I.jr ⟨_,h1,rfl⟩ e (fun z=>nomatch z) h
 | @tup a xs ea=>
  cases(show u=MX.ref a from rx);obtain⟨_,_,_,p⟩:=(show bF X.prog X.w H s.heap a (.tup xs)from I.aX a _ ea);obtain⟨o,h1,h2,_⟩:=p;exact W.kia_one W.kitx_tuple I.jr ⟨o,h1,h2⟩ e (fun z=>nomatch z) h
 | @dK a kvs ea=>
  cases(show u=MX.ref a from rx);obtain⟨_,_,vs,_,p⟩:=(show bF X.prog X.w H s.heap a (.dK kvs)from I.aX a _ ea);obtain⟨o,es,ep,h1,h2,_⟩:=p;exact W.kia_one W.kitx_dict I.jr ⟨o,h1,h2.1⟩ e (fun z=>nomatch z) h
 | @dT a kvs ea=>
  cases(show u=MX.ref a from rx);obtain⟨_,_,xs,_,o,es,ep,h1,h2,_⟩:=(show bF X.prog X.w H s.heap a (.dT kvs)from I.aX a _ ea);exact W.kia_one W.kitx_dict I.jr ⟨o,h1,h2.1⟩ e (fun z=>nomatch z) h
 | @ins a C dx fs ea cl ha hn htk hm=>
  cases(show u=MX.ref a from rx);obtain⟨mA,O,_⟩:=nH I.aX ea;obtain⟨od,J,_⟩:=O.look;exact W.kia_one (W.kitx_own (cl.get _) cl.hd ha hn htk hm) I.jr J e (fun z=>nomatch z) h
end
structure df(k:Nat)(A:M4):Prop where
 hd:A.handled=none
 gd:A.guards=some []
 dp:A.depth+3*k+5<recursionLimit
 un:A.units+16*k+200<cLine
theorem df.mono {j k:Nat}{A:M4}(r:df k A)(h:j<=k):df j A:=⟨r.hd,r.gd,by have:=r.dp;lia,by have:=r.un;lia⟩
theorem df.deeper {k:Nat}{A:M4}(r:df (k+1) A)(env:Env):df k (A.deeper env):=
 ⟨r.hd,r.gd,by have:=r.dp;show A.depth+1+3*k+5<_;lia,by have:=r.un;show A.units+3+16*k+200<_;lia⟩
theorem wM{A:M4}{C:MY}{us:List MX}{kw:List (Str×MX)}:(A.under (.builtin "type.__call__" ⟨.ref C::us,kw⟩)).depth=A.depth+1:=by
 first|rfl|simp[M4.under,Code.weight,Code.isCreation,Code.isGuard,Code.isCaller,Code.frames,Code.isFrame,guardIds]
theorem vW{A:M4}{C:MY}{us:List MX}{kw:List (Str×MX)}:(A.under (.builtin "type.__call__" ⟨.ref C::us,kw⟩)).units=A.units+1:=by
 first|rfl|simp[M4.under,Code.cUnits,Code.frames,Code.isFrame]
theorem uJ{A:M4}{C:MY}{us:List MX}{kw:List (Str×MX)}:(A.under (.builtin "type.__call__" ⟨.ref C::us,kw⟩)).guards=A.guards:=by
 first|rfl|simp[M4.under,Code.isGuard,guardIds]
theorem df.make {k:Nat}{A:M4}(r:df (k+1) A)(C:MY)(us:List MX)(kw:List (Str×MX)):df k (A.under (.builtin "type.__call__" ⟨.ref C::us,kw⟩)):=
 ⟨r.hd,by rw[uJ];exact r.gd,by have:=r.dp;rw[wM];lia,by have:=r.un;rw[vW];lia⟩
theorem df.depth {k:Nat}{A:M4}(r:df k A):A.depth<recursionLimit:=by have:=r.dp;lia
theorem df.units {k:Nat}{A:M4}(r:df k A):A.units+64<cLine:=by have:=r.un;lia
def iO:TA:=fun _ H Q=>Q [] H
def dN(ta:TE)(tr:TA):TA:=fun σ H Q=>ta σ H fun x H1=>tr σ H1 fun xs H2=>Q (x::xs) H2
section
variable{X:Cx}{e:Expr}{es:List Expr}{te:TE}{t:TA}{pos:Pos}
theorem af:PA X [] iO:=fun _ _ _ _ H Q I h=>Calls.spliced_nil ⟨[],H,I,.nil,h⟩
theorem aa(ha:PE X e te)(hr:PA X es t)(hs:Na (e::es) X.env=(false,eval e X.env)::Na es X.env:=by rfl):PA X (e::es) (dN te t):=by
 intro pos pins s σ H Q I h;rw[hs];show Nf _ _ (spliced ((false,eval e X.env)::Nd pos (Na es X.env))) _ _ s;refine Calls.spliced_cons (aY (ha pins s σ H _ I h) fun u s1 ⟨x,H1,I1,r1,q1⟩=>?_);exact aY (hr pos pins s1 σ H1 _ I1 q1) fun us s2 ⟨xs,H2,I2,r2,q2⟩=>⟨x::xs,H2,I2,.cons r1 r2,q2⟩
def JE(t:TA):TE:=fun σ H Q=>t σ H fun xs H1=>xs.length<=M5/\∀p,H1 p=none->Q (.ref p) (upd H1 p (.tup xs))
def Ke(t:TA):TE:=fun σ H Q=>t σ H fun xs H1=>xs.length<=M5/\∀p,H1 p=none->Q (.ref p) (upd H1 p (.lst xs))
theorem fU{x1}(h:PA X es t):PE X (.Tuple es x1 pos) (JE t):=by
 intro pins s σ H Q I hq;refine wpAny_Tuple_spliced (aY (h pos pins s σ H _ I hq) fun us s1 ⟨xs,H1,I1,r,z,q⟩=>⟨by rw[←r.length];exact z,?_⟩);have hf:H1 s1.heap.objs.size=none:=I1.aX.fresh (MP _);refine⟨.ref s1.heap.objs.size,upd H1 s1.heap.objs.size (.tup xs),I1.laid (t':=s1.toks) (fun b u e=>Nc.get?_push_of_some _ e) (MP _) ?_,rfl,q _ hf⟩;exact⟨z,us,r,⟨_,Nc.get?_push_size _ rfl,rfl,_,rfl⟩⟩
theorem bu(h:PA X es t):PE X (.List es pos) (Ke t):=by
 intro pins s σ H Q I hq;refine wpAny_List_spliced (aY (h pos pins s σ H _ I hq) fun us s1 ⟨xs,H1,I1,r,z,q⟩=>⟨by rw[←r.length];exact z,?_⟩);have hf:H1 s1.heap.objs.size=none:=I1.aX.fresh (MP _);refine⟨.ref s1.heap.objs.size,upd H1 s1.heap.objs.size (.lst xs),I1.laid (t':=s1.toks) (fun b u e=>Nc.get?_push_of_some _ e) (MP _) ?_,rfl,q _ hf⟩;exact⟨z,us,0,r,Nc.get?_push_size _ rfl⟩
end
abbrev Sp:=List V->Hp->VK->XK->Prop
abbrev om:=List Env->Hp->MZ->XK->MX->MZ->Prop
structure uk(P:M0)(w:M3)(K:W.Frag)(mg:Str->Option MX)(base:Nc)(A:M4)(outer:List Env)(s:MZ)(H:Hp):Prop where
 frames:A.frames=some outer
 mod:Mod K mg base
 bs:∀b o,base.get? b=some o->s.heap.get? b=some o/\H b=none
 yF:base.objs.size<=s.heap.objs.size
 iq:s.heap.FunFrames base outer
 nY:∀b∈fV outer,H b=none
 aX:jF P w H s.heap
 bare:AllBare s.gens
def CE(outer:List Env)(P:M0)(w:M3)(H:Hp)(s:MZ)(Q:VK)(u:MX)(s':MZ):Prop:=
 ∃v H',s'.os=s.os/\AllBare s'.gens/\Un (fV outer) [] H H' s.heap s'.heap/\jF P w H' s'.heap/\RelV v u/\Q v H'
def CR(CX:om)(outer:List Env)(P:M0)(w:M3)(H:Hp)(s:MZ)(Q:VK)(E:XK)(r:Result)(s':MZ):Prop:=
 match r with
 | .ok (.ret u)=>CE outer P w H s Q u s'
 | .ok _=>False
 | .error e=>CX outer H s E e s'
structure aR(P:M0)(w:M3)(K:W.Frag)(mg:Str->Option MX)(base:Nc)(CX:om)(k:Nat)(f:MY)(fd:Nb)(ps:List Str)(sp:Sp):Prop where
 len:∀vs H Q E,sp vs H Q E->vs.length=ps.length
 run:∀(A:M4)(outer:List Env)(s:MZ)(H:Hp)(args:Args)(us:List MX)(vs:List V)(Q:VK)(E:XK),df k A->uk P w K mg base A outer s H->BindsTo s fd args (ps.zip us)->Vals vs us->sp vs H Q E->
  codeAny (model P w) A (.call (.ref f) args) (CR CX outer P w H s Q E) s
theorem aR.mono {P:M0}{w:M3}{K:W.Frag}{mg:Str->Option MX}{base:Nc}{CX:om}{j k:Nat}{f:MY}{fd:Nb}{ps:List Str}{sp:Sp}(F:aR P w K mg base CX j f fd ps sp)(h:j<=k):
  aR P w K mg base CX k f fd ps sp:=⟨F.len,fun A outer s H args us vs Q E hr=>F.run A outer s H args us vs Q E (hr.mono h)⟩
theorem aR.imp {P:M0}{w:M3}{K:W.Frag}{mg:Str->Option MX}{base:Nc}{CX:om}{k:Nat}{f:MY}{fd:Nb}{ps:List Str}{sp sp':Sp}(F:aR P w K mg base CX k f fd ps sp)
  (h:∀vs H Q E,sp' vs H Q E->sp vs H Q E):aR P w K mg base CX k f fd ps sp':=
 ⟨fun vs H Q E q=>F.len vs H Q E (h _ _ _ _ q),fun A outer s H args us vs Q E hr he hb hv hs=>F.run A outer s H args us vs Q E hr he hb hv (h _ _ _ _ hs)⟩
theorem uk.make {P:M0}{w:M3}{K:W.Frag}{mg:Str->Option MX}{base:Nc}{A:M4}{outer:List Env}{s:MZ}{H:Hp}(e:uk P w K mg base A outer s H)(C:MY)(us:List MX)(kw:List (Str×MX)):
  uk P w K mg base (A.under (.builtin "type.__call__" ⟨.ref C::us,kw⟩)) outer s H:=⟨by first|exact e.frames|(simpa [M4.under,Code.envs,Code.isFrame,pushEnvs]using e.frames),e.mod,e.bs,e.yF,e.iq,e.nY,e.aX,e.bare⟩
section
variable{X:Cx}{pins:List (MY×Obj)}{σ:St}{H:Hp}{s s':MZ}
theorem Inv.pL (I:Inv X pins σ H s):uk X.prog X.w X.K X.mg X.base X.A X.stack s H:=
 ⟨I.ok.frames,I.ok.mod,I.bs,MS I.ok.yF I.sz,I.stack,I.nU,I.aX,I.bare⟩
theorem Inv.after {Q:VK}{u:MX}(I:Inv X pins σ H s)(h:CE X.stack X.prog X.w H s Q u s'):EP X pins σ Q u s':=by
 obtain⟨v,H',os,bare,un,aX,r,q⟩:=h;obtain⟨hh,g,d,t,os'⟩:=s';obtain rfl:os'=s.os:=os;exact⟨v,H',I.call (h':=hh) (g':=g) (d':=d) (t':=t) (ch:=[]) un aX bare (fun b z=>absurd z (by simp)),r,q⟩
end
def tS(sp:Sp)(dvs:List V)(E:XK)(t:TA):TE:=fun σ H Q=>t σ H fun vs H1=>sp (vs++dvs) H1 Q E
def FX(C:MY)(m:Str)(sp:Sp)(dvs:List V)(E:XK)(ta:TE)(t:TA):TE:=fun σ H Q=>ta σ H fun x H1=>∃a dx fs,x= .ref a/\H1 a=some (.ins C dx fs)/\fs.lookup m=none/\
 t σ H1 fun vs H2=>sp (x::(vs++dvs)) H2 Q E
def FE(C:MY)(sp:Sp)(dvs:List V)(E:XK)(t:TA):TE:=fun σ H Q=>t σ H fun vs H1=>∀x dx,H1 x=none->H1 dx=none->dx≠x->
 sp (.ref x::(vs++dvs)) (upd (upd H1 dx (.own x)) x (.ins C dx [])) (fun v H2=>v= .de/\Q (.ref x) H2) E
def Binds(K:W.Frag)(fd:Nb)(ps:List Str)(ds:List MX):Prop:=
 ∀(s:MZ)(us:List MX),K.In s.heap->(us++ds).length=ps.length->BindsTo s fd ⟨us,[]⟩ (ps.zip (us++ds))
theorem Binds.all {K:W.Frag}{fd:Nb}{ps:List Str}(h:∀us:List MX,us.length=ps.length->bindArgs fd ⟨us,[]⟩=pure (ps.zip us)):Binds K fd ps []:=fun s us _ hl=>by
 rw[MN]at hl⊢;exact .of_eq (h us hl)
def Passes(CX:om)(X:Cx)(E:XK):Prop:=∀(pins:List (MY×Obj))(σ:St)(H:Hp)(s:MZ)(e:MX)(s':MZ),Inv X pins σ H s->CX X.stack H s E e s'->X.xe e s'
section
variable{X:Cx}{CX:om}{k:Nat}{f C:MY}{fd:Nb}{ps:List Str}{sp:Sp}{dvs:List V}{ds:List MX}{E:XK}{x m:Str}{p pos apos:Pos}{e o:Expr}{es:List Expr}{ta:TE}{t:TA}
theorem C1{pins:List (MY×Obj)}{σ:St}{H:Hp}{s:MZ}{Q:VK}{us:List MX}{vs:List V}(F:aR X.prog X.w X.K X.mg X.base CX k f fd ps sp)(hr:df k X.A)(hb:Binds X.K fd ps ds)(hd:Vals dvs ds)(hx:Passes CX X E)
  (I:Inv X pins σ H s) (r:Vals vs us) (h:sp (vs++dvs) H Q E):Nf (model X.prog X.w) X.A (call (.ref f) us) (EP X pins σ Q) X.xe s:=by
 have r2:Vals (vs++dvs) (us++ds):=r.append hd;have hl:(us++ds).length=ps.length:=by rw[←r2.length];exact F.len _ _ _ _ h
 refine wpAny_call (codeAny_mono (F.run X.A X.stack s H ⟨us,[]⟩ (us++ds) (vs++dvs) Q E hr I.pL (hb s us I.jr hl) r2 h) fun r s' hq=>?_)
 cases r with
 |error e=>exact hx pins σ H s e s' I hq
 |ok fl=>
  cases fl with
  |ret u=>exact I.after hq
  |next=>exact False.elim hq
  |brk=>exact False.elim hq
  |cont=>exact False.elim hq
theorem ye(F:aR X.prog X.w X.K X.mg X.base CX k f fd ps sp)(hr:df k X.A)(hg:Gl X x)(hm:X.mg x=some (.ref f))(hk:W.keepIn X.K (.ref f)=true)(hb:Binds X.K fd ps ds)(hd:Vals dvs ds)(hx:Passes CX X E)
  (ha:PA X (e::es) t) (hdb:(x==("__debug__" :Str))=false:=by decide) (he:Na (e::es) X.env=(false,eval e X.env)::Na es X.env:=by rfl) (hpl:(Nd pos (Na es X.env)).any (·.1)=false:=by rfl):
  PE X (.Call (.Name x p) (e::es) [] pos) (tS sp dvs E t):=by
 intro pins s σ H Q I h;refine wpAny_Call_Name_kw (jo I hg hm ?_ hdb);refine W.callWith_K (h₀:=X.base) I.ok.mod.De hk (aY (ha pos pins s σ H _ I h) fun us s1 ⟨vs,H1,I1,r,q⟩=>⟨I1.jr,?_⟩) he hpl;exact C1 F hr hb hd hx I1 r q
theorem DZ{pl:Sem Bool}(he:PE X o ta)(c:zK X.K C)(hm:Meth X.K C m f)(F:aR X.prog X.w X.K X.mg X.base CX k f fd ps sp)(hr:df k X.A)(hb:Binds X.K fd ps ds)(hd:Vals dvs ds)(hx:Passes CX X E)(ha:PA X (e::es) t)
  (hst:Na (e::es) X.env=(false,eval e X.env)::Na es X.env:=by rfl) (hpl:(Nd pos (Na es X.env)).any (·.1)=false:=by rfl)
  (ht:eval (.Call (.Attribute o m apos) (e::es) [] pos) X.env=(do
   let ov←eval o X.env
   standAt apos.atName
   let(f,first)←holding [ov] (getMethod ov m pl)
   callWith pos f first (Nd pos (Na (e::es) X.env)) (backToKw pos (keywordEach [] X.env))):=by rfl):
  PE X (.Call (.Attribute o m apos) (e::es) [] pos) (FX C m sp dvs E ta t):=by
 intro pins s σ H Q I h;refine W.methodCall_KW (pl:=pl) (aY (he pins s σ H _ I h) fun u s1 ⟨x,H1,I1,rx,a,dx,fs,ex,ea,l,q⟩=>?_) ht;subst ex;obtain rfl:u=MX.ref a:=rx;refine kh I1 ea c hm l ?_;refine W.callWith_K (first:=[.ref a]) (h₀:=X.base) I.ok.mod.De hm.kp (aY (ha pos pins s1 σ H1 _ I1 q) fun us s2 ⟨vs,H2,I2,r,q2⟩=>⟨I2.jr,?_⟩) hst hpl;exact C1 (us:= .ref a::us) (vs:= .ref a::vs) F hr hb hd hx I2 (.cons rfl r) q2
structure Mk(K:W.Frag)(C f:MY):Prop where
 makes:W.makesIn K C=true
 init:W.findIn K (.ref C) "__init__" =some (some (.ref f))
 fn:W.isFn K (.ref f)=true
 kp:W.keepIn K (.ref C)=true
theorem CV{pins:List (MY×Obj)}{σ:St}{H:Hp}{s:MZ}{Q:VK}{us:List MX}{vs:List V}(M:Mk X.K C f)(F:aR X.prog X.w X.K X.mg X.base CX k f fd ps sp)(hr:df (k+1) X.A)(hb:Binds X.K fd ps ds)(hd:Vals dvs ds)
  (hx:Passes CX X E) (I:Inv X pins σ H s) (r:Vals vs us)
  (h:∀x dx,H x=none->H dx=none->dx≠x->sp (.ref x::(vs++dvs)) (upd (upd H dx (.own x)) x (.ins C dx [])) (fun v H2=>v= .de/\Q (.ref x) H2) E):
  Nf (model X.prog X.w) X.A (call (.ref C) us) (EP X pins σ Q) X.xe s:=by
 have hq:=h (s.heap.objs.size+1) s.heap.objs.size (I.aX.fresh (Nat.le_succ _)) (I.aX.fresh (MP _)) (MR (Nat.lt_succ_self _));have I2:=Inv.made (C:=C) I;have r2:Vals (V.ref (s.heap.objs.size+1)::(vs++dvs)) (MX.ref (s.heap.objs.size+1)::(us++ds)):= .cons rfl (r.append hd);have hl:(MX.ref (s.heap.objs.size+1)::us++ds).length=ps.length:=by
  have e:=r2.length;rw[F.len _ _ _ _ hq]at e;exact e.symm
 refine wpAny_call (BN (f:=f) I.jr M.makes M.init (beq_iff_eq.mp M.fn) (codeAny_mono (F.run _ X.stack _ _ ⟨MX.ref (s.heap.objs.size+1)::us,[]⟩ (MX.ref (s.heap.objs.size+1)::(us++ds)) _ _ E (hr.make C us [])
  (I2.pL.make C us []) (hb _ (MX.ref (s.heap.objs.size+1)::us) I2.jr hl) r2 hq) fun r s' hq'=>?_))
 cases r with
 |error e=>exact hx pins σ _ _ e s' I2 hq'
 |ok fl=>
  cases fl with
  |ret u=>
   obtain⟨v,H',I3,rv,ev,q3⟩:=I2.after hq';subst ev;exact⟨rv,⟨V.ref (s.heap.objs.size+1),H',I3,rfl,q3⟩⟩
  |next=>exact False.elim hq'
  |brk=>exact False.elim hq'
  |cont=>exact False.elim hq'
theorem D9(M:Mk X.K C f)(F:aR X.prog X.w X.K X.mg X.base CX k f fd ps sp)(hr:df (k+1) X.A)(hg:Gl X x)(hm:X.mg x=some (.ref C))(hb:Binds X.K fd ps ds)(hd:Vals dvs ds)(hx:Passes CX X E)
  (ha:PA X (e::es) t) (hdb:(x==("__debug__" :Str))=false:=by decide) (he:Na (e::es) X.env=(false,eval e X.env)::Na es X.env:=by rfl) (hpl:(Nd pos (Na es X.env)).any (·.1)=false:=by rfl):
  PE X (.Call (.Name x p) (e::es) [] pos) (FE C sp dvs E t):=by
 intro pins s σ H Q I h;refine wpAny_Call_Name_kw (jo I hg hm ?_ hdb);refine W.callWith_K (h₀:=X.base) I.ok.mod.De M.kp (aY (ha pos pins s σ H _ I h) fun us s1 ⟨vs,H1,I1,r,q⟩=>⟨I1.jr,?_⟩) he hpl;exact CV M F hr hb hd hx I1 r q
end
def PK(X:Cx)(kws:List Keyword)(t:TA):Prop:=
 ∀(pos:Pos)(pins:List (MY×Obj))(s:MZ)(σ:St)(H:Hp)(Q:List V->Hp->Prop),Inv X pins σ H s->t σ H Q->Nf (model X.prog X.w) X.A (evalAll ((backToKw pos (keywordEach kws X.env)).map (·.2))) (AP X pins σ Q) X.xe s
section
variable{X:Cx}{CX:om}{k:Nat}{f C:MY}{fd:Nb}{ps ks:List Str}{sp:Sp}{E:XK}{x m:Str}{p pos apos kpos:Pos}{e o:Expr}{es:List Expr}{kws:List Keyword}{te ta:TE}{t tk:TA}{nm:Option Str}
theorem Ip:PK X [] iO:=fun _ _ _ _ H Q I h=>wpAny_evalAll_nil ⟨[],H,I,.nil,h⟩
theorem EC(ha:PE X e te)(hr:PK X kws t):PK X (⟨nm,e,kpos⟩::kws) (dN te t):=by
 intro pos pins s σ H Q I h;show Nf _ _ (evalAll ((do let v←eval e X.env;standAt pos;pure v)::(backToKw pos (keywordEach kws X.env)).map (·.2))) _ _ s;refine wpAny_evalAll_cons (M7 (aY (ha pins s σ H _ I h) fun u s1 ⟨x,H1,I1,r1,q1⟩=>M7 (wpAny_standAt (M8 ?_))));exact aY (hr pos pins s1 σ H1 _ I1 q1) fun us s2 ⟨xs,H2,I2,r2,q2⟩=>⟨x::xs,H2,I2,.cons r1 r2,q2⟩
variable{g:List MX->List MX->List MX}{gV:List V->List V->List V}
end
structure aA(N P:List Str)(sc:Scope):Prop where
 kind:sc.kind= .function
 co:sc.isCoroutine=false
 gen:sc.isGenerator=false
 nd:N.Nodup
 pre:N.take P.length=P
 par:∀x∈P,sc.names.lookup x=some .local\/sc.names.lookup x=some .cell
 Gs:∀y∈sc.names,y.2≠.free
theorem qV{kindOf:Str->Option Nh}{x:Str}:∀{binds:List (Str×MX)}{m:Str->Option MX},(∀v,(x,v)∉binds)->bindL kindOf binds m x=m x
 |[],_,_=>rfl
 |(n,v)::r,m,h=>by
  unfold bindL;rw[qV fun w hw=>h w (MH _ hw)]
  split
  .have:x≠n:=by rintro rfl;exact h v MG
   simp[this]
  .rfl
theorem qw{kindOf:Str->Option Nh}{x:Str}:∀{binds:List (Str×MX)}{m:Str->Option MX},(∀v,(x,v)∉binds)->bindC kindOf binds m x=m x
 |[],_,_=>rfl
 |(n,v)::r,m,h=>by
  unfold bindC;rw[qw fun w hw=>h w (MH _ hw)]
  split
  .rfl
  .have:x≠n:=by rintro rfl;exact h v MG
   simp[this]
theorem qQ{kindOf:Str->Option Nh}{x:Str}{v:MX}:∀{P:List Str}{vs:List MX}{i:Nat}{m:Str->Option MX},P.Nodup->P[i]?=some x->vs[i]?=some v->kindOf x=some .local->
  bindL kindOf (P.zip vs) m x=some v
 |[],_,_,_,_,h,_,_=>by simp at h
 |_::_,[],_,_,_,_,h,_=>by simp at h
 |p::P,w::vs,0,m,nd,h1,h2,hk=>by
  simp at h1 h2;subst h1;subst h2;show bindL kindOf ((p,w)::P.zip vs) m p=_;unfold bindL;rw[qV fun v hv=>(List.nodup_cons.mp nd).1 (List.of_mem_zip hv).1,if_pos hk];simp
 |p::P,w::vs,i+1,m,nd,h1,h2,hk=>by
  show bindL kindOf ((p,w)::P.zip vs) m x=_;unfold bindL;exact qQ (i:=i) (List.nodup_cons.mp nd).2 (by simpa using h1) (by simpa using h2) hk
theorem qt{kindOf:Str->Option Nh}{x:Str}{v:MX}:∀{P:List Str}{vs:List MX}{i:Nat}{m:Str->Option MX},P.Nodup->P[i]?=some x->vs[i]?=some v->kindOf x≠some .local->
  bindC kindOf (P.zip vs) m x=some v
 |[],_,_,_,_,h,_,_=>by simp at h
 |_::_,[],_,_,_,_,h,_=>by simp at h
 |p::P,w::vs,0,m,nd,h1,h2,hk=>by
  simp at h1 h2;subst h1;subst h2;show bindC kindOf ((p,w)::P.zip vs) m p=_;unfold bindC;rw[qw fun v hv=>(List.nodup_cons.mp nd).1 (List.of_mem_zip hv).1,if_neg hk];simp
 |p::P,w::vs,i+1,m,nd,h1,h2,hk=>by
  show bindC kindOf ((p,w)::P.zip vs) m x=_;unfold bindC;exact qt (i:=i) (List.nodup_cons.mp nd).2 (by simpa using h1) (by simpa using h2) hk
def start(N:List Str)(vs:List V):St:=vs.map some++List.replicate (N.length-vs.length) none
def pV(CX:om)(P:M0)(w:M3)(K:W.Frag)(mg:Str->Option MX)(base:Nc)(N:List Str)(qual:Str)(scope:Scope)(f:MY)(cd:MX)(A:M4)(outer:List Env)(s:MZ)(H:Hp)(E:XK):Cx where
 prog:=P
 w:=w
 K:=K
 mg:=mg
 base:=base
 A:=A.deeper (envOfC qual scope s.heap.objs.size f cd)
 N:=N
 s₀:=s
 H₀:=H
 env:=envOfC qual scope s.heap.objs.size f cd
 outer:=outer
 stack:=envOfC qual scope s.heap.objs.size f cd::outer
 ex:=[]
 calm:=true
 fn:=fun _=>true
 pn:=[]
 xe:=fun e s'=>Nf (model P w) (A.deeper (envOfC qual scope s.heap.objs.size f cd)) (leaving (envOfC qual scope s.heap.objs.size f cd) e) (fun _ s''=>CX outer H s E e s'') (fun e' s''=>CX outer H s E e' s'') s'
theorem vh{sc:Scope}{n:Nat}{x:Str}(h:sc.names.lookup x=some .cell):∃c,(cellsFrom n sc.names []).lookup x=some c:=by
 have q:=W.cellsFrom_some sc.names n [] (.inl h);exact Option.isSome_iff_exists.mp q
theorem qr{CX:om}{P:M0}{w:M3}{K:W.Frag}{mg:Str->Option MX}{base:Nc}{N ps:List Str}{qual:Str}{scope:Scope}{f:MY}{cd:MX}{A:M4}{outer:List Env}{s s1:MZ}{H:Hp}{E:XK}{us:List MX}{vs:List V}
  (S:aA N ps scope) (hd:A.handled=none) (e0:uk P w K mg base A outer s H) (hl:vs.length=ps.length) (r:Vals vs us)
  (x:InCallC s s.heap.objs.size (bindL (envOfC qual scope s.heap.objs.size f cd).kindOf (ps.zip us) fun _=>none) (cellsFrom (s.heap.objs.size+1) scope.names []) (bindC (envOfC qual scope s.heap.objs.size f cd).kindOf (ps.zip us) fun _=>none) s1):
  Inv (pV CX P w K mg base N qual scope f cd A outer s H E) [] (start N vs) H s1:=by
 have hpl:ps.length<=N.length:=by have:=congrArg List.length S.pre;rw[MB]at this;lia
 obtain⟨h1,tk,rfl,hk⟩:=x.done;have noA:∀b:MY,b∉(pV CX P w K mg base N qual scope f cd A outer s H E).ex:=fun b z=>absurd (show b∈([]:List MY)from z) (by simp);refine⟨⟨e0.mod,S.kind,rfl,rfl,MP _,fun y z c h1 h2=>?_,fun y hy=>?_,fun y c _ h=>?_,fun _=>hd,M4.frames_deeper e0.frames,.inr ⟨rfl,rfl⟩,fun b z=>absurd z (noA b),e0.bs,e0.yF,fun b _ _=>noA b,fun b z=>absurd z (noA b),e0.iq,e0.nY⟩,
  rfl,e0.bare,Un.kept hk,⟨_,x.toInCall.ns,fun i y v h1 h2 h3=>?_⟩,fun y c h=>⟨_,x.cell y c h⟩,e0.aX.fresh (MP _),fun y c h=>?_,fun p hp=>absurd (show p∈([]:List (MY×Obj))from hp) (by simp),e0.aX.kept hk,?_⟩
 .exact name_of_addr x.apart (PySem.mem_of_lookup h1) (PySem.mem_of_lookup h2)
 .have hy:scope.names.lookup y=some .cell\/scope.names.lookup y=some .free:=hy
  rcases hy with hy|hy
  .exact vh hy
  .exact absurd rfl (S.Gs _ (PySem.mem_of_lookup hy))
 .exact Nat.le_of_lt (x.above y c (PySem.mem_of_lookup h))
 .have hi:i<vs.length:=by
   unfold start at h2;by_cases hi:i<vs.length
   .exact hi
   .rw[List.getElem?_append_right (by simpa using hi)]at h2
    rw[List.getElem?_replicate]at h2
    split at h2<;>cases h2
  have ha:vs[i]?=some v:=by
   unfold start at h2;rw[List.getElem?_append_left (by simpa using hi),Mv]at h2
   cases e:vs[i]? with
   |none=>rw[e]at h2;cases h2
   |some a=>rw[e]at h2;cases h2;rfl
  obtain⟨u,hu,rv⟩:=r.get ha;have hp:ps[i]?=some y:=by
   rw[←S.pre,List.getElem?_take_of_lt (by lia)];exact h1
  have ndP:ps.Nodup:=by rw[←S.pre];exact S.nd.sublist (List.take_sublist _ _)
  refine⟨u,rv,?_⟩;rcases S.par y (MF hp)with k|k
  .exact .inl ⟨k,qQ ndP hp hu k⟩
  .obtain⟨c,e⟩:=vh (n:=s.heap.objs.size+1) k
   refine .inr ⟨.inl k,c,e,?_⟩;have q:=x.cell y c e;rw[qt ndP hp hu (by show scope.names.lookup y≠_;rw[k];decide)]at q;exact q
 .exact e0.aX.fresh (Nat.le_of_lt (x.above y c (PySem.mem_of_lookup h)))
 .unfold start
  show _=N.length;rw[Mw,Mu,List.length_replicate];lia
theorem FF{CX:om}{P:M0}{w:M3}{K:W.Frag}{mg:Str->Option MX}{base:Nc}{k:Nat}{f:MY}{name qual:Str}{params:Arguments}{body:List Ng}{scope:Scope}{dV kV doc pm cdv ct oc:MX}{an od:Option MY}
  {osl:Array (Option MX)} {N ps:List Str} {sp:Sp} (lk:K.lookup f=some ⟨oc,od,.func (W.fnOf name qual params body scope dV kV doc pm an cdv ct),osl⟩) (hcd:W.codeIn K cdv qual=true) (S:aA N ps scope)
  (len:∀vs H Q E,sp vs H Q E->vs.length=ps.length)
  (hbody:∀(A:M4)(outer:List Env)(s:MZ)(H:Hp)(vs:List V)(Q:VK)(E:XK),df k (A.deeper (envOfC qual scope s.heap.objs.size f cdv))->sp vs H Q E->
   ∃t,qg (pV CX P w K mg base N qual scope f cdv A outer s H E) body t/\t {nx:=fun _ H'=>Q .de H',rt:=Q} (start N vs) H):
  aR P w K mg base CX (k+1) f (W.fnOf name qual params body scope dV kV doc pm an cdv ct) ps sp:=by
 refine⟨len,fun A outer s H args us vs Q E hr e0 hb r hsp=>?_⟩;have hl:=len _ _ _ _ hsp;have KX:K.In s.heap:=e0.mod.De.keeps fun b o e=>(e0.bs b o e).1;have lim:s.heap.NoLimit:=e0.mod.nolimit.keeps fun b o e=>(e0.bs b o e).1;have hkind:∀y∈ps.zip us,scope.names.lookup y.1=some .local\/(scope.names.lookup y.1=some .cell/\((cellsFrom (s.heap.objs.size+1) scope.names []).lookup y.1).isSome=true):=fun⟨n,v⟩ hy=>by
  rcases S.par n (List.of_mem_zip hy).1 with q|q
  .exact .inl q
  .exact .inr ⟨q,W.cellsFrom_some _ _ _ (.inl q)⟩
 refine codeAny_call_function hr.depth (KX _ _ lk) rfl S.co S.gen rfl (W.codeRec_of KX hcd) (hb _ _ _ _ ?_);refine wpAny_newFunctionEnv_cells S.kind hkind fun env he s1 x=>?_;subst he;refine⟨lim.keeps x.toInCall.keep,codeAny_func ?_⟩;obtain⟨t,ht,hq⟩:=hbody A outer s H vs Q E (hr.deeper _) hsp;have I:Inv (pV CX P w K mg base N qual scope f cdv A outer s H E) [] (start N vs) H s1:=qr S hr.hd e0 hl r x;refine M9 (ht [] s1 (start N vs) H _ I hq) (fun fl s' hs=>?_) fun e s' hs=>hs;have fin:∀{σ':St}{H':Hp}{v:V}{u:MX},Inv (pV CX P w K mg base N qual scope f cdv A outer s H E) [] σ' H' s'->RelV v u->Q v H'->CE outer P w H s Q u s':=
  fun{σ' H' v u} J rv q=>⟨v,H',J.os,J.bare,J.base,J.aX,rv,q⟩
 cases fl with
 |ret u=>
  obtain⟨v,σ',H',J,rv,q⟩:=hs;exact fin J rv q
 |next=>
  obtain⟨σ',H',J,q⟩:=hs;exact fin (v:=V.de) (u:=MX.none) J rfl q
 |brk=>
  obtain⟨_,_,_,q⟩:=hs;exact False.elim q
 |cont=>
  obtain⟨_,_,_,q⟩:=hs;exact False.elim q
section
variable{X:Cx}{x:Str}{p pos:Pos}{e:Expr}{es:List Expr}{t:TA}{id T:String}{r:List V->Hp->VK->Prop}
def GL(r:List V->Hp->VK->Prop)(t:TA):TE:=fun σ H Q=>t σ H fun vs H1=>r vs H1 Q
theorem ak(hc:bY X (.builtin id) r)(hg:Gl X x)(hm:X.mg x=none)(hv:bootBuiltins x=some (.builtin id))(ha:PA X (e::es) t)(hn:x≠"__name__" :=by decide)(hdb:(x==("__debug__" :Str))=false:=by decide)
  (he:Na (e::es) X.env=(false,eval e X.env)::Na es X.env:=by rfl) (hpl:(Nd pos (Na es X.env)).any (·.1)=false:=by rfl):PE X (.Call (.Name x p) (e::es) [] pos) (GL r t):=by
 intro pins s σ H Q I h;refine wpAny_Call_Name_kw (j8 I hg hm hv ?_ hn hdb);exact PyProof.Rows.callWith_builtin1 (aY (ha pos pins s σ H _ I h) fun us s1 ⟨vs,H1,I1,r1,q1⟩=>hc pins s1 σ H1 vs us Q I1 r1 q1) he hpl
theorem aF(hc:bY X (.type T) r)(hg:Gl X x)(hm:X.mg x=none)(hv:bootBuiltins x=some (.type T))(ha:PA X (e::es) t)(hn:x≠"__name__" :=by decide)(hdb:(x==("__debug__" :Str))=false:=by decide)
  (he:Na (e::es) X.env=(false,eval e X.env)::Na es X.env:=by rfl) (hpl:(Nd pos (Na es X.env)).any (·.1)=false:=by rfl):PE X (.Call (.Name x p) (e::es) [] pos) (GL r t):=by
 intro pins s σ H Q I h;refine wpAny_Call_Name_kw (j8 I hg hm hv ?_ hn hdb);exact PyProof.Rows.callWith_type1 (aY (ha pos pins s σ H _ I h) fun us s1 ⟨vs,H1,I1,r1,q1⟩=>hc pins s1 σ H1 vs us Q I1 r1 q1) he hpl
end
end L2
namespace HT
open PySem PyProof.Rows
theorem BW(A:M4)(s:MZ)(a:Int)(t:Tok)(c:Int)(u:Tok)(prog:M0)(w:M3)(E:MX->MZ->Prop)(Q:MX->MZ->Prop)(h:Q (.bool (decide (a<c))) s):
  Nf (model prog w) A (richCompare .Lt (.int a t) (.int c u)) Q E s:=
 (PyProof.Rows.lt_int h:Nf (model prog w) A (compareOp .Lt (.int a t) (.int c u)) Q E s)
section
variable{prog:M0}{w:M3}{A:M4}{E:MX->MZ->Prop}{s:MZ}
theorem EO{t b:MY}{vs ws:List MX}{Q:MX->MZ->Prop}(ht:IsTup s.heap t vs.toArray)(hb:IsTup s.heap b ws.toArray)(hv:vs≠[])
  (h1:ws=[]->Q (.ref t) s) (h2:ws≠[]->Q (.ref s.heap.objs.size) {s with heap:=s.heap.push {cls:= .type "tuple",data:= .seq (vs++ws).toArray}})
  (hsz:vs.length+ws.length<=M5):Nf (model prog w) A (binaryOp .Add (.ref t) (.ref b)) Q E s:=by
 obtain⟨⟨cls,dd,data,sl⟩,ho,hc,n,hd⟩:=id ht;obtain⟨⟨cls2,dd2,data2,sl2⟩,ho2,hc2,n2,hd2⟩:=id hb;simp only at hc hd hc2 hd2;subst hc hd hc2 hd2;have e:vs.toArray++ws.toArray=(vs++ws).toArray:=by simp
 by_cases hw:ws=[]
 .exact concat_meets ⟨_,ho,rfl⟩ ⟨_,ho2,rfl⟩ noFill_tuple_add seq_tuple_add PySem.F.slot_tuple_add PySem.F.entry_tuple_add (PySem.F.args_tuple_add_2 _ _)
   (tuple_addW1 t b vs.toArray ws.toArray n n2 dd dd2 sl sl2 (by simpa using hv) (by simp[hw])) ⟨ho,ho2,h1 hw⟩
 .refine concat_meets ⟨_,ho,rfl⟩ ⟨_,ho2,rfl⟩ noFill_tuple_add seq_tuple_add PySem.F.slot_tuple_add PySem.F.entry_tuple_add (PySem.F.args_tuple_add_2 _ _)
   (tuple_addW2 t b vs.toArray ws.toArray n n2 dd dd2 sl sl2 (by simpa using hv) (by simpa using hw) (by rw[ML,ML];exact hsz)) ⟨ho,ho2,?_⟩
  rw[e];exact h2 hw
def oR(n d:Nat):Option Int->Nat
 |none=>d
 |some v=>if v<0 then(v+(n:Int)).toNat else min v.toNat n
end
end HT
namespace L2
open PySem PySem.Spec PyProof.Rows
abbrev TO:=St->Hp->(Option Int->Hp->Prop)->Prop
def PO(X:Cx)(e:Option Expr)(t:TO):Prop:=
 ∀(pins:List (MY×Obj))(s:MZ)(σ:St)(H:Hp)(Q:Option Int->Hp->Prop),Inv X pins σ H s->t σ H Q->
  Nf (model X.prog X.w) X.A (evalPart e X.env) (fun u s'=>∃o H',Inv X pins σ H' s'/\IsPart u o/\Q o H') X.xe s
def dG:TO:=fun _ H Q=>Q none H
def IL(t:TE):TO:=fun σ H Q=>t σ H fun x H1=>∃i,x= .int i/\Q (some i) H1
section
variable{X:Cx}{e:Expr}{te:TE}{lo hi:Option Expr}{tl th:TO}{pos p2:Pos}
theorem cJ:PO X none dG:=by
 intro pins s σ H Q I h;rw[evalPart_none];exact M8 ⟨none,H,I,.none,h⟩
theorem cP(h:PE X e te):PO X (some e) (IL te):=by
 intro pins s σ H Q I hw;rw[evalPart_some];refine aY (h pins s σ H _ I hw) fun u s1 ⟨x,H1,I1,r1,q1⟩=>?_;obtain⟨i,rfl,q⟩:=q1;obtain⟨t,rfl⟩:=r1;exact⟨some i,H1,I1,.int i t,q⟩
def KD(X:Cx)(r:V->Option Int->Option Int->Hp->VK->Prop):Prop:=
 ∀(pins:List (MY×Obj))(s:MZ)(σ:St)(H:Hp)(x:V)(v vl vu:MX)(lo hi:Option Int)(sl:MY)(Q:VK),Inv X pins σ H s->RelV x v->s.heap.IsSliceOf sl vl vu .none->IsPart vl lo->IsPart vu hi->r x lo hi H Q->
  ∃T id,typeLookup (.type T) "__getitem__" =pure (some (.builtin id))/\s.TypeIs v T/\Nf (model X.prog X.w) X.A (getItem v (.ref sl)) (EP X pins σ Q) X.xe s
def Me(r:V->Option Int->Option Int->Hp->VK->Prop)(te:TE)(tl th:TO):TE:=fun σ H Q=>te σ H fun x H1=>tl σ H1 fun l H2=>th σ H2 fun u H3=>r x l u H3 Q
theorem bN{r:V->Option Int->Option Int->Hp->VK->Prop}(hr:KD X r)(he:PE X e te)(hl:PO X lo tl)(hu:PO X hi th):PE X (.Subscript e (.Slice lo hi none p2) pos) (Me r te tl th):=by
 intro pins s σ H Q I h;refine Subscript_ (aY (he pins s σ H _ I h) fun v s1 ⟨x,H1,I1,r1,q1⟩=>?_);refine wpAny_Slice (aY (hl pins s1 σ H1 _ I1 q1) fun vl s2 ⟨l,H2,I2,pl,q2⟩=>aY (hu pins s2 σ H2 _ I2 q2) fun vu s3 ⟨u,H3,I3,pu,q3⟩=>?_);rw[evalPart_none];refine M8 ?_;have I4:Inv X pins σ H3 {s3 with heap:=s3.heap.push {cls:= .type "slice",data:= .fields #[vl,vu,.none]}}:=I3.kept (t':=s3.toks) fun b ob q=>Nc.get?_push_of_some _ q;obtain⟨T,id,hT,ht,hg⟩:=hr pins {s3 with heap:=s3.heap.push {cls:= .type "slice",data:= .fields #[vl,vu,.none]}} σ H3 x v vl vu l u s3.heap.objs.size Q I4 r1 (Nc.IsSliceOf.new ..) pl pu q3;show Nf (model X.prog X.w) X.A (subscriptTail e (.Slice lo hi none p2) v (.ref s3.heap.objs.size)) (EP X pins σ Q) X.xe {s3 with heap:=s3.heap.push {cls:= .type "slice",data:= .fields #[vl,vu,.none]}};exact tail_any (ops:=[.ref s3.heap.objs.size,v]) ht hT hg (by with_unfolding_all rfl)
def fg(xs:List V)(lo hi:Option Int):List V:=(xs.drop (HT.oR xs.length 0 lo)).take (HT.oR xs.length xs.length hi-HT.oR xs.length 0 lo)
theorem uU(xs:List V)(lo hi:Option Int):(fg xs lo hi).length<=xs.length:=by
 unfold fg;rw[MB,List.length_drop];lia
theorem Vals.nI {xs:List V}{us:List MX}(r:Vals xs us):us=[]↔xs=[]:=by
 cases r with
 |nil=>simp
 |cons _ _=>simp
end
def Df(n:Nat)(i:Int):Option Nat:=if 0<=i then(if i<n then some i.toNat else none)else if-(n:Int)<=i then some (i+n).toNat else none
def uu{α:Type}(xs:List α)(i:Int):Option α:=(Df xs.length i).bind fun j=>xs[j]?
theorem nG{n:Nat}{i:Int}{j:Nat}(h:Df n i=some j):seqIndex? i n=some j/\j<n/\-(n:Int)<=i/\i<n:=by
 unfold Df at h;by_cases h0:0<=i
 .rw[if_pos h0]at h
  by_cases h1:i<n
  .rw[if_pos h1]at h
   have e:i.toNat=j:=MV h;exact⟨by rw[seqIndex_of h0 h1,e],by lia,by lia,h1⟩
  .rw[if_neg h1]at h;cases h
 .rw[if_neg h0]at h
  by_cases h1: -(n:Int)<=i
  .rw[if_pos h1]at h
   have e:(i+n).toNat=j:=MV h;exact⟨by rw[seqIndex_neg (by lia) h1,e],by lia,h1,by lia⟩
  .rw[if_neg h1]at h;cases h
theorem xQ{α:Type}{xs:List α}{i:Int}{v:α}(h:uu xs i=some v):∃j,seqIndex? i xs.length=some j/\xs[j]?=some v/\j<xs.length/\-(xs.length:Int)<=i/\i<xs.length:=by
 unfold uu at h
 cases e:Df xs.length i with
 |none=>rw[e]at h;cases h
 |some j=>
  rw[e]at h;obtain⟨h1,h2,h3,h4⟩:=nG e;exact⟨j,h1,h,h2,h3,h4⟩
theorem aZ{α:Type}{xs:List α}{j:Nat}{v:α}(h:xs[j]?=some v):uu xs (j:Int)=some v:=by
 have hj:j<xs.length:=(List.getElem?_eq_some_iff.mp h).1;have e:Df xs.length (j:Int)=some j:=by
  unfold Df;rw[if_pos (by lia),if_pos (by lia)];simp
 unfold uu;rw[e];exact h
def yM(b:Expr):Prop:=∀o i,subscripted b false o i=operate [o,i] (getItem o i)
def IC(X:Cx)(r:R2):Prop:=
 ∀(value slice:Expr)(pins:List (MY×Obj))(s:MZ)(σ:St)(H:Hp)(x y:V)(v u:MX)(Q:VK),Inv X pins σ H s->RelV x v->RelV y u->r x y H Q->
  subscripted slice false v u=operate [v,u] (getItem v u)->Nf (model X.prog X.w) X.A (subscriptTail value slice v u) (EP X pins σ Q) X.xe s
def Aw(X:Cx)(id:String)(r:V->List V->Hp->VK->Prop):Prop:=
 ∀(pins:List (MY×Obj))(s:MZ)(σ:St)(H:Hp)(x:V)(xs:List V)(v:MX)(us:List MX)(Q:VK),Inv X pins σ H s->RelV x v->Vals xs us->r x xs H Q->
  Nf (model X.prog X.w) X.A (call (.builtin id) (v::us)) (EP X pins σ Q) X.xe s
section
variable{X:Cx}{a b:Expr}{ta tb:TE}{pos:Pos}
theorem aU{r:R2}(hr:IC X r)(ha:PE X a ta)(hb:PE X b tb)(hs:yM b):PE X (.Subscript a b pos) (yg r ta tb):=by
 intro pins s σ H Q I h;exact Subscript_ (Hn ha hb I h fun v u s2 x y H2 I2 rx ry q=>hr a b pins s2 σ H2 x y v u Q I2 rx ry q (hs _ _))
def EK(K:W.Frag):R2:=fun x y H Q=>∃p xs i v,x= .ref p/\y= .int i/\aJ K H p xs/\uu xs i=some v/\Q v H
def IJ(K:W.Frag):R2:=fun x y H Q=>∃p xs i v,x= .ref p/\y= .int i/\dI K H p xs/\uu xs i=some v/\Q v H
theorem Dg:IC X (EK X.K):=by
 intro value slice pins s σ H x y v u Q I rx ry h hs;obtain⟨p,xs,i,z,rfl,rfl,hq,he,q⟩:=h;cases rx;obtain⟨t,rfl⟩:=ry;obtain⟨its,r,pl,hz⟩:=I.list hq;obtain⟨j,h1,h2,h3,h4,h5⟩:=xQ he;obtain⟨w,ew,rw'⟩:=r.get h2;have hl:=r.length;have hn:=l6;have fin:EP X pins σ Q w s:=⟨z,H,I,rw',q⟩;by_cases h0:0<=i
 .have hj:i.toNat=j:=by
   rw[seqIndex_of h0 h5]at h1;exact MV h1
  exact item_listR pl.isList h0 (by lia) (by rw[hj];simpa using ew) fin hs
 .have hj:(i+(its.toArray.size:Int)).toNat=j:=by
   rw[seqIndex_neg (by lia) h4]at h1;rw[ML,←hl];exact MV h1
  exact subscriptTail_builtinR (x:=w) pl.isList.typeIs slot_list_getitem.lookup
   (wpAny_getItem_list_neg (Q:=fun r s'=>r=w/\EP X pins σ Q r s') pl.isList (by lia) (by rw[ML]<;>lia) (by lia) (by rw[hj];simpa using ew) ⟨rfl,fin⟩) hs
theorem GF:IC X (IJ X.K):=by
 intro value slice pins s σ H x y v u Q I rx ry h hs;obtain⟨p,xs,i,z,rfl,rfl,hq,he,q⟩:=h;cases rx;obtain⟨t,rfl⟩:=ry;obtain⟨its,r,pl,hz⟩:=I.tuple hq;obtain⟨j,h1,h2,h3,h4,h5⟩:=xQ he;obtain⟨w,ew,rw'⟩:=r.get h2;have hl:=r.length;have hn:=l6;have fin:EP X pins σ Q w s:=⟨z,H,I,rw',q⟩;exact subscriptTail_builtinR (x:=w) pl.typeIs slot_tuple_getitem.lookup
  (getItem_tuple (j:=j) (Q:=fun r s'=>r=w/\EP X pins σ Q r s') pl (by lia) (by lia) (by rw[ML,←hl];exact h1) (by simpa using ew) ⟨rfl,fin⟩) hs
theorem wW(its:List MX)(n j:Nat)(u:MX):Obj.mapSeq (·.setIfInBounds j u) {cls:= .type "list",data:= .seq its.toArray n}={cls:= .type "list",data:= .seq (its.set j u).toArray n}:=by
 simp[Obj.mapSeq]
theorem Inv.lst {pins:List (MY×Obj)}{σ:St}{H:Hp}{s:MZ}{p:MY}{xs:List V}(I:Inv X pins σ H s)(h:H p=some (.lst xs)):
  ∃(its:List MX)(n:Nat),Vals xs its/\s.heap.get? p=some {cls:= .type "list",data:= .seq its.toArray n}/\xs.length<=M5:=by
 obtain⟨z,its,n,r,e⟩:=I.aX p _ h;exact⟨its,n,r,e,z⟩
theorem Inv.HH {pins:List (MY×Obj)}{σ:St}{H:Hp}{s:MZ}{p:MY}{xs ys:List V}{its its':List MX}{n n':Nat}{f:Obj->Obj}(I:Inv X pins σ H s)(h:H p=some (.lst xs))
  (ho:s.heap.get? p=some {cls:= .type "list",data:= .seq its.toArray n}) (hf:f {cls:= .type "list",data:= .seq its.toArray n}={cls:= .type "list",data:= .seq its'.toArray n'}) (r:Vals ys its') (hz:ys.length<=M5) (t:Nat):
  Inv X pins σ (upd H p (.lst ys)) {s with heap:=s.heap.update p f,toks:=t}:=by
 have e:(s.heap.update p f).get? p=some {cls:= .type "list",data:= .seq its'.toArray n'}:=by
  rw[Nc.get?_update_self f ho (by rw[hf]<;>rfl),hf]
 refine I.write (x:=p) (e:=p) (by rw[h];trivial) (.inl rfl) (fun b u hb q=>(Nc.get?_update_other _ _ (Ne.symm hb)).trans q) ⟨_,e⟩ ?_;exact⟨hz,its',n',r,e⟩
def Fv:V->V->V->Hp->(Hp->Prop)->Prop:=fun o i v H Q=>∃p xs k j,o= .ref p/\i= .int k/\H p=some (.lst xs)/\Df xs.length k=some j/\Q (upd H p (.lst (xs.set j v)))
theorem set_list:Jt X Fv:=by
 intro pins s σ H o i v ov iv u Q I ro ri rv h;obtain⟨p,xs,k,j,rfl,rfl,hp,hj,q⟩:=h;cases ro;obtain⟨t,rfl⟩:=ri;obtain⟨its,n,r,ho,hz⟩:=I.lst hp;obtain⟨h1,h2,h3,h4⟩:=nG hj;have hl:=r.length;have hn:=l6;have I':Inv X pins σ (upd H p (.lst (xs.set j v))) {s with heap:=s.heap.update p (Obj.mapSeq (·.setIfInBounds j u))}:=
  I.HH hp ho (wW its n j u) (r.set rv j) (by rw[List.length_set];exact hz) s.toks
 by_cases h0:0<=k
 .have hk:k.toNat=j:=by
   rw[seqIndex_of h0 h4]at h1;exact MV h1
  exact W.ki_setAt ho h0 (by lia) (by rw[ML,←hl];exact h4) (by rw[hk];exact⟨_,I',q⟩)
 .have hk:(k+(its.toArray.size:Int)).toNat=j:=by
   rw[seqIndex_neg (by lia) h3]at h1;rw[ML,←hl];exact MV h1
  exact W.ki_setBack ho (by lia) (by rw[ML,←hl];exact h3) (by lia) (by rw[hk];exact⟨_,I',q⟩)
theorem sL(lo hi:Option Int)(n:Nat):(sliceBounds lo hi none n).1=((HT.oR n 0 lo:Nat):Int)/\(sliceBounds lo hi none n).2.1=((HT.oR n n hi:Nat):Int)/\(sliceBounds lo hi none n).2.2=1:=by
 refine⟨?_,?_,rfl⟩
 .cases lo with
  |none=>simp[sliceBounds,HT.oR]
  |some i=>
   simp only[sliceBounds,HT.oR,Option.getD_none,show(1:Int)>0 by decide,if_true];by_cases h:i<0
   .simp only[h,if_true]<;>lia
   .simp only[h,if_false]<;>lia
 .cases hi with
  |none=>simp[sliceBounds,HT.oR]
  |some i=>
   simp only[sliceBounds,HT.oR,Option.getD_none,show(1:Int)>0 by decide,if_true];by_cases h:i<0
   .simp only[h,if_true]<;>lia
   .simp only[h,if_false]<;>lia
theorem pY(its:List MX)(lo hi:Option Int):slicePick its.toArray lo hi none=((its.drop (HT.oR its.length 0 lo)).take (HT.oR its.length its.length hi-HT.oR its.length 0 lo)).toArray:=by
 obtain⟨h1,h2,h3⟩:=sL lo hi its.toArray.size;unfold slicePick;rw[h1,h2,h3];simp only[sliceRange_one,pick_run,ML]<;>rfl
def Ha(K:W.Frag):V->Option Int->Option Int->Hp->VK->Prop:=fun x lo hi H Q=>∃a xs,x= .ref a/\aJ K H a xs/\∀p,H p=none->Q (.ref p) (upd H p (.lst (fg xs lo hi)))
theorem ER:KD X (Ha X.K):=by
 intro pins s σ H x v vl vu lo hi sl Q I rx hs pl pu h;obtain⟨a,xs,rfl,hx,q⟩:=h;cases rx;obtain⟨its,r,ht,hz⟩:=I.list hx;have hlen:=r.length;refine⟨"list",_,slot_list_getitem.lookup,ht.isList.typeIs,?_⟩;refine wpAny_getItem_list_slice ht.isList hs pl pu .none (by simp) ?_ (by rw[ML]<;>lia);rw[pY,←hlen];refine⟨.ref s.heap.objs.size,_,I.laid (t':=s.toks) (o:= .lst (fg xs lo hi)) (fun b ob q=>Nc.get?_push_of_some _ q) (MP _) ?_,rfl,q _ (I.aX.fresh (MP _))⟩;exact⟨MS (uU xs lo hi) hz,_,0,(r.drop (HT.oR xs.length 0 lo)).take (HT.oR xs.length xs.length hi-HT.oR xs.length 0 lo),Nc.get?_push_size _ rfl⟩
def kM:V->Bool
 | .de=>true
 | .bl _=>true
 | .int _=>true
 | .str _=>true
 |_=>false
def Ao:V->V->Bool
 | .de,.de=>true
 | .bl a,.bl b=>a==b
 | .bl a,.int b=>(if a then 1 else 0)==b
 | .int a,.bl b=>a==(if b then 1 else 0)
 | .int a,.int b=>a==b
 | .str a,.str b=>a==b
 |_,_=>false
theorem Io{A:M4}{s:MZ}{y x:V}{u v:MX}(ry:RelV y u)(rx:RelV x v)(fy:kM y=true)(fx:kM x=true):SeqAt.EqAt A s u v (Ao y x):=by
 cases y with
 |de=>
  cases ry
  cases x with
  |de=>cases rx;exact SeqAt.EqAt.same _
  |bl b=>cases rx;exact SeqAt.EqAt.none_bool b
  |int b=>obtain⟨t,rfl⟩:=rx;exact SeqAt.EqAt.none_int b t
  |str b=>obtain⟨t,rfl⟩:=rx;exact SeqAt.EqAt.none_str b t
  |_=>exact absurd (show false=true from fx) MU
 |bl a=>
  cases ry
  cases x with
  |de=>cases rx;exact SeqAt.EqAt.bool_none a
  |bl b=>cases rx;exact SeqAt.EqAt.bool_bool a b
  |int b=>obtain⟨t,rfl⟩:=rx;exact SeqAt.EqAt.bool_int a b t
  |str b=>obtain⟨t,rfl⟩:=rx;exact SeqAt.EqAt.bool_str a b t
  |_=>exact absurd (show false=true from fx) MU
 |int a=>
  obtain⟨t',rfl⟩:=ry
  cases x with
  |de=>cases rx;exact SeqAt.EqAt.int_none a t'
  |bl b=>cases rx;exact SeqAt.EqAt.int_bool a t' b
  |int b=>obtain⟨t,rfl⟩:=rx;exact SeqAt.EqAt.int_int a t' b t
  |str b=>obtain⟨t,rfl⟩:=rx;exact SeqAt.EqAt.int_str a t' b t
  |_=>exact absurd (show false=true from fx) MU
 |str a=>
  obtain⟨t',rfl⟩:=ry
  cases x with
  |de=>cases rx;exact SeqAt.EqAt.str_none a t'
  |bl b=>cases rx;exact SeqAt.EqAt.str_bool a t' b
  |int b=>obtain⟨t,rfl⟩:=rx;exact SeqAt.EqAt.str_int a t' b t
  |str b=>obtain⟨t,rfl⟩:=rx;exact SeqAt.EqAt.str_str a t' b t
  |_=>exact absurd (show false=true from fx) MU
 |_=>exact absurd (show false=true from fy) MU
def DS(x:V)(u:MX):Bool:=match u with
 | .none=>Ao .de x
 | .bool b=>Ao (.bl b) x
 | .int i _=>Ao (.int i) x
 | .str z _=>Ao (.str z) x
 |_=>false
theorem Bn{x y:V}{u:MX}(r:RelV y u)(f:kM y=true):DS x u=Ao y x:=by
 cases y with
 |de=>cases r;rfl
 |bl b=>cases r;rfl
 |int i=>obtain⟨t,rfl⟩:=r;rfl
 |str z=>obtain⟨t,rfl⟩:=r;rfl
 |_=>exact absurd (show false=true from f) MU
theorem rA{x:V}:∀{xs:List V}{us:List MX},Vals xs us->xs.all kM=true->us.any (DS x)=xs.any fun y=>Ao y x
 |_,_,.nil,_=>rfl
 |y::xs,u::us,.cons r t,f=>by
  rw[List.all_cons,Bool.and_eq_true]at f;rw[List.any_cons,List.any_cons,Bn r f.1,rA t f.2]
theorem pb{A:M4}{s:MZ}{x:V}{v:MX}(rx:RelV x v)(fx:kM x=true):∀{xs:List V}{us:List MX},Vals xs us->xs.all kM=true->∀u∈us,SeqAt.EqAt A s u v (DS x u)
 |_,_,.nil,_=>fun u hu=>by cases hu
 |y::xs,u::us,.cons r t,f=>fun u' hu=>by
  rw[List.all_cons,Bool.and_eq_true]at f;rcases List.mem_cons.mp hu with rfl|hu
  .rw[Bn r f.1];exact Io r rx f.1 fx
  .exact pb rx fx t f.2 u' hu
def JT(x:V)(xs:List V):Bool:=xs.any fun y=>Ao y x
def Lu(K:W.Frag)(neg:Bool):R2:=fun x y H Q=>∃p xs,y= .ref p/\(aJ K H p xs\/dI K H p xs)/\kM x=true/\xs.all kM=true/\Q (.bl (if neg then !JT x xs else JT x xs)) H
theorem rJ:jP X (compareOp .NotIn) (Lu X.K true):=by
 intro pins s σ H x y v u Q I rx ry h;obtain⟨p,xs,rfl,hq,fx,fs,q⟩:=h;cases ry;rcases hq with hq|hq
 .obtain⟨its,r,pl,hz⟩:=I.list hq
  refine SeqAt.notIn_listAt (DS x) pl.isList (fun w hw=>pb rx fx r fs w (by simpa using hw)) ⟨.bl _,H,I,rfl,?_⟩;rw[show its.toArray.any (DS x)=its.any (DS x) by simp,rA r fs];exact q
 .obtain⟨its,r,pl,hz⟩:=I.tuple hq
  refine SeqAt.notIn_tupleAt (DS x) pl (fun w hw=>pb rx fx r fs w (by simpa using hw)) ⟨.bl _,H,I,rfl,?_⟩;rw[show its.toArray.any (DS x)=its.any (DS x) by simp,rA r fs];exact q
theorem sk:bY X (.builtin "len") (fun xs H Q=>∃p ys,xs=[.ref p]/\(aJ X.K H p ys\/dI X.K H p ys)/\Q (.int ys.length) H):=by
 intro pins s σ H xs us Q I r h;obtain⟨p,ys,rfl,hq,q⟩:=h;obtain⟨u,rfl,rx⟩:=vals1 r;cases rx;have hn:=l6;rcases hq with hq|hq
 .obtain⟨its,r',pl,hz⟩:=I.list hq
  have hlen:=r'.length;exact Calls.call_len_list pl.isList (by simp only[ML]<;>lia) ⟨.int ys.length,H,I.tok _,⟨s.toks+1,by rw[ML,hlen]⟩,q⟩
 .obtain⟨its,r',pl,hz⟩:=I.tuple hq
  have hlen:=r'.length;exact len_tuple pl (by simp only[ML]<;>lia) ⟨.int ys.length,H,I.tok _,⟨s.toks+1,by rw[ML,hlen]⟩,q⟩
theorem lj:bY X (.builtin "len") (fun xs H Q=>∃z,xs=[.str z]/\z.length<=M5/\Q (.int z.length) H):=by
 intro pins s σ H xs us Q I r h;obtain⟨z,rfl,hz,q⟩:=h;obtain⟨u,rfl,t,rfl⟩:=vals1 r;have hn:=l6;exact len_str (by lia) ⟨.int z.length,H,I.tok _,⟨_,rfl⟩,q⟩
theorem rV:bY X (.type "list") (fun xs H Q=>∃p ys,xs=[.ref p]/\(aJ X.K H p ys\/dI X.K H p ys)/\∀l,H l=none->Q (.ref l) (upd H l (.lst ys))):=by
 intro pins s σ H xs us Q I r h;obtain⟨p,ys,rfl,hq,q⟩:=h;obtain⟨u,rfl,rx⟩:=vals1 r;cases rx;have fin:∀(its:List MX),Vals ys its->ys.length<=M5->∀(h':Nc)(c':Nat),(∀b o',s.heap.get? b=some o'->h'.get? b=some o')->
   h'.get? s.heap.objs.size=some {cls:= .type "list",dict:=none,data:= .seq its.toArray c',slots:= #[]}->EP X pins σ Q (.ref s.heap.objs.size) {s with heap:=h'}:=fun its r' hz h' c' kp e=>
  ⟨.ref s.heap.objs.size,_,I.laid (t':=s.toks) kp (MP _) (show bF X.prog X.w _ h' _ (.lst ys)from⟨hz,its,c',r',e⟩),rfl,q _ (I.aX.fresh (MP _))⟩
 rcases hq with hq|hq
 .obtain⟨its,r',pl,hz⟩:=I.list hq
  have hlen:=r'.length;obtain⟨o,ho,hc,n,hd⟩:=pl.isList;exact call_list_seq p (.inl rfl) ho hc hd (fun h' c' kp e=>fin its r' hz h' c' kp e) (by simp only[ML]<;>lia)
 .obtain⟨its,r',pl,hz⟩:=I.tuple hq
  have hlen:=r'.length;obtain⟨o,ho,hc,n,hd⟩:=pl;exact call_list_seq p (.inr rfl) ho hc hd (fun h' c' kp e=>fin its r' hz h' c' kp e) (by simp only[ML]<;>lia)
theorem pQ:bY X (.type "tuple") (fun xs H Q=>∃p ys,xs=[.ref p]/\((aJ X.K H p ys/\∀l,H l=none->Q (.ref l) (upd H l (.tup ys)))\/(dI X.K H p ys/\Q (.ref p) H))):=by
 intro pins s σ H xs us Q I r h;obtain⟨p,ys,rfl,h⟩:=h;obtain⟨u,rfl,rx⟩:=vals1 r;cases rx;rcases h with⟨hq,q⟩|⟨hq,q⟩
 .obtain⟨its,r',pl,hz⟩:=I.list hq
  have hlen:=r'.length;refine call_tuple_list pl.isList (fun h' kp=>?_) (by simp only[ML]<;>lia);have I1:Inv X pins σ H {s with heap:=h'}:=I.kept (t':=s.toks) kp;have I2:Inv X pins σ (upd H h'.objs.size (.tup ys)) {s with heap:=h'.push {cls:= .type "tuple",data:= .seq its.toArray}}:=
   I1.laid (t':=s.toks) (fun b o e=>Nc.get?_push_of_some _ e) (MP _) (show bF X.prog X.w _ _ _ (.tup ys)from⟨hz,its,r',IsTup.new _ _⟩)
  exact⟨.ref h'.objs.size,_,I2,rfl,q _ (I1.aX.fresh (MP _))⟩
 .obtain⟨its,r',pl,hz⟩:=I.tuple hq
  exact call_tuple_same pl ⟨.ref p,H,I,rfl,q⟩
def Ll(K:W.Frag)(T:String)(x:V)(H:Hp):Prop:=match x with
 | .str _=>T= "str"
 | .int _=>T= "int"
 | .ref p=>(T= "list"/\∃xs,aJ K H p xs)\/(T= "tuple"/\((∃o,K.lookup p=some o/\o.cls= .type "tuple"/\o.dict=none)\/∃o xs,H p=some (.tY o (.tup xs))/\o.cls= .type "tuple"/\o.dict=none))\/
   (T= "dict"/\((∃kvs,H p=some (.dK kvs))\/∃kvs,H p=some (.dT kvs)))\/(T= "set"/\∃S n,H p=some (.set S n))
 |_=>False
theorem CZ{pins:List (MY×Obj)}{σ:St}{H:Hp}{s:MZ}{T:String}{x:V}{v:MX}(I:Inv X pins σ H s)(r:RelV x v)(ty:Ll X.K T x H):
  s.TypeIs v T/\∀a,v= .ref a->∃ob,s.heap.get? a=some ob/\ob.dict=none:=by
 cases x with
 |str z=>
  obtain⟨t,rfl⟩:=r;cases(show T= "str"from ty);exact⟨typeIs_str s z t,fun _ e=>nomatch e⟩
 |int i=>
  obtain⟨t,rfl⟩:=r;cases(show T= "int"from ty);exact⟨typeIs_int s i t,fun _ e=>nomatch e⟩
 |ref p=>
  cases r;rcases ty with⟨rfl,xs,hq⟩|⟨rfl,⟨o,hk,hc,hd⟩|⟨o,xs,hk,hc,hd⟩⟩|⟨rfl,hk⟩|⟨rfl,S,n,hk⟩
  .obtain⟨its,_,pl,_⟩:=I.list hq
   refine⟨pl.isList.typeIs,fun a e=>?_⟩;cases e;obtain⟨o,n,e,c,hd,_⟩:=pl;exact⟨o,e,hd⟩
  .refine⟨⟨o,I.jr p o hk,hc⟩,fun a e=>?_⟩
   cases e;exact⟨o,I.jr _ o hk,hd⟩
  .obtain⟨e,_⟩:=(show bF X.prog X.w H s.heap p (.tY o (.tup xs))from I.aX p _ hk)
   exact⟨⟨o,e,hc⟩,fun a z=>by cases z;exact⟨o,e,hd⟩⟩
  .have z:∃o,s.heap.get? p=some o/\o.ExactDict:=by
    rcases hk with⟨kvs,hk⟩|⟨kvs,hk⟩
    .obtain⟨_,_,_,_,o,_,_,e,ex,_⟩:=I.aX p _ hk
     exact⟨o,e,ex⟩
    .obtain⟨_,_,_,_,o,_,_,e,ex,_⟩:=I.aX p _ hk
     exact⟨o,e,ex⟩
   obtain⟨o,e,ex⟩:=z;refine⟨⟨o,e,ex.1⟩,fun a e2=>?_⟩;cases e2;exact⟨o,e,ex.2.1⟩
  .obtain⟨o,_,_,_,e,ex,_⟩:=I.aX p _ hk
   refine⟨⟨o,e,ex.1⟩,fun a e2=>?_⟩;cases e2;exact⟨o,e,ex.2.1⟩
 |_=>exact False.elim ty
def Jn(K:W.Frag)(T:String)(r:V->List V->Hp->VK->Prop)(to:TE):TE:=fun σ H Q=>to σ H fun x H1=>Ll K T x H1/\r x [] H1 Q
def K3(K:W.Frag)(T:String)(r:V->List V->Hp->VK->Prop)(to:TE)(t:TA):TE:=fun σ H Q=>to σ H fun x H1=>Ll K T x H1/\t σ H1 fun xs H2=>r x xs H2 Q
variable{o e:Expr}{es:List Expr}{to:TE}{t:TA}{name:Str}{apos cpos:Pos}{T id:String}{r:V->List V->Hp->VK->Prop}
theorem HF(pa:PlainAttrs T)(slot:Slot T name id)(hty:typeOf (.builtin id)=pure (.type "method_descriptor"))(hm:Aw X id r)(ho:PE X o to)
  (hbase:attributeBase o name X.env (eval o X.env)=eval o X.env:=by rfl) (hline:(apos.endLine==cpos.line)=true:=by rfl):PE X (.Call (.Attribute o name apos) [] [] cpos) (Jn X.K T r to):=by
 intro pins s σ H Q I h;refine wpAny_Call_method0_late hbase hline (aY (ho pins s σ H _ I h) fun v s1 ⟨x,H1,I1,r1,ty,q1⟩=>?_);obtain⟨h1,h2⟩:=CZ I1 r1 ty;exact⟨T,id,pa,slot,hty,h1,h2,Calls.callWith_builtin rfl (PySem.evalArgs_none (hm pins s1 σ H1 x [] v [] Q I1 r1 .nil q1))⟩
theorem JH(pa:PlainAttrs T)(slot:Slot T name id)(hty:typeOf (.builtin id)=pure (.type "method_descriptor"))(hm:Aw X id r)(ho:PE X o to)(ha:PA X (e::es) t)
  (hbase:attributeBase o name X.env (eval o X.env)=eval o X.env:=by rfl)
  (hfew:((Nd cpos (Na (e::es) X.env)).all (fun x=> !x.1)&&(backToKw cpos (keywordEach [] X.env)).all (fun x=>x.1.isSome)
   &&decide ((e::es).length+([]:List Keyword).length+(if([]:List Keyword).isEmpty then 0 else 1)<30))=true:=by rfl)
  (hline:(apos.endLine==cpos.line)=true:=by rfl) (hs:Na (e::es) X.env=(false,eval e X.env)::Na es X.env:=by rfl) (hplain:(Nd cpos (Na es X.env)).any (·.1)=false:=by rfl):
  PE X (.Call (.Attribute o name apos) (e::es) [] cpos) (K3 X.K T r to t):=by
 intro pins s σ H Q I h;refine wpAny_Call_method_late hbase hfew hline rfl (aY (ho pins s σ H _ I h) fun v s1 ⟨x,H1,I1,r1,ty,q1⟩=>?_);obtain⟨h1,h2⟩:=CZ I1 r1 ty;refine⟨T,id,pa,slot,hty,h1,h2,?_⟩;have hA:=ha cpos pins s1 σ H1 _ I1 q1;rw[hs]at hA⊢;refine Calls.callWith_builtin (by show(false||(Nd cpos (Na es X.env)).any (·.1))=false;rw[hplain]<;>rfl) (Calls.evalArgs_plain ?_);exact aY hA fun us s2 ⟨vs,H2,I2,r2,q2⟩=>hm pins s2 σ H2 x vs v us Q I2 r1 r2 q2
end
def KJ(X:Cx)(id:String)(r:V->List V->Hp->VK->Prop):Prop:=
 ∀(pins:List (MY×Obj))(s:MZ)(σ:St)(H:Hp)(x:V)(xs:List V)(v:MX)(us:List MX)(Q:VK),Inv X pins σ H s->RelV x v->Vals xs us->r x xs H Q->
  Nf (model X.prog X.w) X.A (call (.builtin id) (v::us)) (EP X pins σ Q) X.xe s
theorem Vals.one:∀{x:V}{us:List MX},Vals [x] us->∃u,us=[u]/\RelV x u
 |_,_,.cons r .nil=>⟨_,rfl,r⟩
theorem Vals.dropLast {xs:List V}{us:List MX}(h:Vals xs us):Vals xs.dropLast us.dropLast:=by
 induction h with
 |nil=>exact .nil
 |cons r t ih=>
  cases t with
  |nil=>exact .nil
  |cons q t'=>exact .cons r ih
theorem Vals.eraseIdx:∀{xs:List V}{us:List MX}(i:Nat),Vals xs us->Vals (xs.eraseIdx i) (us.eraseIdx i)
 |_,_,_,.nil=> .nil
 |_,_,0,.cons _ t=>t
 |_,_,i+1,.cons r t=> .cons r (Vals.eraseIdx i t)
theorem Vals.rep {xs:List V}{us:List MX}(h:Vals xs us):∀k:Nat,Vals (List.replicate k xs).flatten (List.replicate k us).flatten
 |0=> .nil
 |k+1=>by
  rw[List.replicate_succ,List.replicate_succ,List.flatten_cons,List.flatten_cons];exact Vals.append h (Vals.rep h k)
theorem HP{α:Type}(l:List α):l.eraseIdx (l.length-1)=l.dropLast:=by
 induction l with
 |nil=>rfl
 |cons a r ih=>
  cases r with
  |nil=>rfl
  |cons b r=>
   have e:(a::b::r).length-1=((b::r).length-1)+1:=by
    have h1:(a::b::r).length=r.length+2:=rfl;have h2:(b::r).length=r.length+1:=rfl;lia
   rw[e,List.eraseIdx_cons_succ,ih]
   all_goals rfl
theorem qh{α:Type}:∀(l:List α)(i:Nat),(l.eraseIdx i).length<=l.length
 |[],_=>MP _
 |_::_,0=>Nat.le_succ _
 |_::r,i+1=>Nat.succ_le_succ (qh r i)
theorem foldl_rep(its:List MX):∀(k:Nat)(acc:List MX),
  List.foldl (fun x1 x2=>x1++x2) acc.toArray (List.replicate k its.toArray)=(acc++(List.replicate k its).flatten).toArray
 |0,acc=>by simp
 |k+1,acc=>by
  have e:acc.toArray++its.toArray=(acc++its).toArray:=by simp
  have e2:(acc++its)++(List.replicate k its).flatten=acc++(List.replicate (k+1) its).flatten:=by
   rw[List.replicate_succ,List.flatten_cons,List.append_assoc]
  rw[←e2,←foldl_rep its k (acc++its),←e,List.replicate_succ,List.foldl_cons]
section
variable{X:Cx}{pins:List (MY×Obj)}{σ:St}{H:Hp}{s:MZ}{l b:MY}{xs ys zs:List V}
theorem Inv.Eh {its its':List MX}{n:Nat}{f:Array MX->Array MX}{t':Nat}(I:Inv X pins σ H s)(hH:H l=some (.lst xs))
  (e:s.heap.get? l=some {cls:= .type "list",data:= .seq its.toArray n}) (hf:f its.toArray=its'.toArray) (hv:Vals ys its') (hz:ys.length<=M5):
  Inv X pins σ (upd H l (.lst ys)) {s with heap:=s.heap.update l (Obj.mapSeq f),toks:=t'}:=by
 have q:=PySem.IsL.update e f;rw[hf]at q;refine I.write (x:=l) (e:=l) (by rw[hH];exact trivial) (.inl rfl) (fun b' u hb hu=>(Nc.get?_update_other s.heap (Obj.mapSeq f) (Ne.symm hb)).trans hu) ⟨_,q⟩ ?_;exact⟨hz,its',_,hv,q⟩
theorem Inv.JQ {its:List MX}{t':Nat}(I:Inv X pins σ H s)(hv:Vals ys its)(hz:ys.length<=M5):
  Inv X pins σ (upd H s.heap.objs.size (.lst ys)) {s with heap:=s.heap.push {cls:= .type "list",data:= .seq its.toArray},toks:=t'}:=
 I.laid (fun _ _ q=>Nc.get?_push_of_some _ q) (MP _) ⟨hz,its,0,hv,Nc.get?_push_size _ rfl⟩
theorem Inv.fresh (I:Inv X pins σ H s):H s.heap.objs.size=none:=I.aX.fresh (MP _)
theorem Inv.o5 (I:Inv X pins σ H s)(hH:H l=some (.lst xs)):xs.length<=M5/\∃(its:List MX)(n:Nat),Vals xs its/\xs.length=its.length/\s.heap.get? l=some {cls:= .type "list",data:= .seq its.toArray n}:=by
 obtain⟨z,its,n,r,e⟩:=I.aX l _ hH;exact⟨z,its,n,r,r.length,e⟩
theorem uF{n:Nat}(h:n<=M5):Ni.List.listTooLong n=false:=by
 unfold Ni.List.listTooLong;exact decide_eq_false (by lia)
end
section
variable{X:Cx}
def Dx:V->List V->Hp->VK->Prop:=fun x vs H Q=>∃l xs y,x= .ref l/\vs=[y]/\H l=some (.lst xs)/\xs.length<M5/\Q .de (upd H l (.lst (xs++[y])))
theorem gU:KJ X "list.append" Dx:=by
 intro pins s σ H x vs v us Q I rx rv h;obtain⟨l,xs,y,rfl,rfl,hH,hz,q⟩:=h;cases rx;obtain⟨u,rfl,ru⟩:=rv.one;obtain⟨z,its,n,r,hl,e⟩:=I.o5 hH;refine call_meets F.slot_list_append ⟨_,e,rfl⟩ F.entry_list_append (F.args_list_append_2 _ _) (PySem.list_append l its.toArray n u (by rw[ML];lia)) ⟨e,?_⟩;refine⟨.de,_,I.Eh (its':=its++[u]) hH e (by simp) (r.append (.cons ru .nil)) ?_,rfl,q⟩;rw[Mw,List.length_singleton];lia
def EW:V->List V->Hp->VK->Prop:=fun x vs H Q=>∃l b xs zs,x= .ref l/\vs=[.ref b]/\H l=some (.lst xs)/\H b=some (.lst zs)/\xs.length+zs.length<=M5/\Q .de (upd H l (.lst (xs++zs)))
theorem IB:KJ X "list.extend" EW:=by
 intro pins s σ H x vs v us Q I rx rv h;obtain⟨l,b,xs,zs,rfl,rfl,hH,hB,hz,q⟩:=h;cases rx;obtain⟨u,rfl,ru⟩:=rv.one;cases ru;obtain⟨z,its,n,r,hl,e⟩:=I.o5 hH;obtain⟨z2,its2,n2,r2,hl2,e2⟩:=I.o5 hB;have hsz:its.toArray.size+its2.toArray.size<=M5:=by rw[ML,ML];lia
 have hlong:¬(!its.toArray.isEmpty&&Ni.List.listTooLong (its.toArray.size+its2.toArray.size))=true:=by
  rw[uF hsz,Bool.and_false];exact MU
 refine call_meets F.slot_list_extend ⟨_,e,rfl⟩ F.entry_list_extend (F.args_list_extend_2 _ _)
  (AutoSeq1.list_extend_list_list_0 l its.toArray n b its2.toArray n2 hlong (by rw[ML];lia) (by lia)) ⟨e,e2,?_⟩
 refine⟨.de,_,I.Eh (its':=its++its2) hH e (by simp) (r.append r2) ?_,rfl,q⟩;rw[Mw];lia
def GU:V->List V->Hp->VK->Prop:=fun x vs H Q=>∃l xs i k y,x= .ref l/\vs=[.int i]/\H l=some (.lst xs)/\-(2^63)<=i/\i<2^63/\seqIndex? i xs.length=some k/\xs[k]?=some y/\Q y (upd H l (.lst (xs.eraseIdx k)))
theorem ur:KJ X "list.pop" GU:=by
 intro pins s σ H x vs v us Q I rx rv h;obtain⟨l,xs,i,k,y,rfl,rfl,hH,h1,h2,hk,hy,q⟩:=h;cases rx;obtain⟨u,rfl,ru⟩:=rv.one;obtain⟨t,rfl⟩:=ru;obtain⟨z,its,n,r,hl,e⟩:=I.o5 hH;obtain⟨w,hw,rw'⟩:=r.get hy;refine call_meets F.slot_list_pop ⟨_,e,rfl⟩ F.entry_list_pop (F.args_list_pop_2 _ _)
  (MeetsSeq.list_pop_at l its.toArray n i t k w (fitsIndex_both h1 h2) (by rw[ML,←hl];exact hk) (by rw[←Array.getElem?_toList];exact hw) (by rw[ML];lia)) ⟨e,?_⟩
 refine⟨y,_,I.Eh (its':=its.eraseIdx k) hH e ?_ (r.eraseIdx k) ?_,rw',q⟩
 .show its.toArray.eraseIdxIfInBounds k=(its.eraseIdx k).toArray
  rw[List.eraseIdxIfInBounds_toArray]
 .have:=qh xs k
  lia
def JK:R2:=fun x y H Q=>∃l b xs zs,x= .ref l/\y= .ref b/\H l=some (.lst xs)/\H b=some (.lst zs)/\xs.length+zs.length<=M5/\∀p,H p=none->Q (.ref p) (upd H p (.lst (xs++zs)))
theorem dM:jP X (binaryOp .Add) JK:=by
 intro pins s σ H x y v u Q I rx ry h;obtain⟨l,b,xs,zs,rfl,rfl,hH,hB,hz,q⟩:=h;cases rx;cases ry;obtain⟨z,its,n,r,hl,e⟩:=I.o5 hH;obtain⟨z2,its2,n2,r2,hl2,e2⟩:=I.o5 hB;refine PySem.P.add_list e e2 ?_ (by rw[ML,ML];lia);have ea:its.toArray++its2.toArray=(its++its2).toArray:=by simp
 rw[ea];exact⟨.ref _,_,I.JQ (t':=s.toks) (r.append r2) (by rw[Mw];lia),rfl,q _ I.fresh⟩
def GB:R2:=fun x y H Q=>∃l k xs,x= .ref l/\y= .int k/\H l=some (.lst xs)/\-(2^63)<=k/\k<2^63/\xs.length*k.toNat<=M5/\
 ∀p,H p=none->Q (.ref p) (upd H p (.lst (List.replicate k.toNat xs).flatten))
theorem len_rep{α:Type}(xs:List α)(k:Nat):(List.replicate k xs).flatten.length=k*xs.length:=by
 induction k with
 |zero=>simp
 |succ k ih=>rw[List.replicate_succ,List.flatten_cons,Mw,ih,Nat.succ_mul,Nat.add_comm]
theorem Cb:jP X (binaryOp .Mult) GB:=by
 intro pins s σ H x y v u Q I rx ry h;obtain⟨l,k,xs,rfl,rfl,hH,h1,h2,hz,q⟩:=h;cases rx;obtain⟨t,rfl⟩:=ry;obtain⟨z,its,n,r,hl,e⟩:=I.o5 hH;have hlen:its.toArray.size*k.toNat<=M5:=by rw[ML,←hl];exact hz
 have hcap:¬its.toArray.size*k.toNat>(2^63-1)/8:=by
  have:(M5:Nat)<=(2^63-1)/8:=by decide
  lia
 have hfit:¬(!Ni.List.listFitsIndex k)=true:=by
  rw[fitsIndex_both h1 h2];exact MU
 have hlong:¬Ni.List.listTooLong (its.toArray.size*k.toNat)=true:=by
  rw[uF hlen];exact MU
 have hnew:List.foldl (fun x1 x2=>x1++x2) #[] (List.replicate (if its.toArray.isEmpty=true then 0 else k.toNat) its.toArray)=(List.replicate k.toNat its).flatten.toArray:=by
  have f0:∀m:Nat,List.foldl (fun x1 x2=>x1++x2) #[] (List.replicate m its.toArray)=(List.replicate m its).flatten.toArray:=fun m=>by
   have:=foldl_rep its m [];rw[List.nil_append]at this;exact this
  rw[f0]
  cases its with
  |nil=>simp
  |cons a r'=>rw[if_neg (by simp)]
 refine wpAny_binaryOp_repeat_ref (T:= "list") (U:= "int") (by decide) ⟨_,e,rfl⟩ (fun s'=>typeIs_int s' k t) noFill_list_mul F.fills_int_mul F.slot_int_rmul repeat_list F.slot_int_index.lookup
  (call_meets F.slot_int_rmul (typeIs_int s k t) F.entry_int_rmul (F.args_int_rmul_2 _ _) (int___rmul___int_list k t l its.toArray n)
   ⟨e,rfl,⟨_,e,rfl⟩,call_meets F.slot_list_mul ⟨_,e,rfl⟩ F.entry_list_mul (F.args_list_mul_2 _ _) (AutoListH.list___mul___list_int_3 l its.toArray n k t hfit hcap hlong) ⟨e,?_⟩⟩)
 rw[hnew];exact⟨.ref _,_,I.JQ (t':=s.toks) (r.rep k.toNat) (by rw[len_rep,Nat.mul_comm];exact hz),rfl,q _ I.fresh⟩
end
section
variable{κ:Type}[DecidableEq κ]
def cj(kvs:List (κ×V))(k:κ):Option V:=(kvs.find? fun kv=>decide (kv.1=k)).map (·.2)
def putK(kvs:List (κ×V))(k:κ)(v:V):List (κ×V):=
 if(kvs.any fun kv=>decide (kv.1=k))=true then kvs.map (fun kv=>if kv.1=k then(kv.1,v)else kv)else kvs++[(k,v)]
def kG(kvs:List (κ×V))(k:κ):List (κ×V):=kvs.filter fun kv=>decide (kv.1≠k)
theorem Br{k:κ}:cj ([]:List (κ×V)) k=none:=rfl
theorem cQ{p:κ×V}{r:List (κ×V)}{k:κ}(e:p.1=k):cj (p::r) k=some p.2:=by simp[cj,List.find?_cons,e]
theorem cD{p:κ×V}{r:List (κ×V)}{k:κ}(e:¬p.1=k):cj (p::r) k=cj r k:=by simp[cj,List.find?_cons,e]
theorem iR(k:κ):∀kvs:List (κ×V),(kvs.any fun kv=>decide (kv.1=k))=(cj kvs k).isSome
 |[]=>rfl
 |p::r=>by
  rw[List.any_cons];by_cases e:p.1=k
  .simp only[cQ e,decide_eq_true e,Bool.true_or,Option.isSome_some]
  .rw[cD e,decide_eq_false e,Bool.false_or];exact iR k r
theorem tP(k j:κ)(y:V):∀kvs:List (κ×V),cj (kvs.map fun kv=>if kv.1=k then(kv.1,y)else kv) j=(cj kvs j).map fun x=>if j=k then y else x
 |[]=>rfl
 |p::r=>by
  have ih:=tP k j y r;rw[MA];by_cases h:p.1=k
  .rw[if_pos h]
   by_cases e:p.1=j
   .rw[cQ (p:=(p.1,y)) e,cQ e,MW,if_pos (e.symm.trans h)]
   .rw[cD (p:=(p.1,y)) e,cD e,ih]
  .rw[if_neg h]
   by_cases e:p.1=j
   .rw[cQ (p:=p) e,cQ e,MW,if_neg (fun z=>h (e.trans z))]
   .rw[cD (p:=p) e,cD e,ih]
theorem qq(k j:κ)(y:V):∀kvs:List (κ×V),cj kvs k=none->cj (kvs++[(k,y)]) j=if j=k then some y else cj kvs j
 |[],_=>by
  by_cases e:k=j
  .rw[if_pos e.symm];exact cQ (p:=(k,y)) e
  .rw[if_neg (fun z=>e z.symm)];exact cD (p:=(k,y)) e
 |p::r,hn=>by
  rw[List.cons_append];have hk:¬p.1=k:=fun z=>by rw[cQ z]at hn;cases hn
  rw[cD hk]at hn;have ih:=qq k j y r hn;by_cases e:p.1=j
  .rw[cQ e,cQ e,if_neg (fun z=>hk (e.trans z))]
  .rw[cD e,cD e,ih]
theorem o8(kvs:List (κ×V))(k j:κ)(y:V):cj (putK kvs k y) j=if j=k then some y else cj kvs j:=by
 unfold putK;by_cases a:(kvs.any fun kv=>decide (kv.1=k))=true
 .rw[if_pos a,tP]
  rw[iR]at a;by_cases e:j=k
  .obtain⟨x,hx⟩:=Option.isSome_iff_exists.mp a
   rw[if_pos e,e,hx,MW,if_pos rfl]
  .rw[if_neg e]
   cases cj kvs j with
   |none=>rfl
   |some x=>rw[MW,if_neg e]
 .rw[if_neg a]
  refine qq k j y kvs ?_;rw[iR]at a
  cases q:cj kvs k with
  |none=>rfl
  |some x=>rw[q]at a;exact(a rfl).elim
theorem fX(kvs:List (κ×V))(k:κ)(v:V):(putK kvs k v).length<=kvs.length+1:=by
 unfold putK
 split
 .rw[Mu];lia
 .rw[Mw,Mz,List.length_nil];lia
theorem gZ.dH {o:Option V}{u:Option MX}(r:gZ o u):o.isSome=u.isSome:=by
 cases o with
 |none=>cases u with
  |none=>rfl
  |some _=>exact(show False from r).elim
 |some _=>cases u with
  |none=>exact(show False from r).elim
  |some _=>rfl
theorem gZ.getD {o:Option V}{u:Option MX}{d:V}{d':MX}(r:gZ o u)(rd:RelV d d'):RelV (o.getD d) (u.getD d'):=by
 cases o with
 |none=>cases u with
  |none=>exact rd
  |some _=>exact(show False from r).elim
 |some _=>cases u with
  |none=>exact(show False from r).elim
  |some _=>exact r
theorem KV.val {kvs:List (κ×V)}{vs:List (κ×MX)}(r:KV kvs vs)(k:κ):gZ (cj kvs k) (valueAt vs k):=by
 unfold KV at r
 induction r with
 |nil=>exact True.intro
 | @cons p q ps qs h t ih=>
  obtain⟨h1,h2⟩:=h;by_cases e:p.1=k
  .have e':q.1=k:=h1.symm.trans e
   have b:valueAt (q::qs) k=some q.2:=by simp[valueAt,List.find?_cons,e']
   rw[cQ e,b];exact h2
  .have e':¬q.1=k:=fun z=>e (h1.trans z)
   have b:valueAt (q::qs) k=valueAt qs k:=by simp[valueAt,List.find?_cons,e']
   rw[cD e,b];exact ih
theorem KV.any {kvs:List (κ×V)}{vs:List (κ×MX)}(r:KV kvs vs)(k:κ):(kvs.any fun kv=>decide (kv.1=k))=vs.any fun kv=>decide (kv.1=k):=by
 unfold KV at r
 induction r with
 |nil=>rfl
 |cons h t ih=>rw[List.any_cons,List.any_cons,ih,h.1]
theorem KV.GO {kvs:List (κ×V)}{vs:List (κ×MX)}(r:KV kvs vs)(k:κ){y:V}{u:MX}(ry:RelV y u):
  KV (kvs.map fun kv=>if kv.1=k then(kv.1,y)else kv) (vs.map fun kv=>if kv.1=k then(kv.1,u)else kv):=by
 unfold KV at r⊢
 induction r with
 |nil=>exact .nil
 | @cons p q ps qs h t ih=>
  rw[MA,MA];refine .cons ?_ ih;obtain⟨h1,h2⟩:=h;by_cases e:p.1=k
  .rw[if_pos e,if_pos (h1.symm.trans e)];exact⟨h1,ry⟩
  .rw[if_neg e,if_neg (fun z=>e (h1.trans z))];exact⟨h1,h2⟩
theorem KV.put {kvs:List (κ×V)}{vs:List (κ×MX)}(r:KV kvs vs)(k:κ){y:V}{u:MX}(ry:RelV y u):KV (putK kvs k y) (stored vs k u):=by
 unfold putK stored;rw[r.any k];by_cases e:(vs.any fun kv=>decide (kv.1=k))=true
 .rw[if_pos e,if_pos e];exact r.GO k ry
 .rw[if_neg e,if_neg e];exact Paired.snoc r ⟨rfl,ry⟩
theorem KV.drop {kvs:List (κ×V)}{vs:List (κ×MX)}(r:KV kvs vs)(k:κ):KV (kG kvs k) (without vs k):=by
 unfold KV at r⊢;unfold kG without
 induction r with
 |nil=>exact .nil
 | @cons p q ps qs h t ih=>
  obtain⟨h1,h2⟩:=h;rw[List.filter_cons,List.filter_cons];by_cases e:p.1=k
  .have a:¬decide (p.1≠k)=true:=by simp[e]
   have b:¬decide (q.1≠k)=true:=by simp[h1.symm.trans e]
   rw[if_neg a,if_neg b];exact ih
  .have e':¬q.1=k:=fun z=>e (h1.trans z)
   have a:decide (p.1≠k)=true:=by simp[e]
   have b:decide (q.1≠k)=true:=by simp[e']
   rw[if_pos a,if_pos b];exact .cons ⟨h1,h2⟩ ih
theorem KV.keys {kvs:List (κ×V)}{vs:List (κ×MX)}(r:KV kvs vs):kvs.map (·.1)=vs.map (·.1):=by
 unfold KV at r
 induction r with
 |nil=>rfl
 |cons h t ih=>rw[MA,MA,ih,h.1]
theorem KV.length {kvs:List (κ×V)}{vs:List (κ×MX)}(r:KV kvs vs):kvs.length=vs.length:=Paired.length r
theorem Cr(kvs:List (κ×V))(k:κ):(kG kvs k).length<=kvs.length:=List.length_filter_le _ _
end
theorem iC{P:M0}{w:M3}{k:Key}{u:MX}(r:RelV (kV k) u):(aW P w).is k u=true:=by
 cases k with
 |inl i=>obtain⟨t,e⟩:=(show∃t,u=MX.int i t from r);subst e;exact t5 P w i t
 |inr x=>obtain⟨t,e⟩:=(show∃t,u=MX.str x t from r);subst e;exact vt P w x t
theorem qo{P:M0}{w:M3}:∀{ks:List Key}{us:List MX},Vals (ks.map kV) us->ItemsAre (aW P w) ks us
 |[],_,r=>by rw[List.map_nil]at r;cases r;exact .nil
 |k::ks,_,r=>by
  rw[MA]at r
  cases r with
  |cons h t=>exact .cons (iC h) (qo t)
abbrev KT(H:Hp):List (List Key×V)->List (List Key×MY×MX)->Prop:=Paired fun p q=>p.1=q.1/\H q.2.1=some (.tup (p.1.map kV))/\RelV p.2 q.2.2
theorem KT.val {H:Hp}{kvs:List (List Key×V)}{xs:List (List Key×MY×MX)}(r:KT H kvs xs)(k:List Key):gZ (cj kvs k) ((atKey xs k).map (·.2)):=by
 induction r with
 |nil=>exact True.intro
 | @cons p q ps qs h t ih=>
  obtain⟨h1,_,h2⟩:=h;by_cases e:p.1=k
  .have e':q.1=k:=h1.symm.trans e
   have b:atKey (q::qs) k=some q.2:=by simp[atKey,List.find?_cons,e']
   rw[cQ e,b];exact h2
  .have e':¬q.1=k:=fun z=>e (h1.trans z)
   have b:atKey (q::qs) k=atKey qs k:=by simp[atKey,List.find?_cons,e']
   rw[cD e,b];exact ih
theorem KT.GO {H:Hp}{kvs:List (List Key×V)}{xs:List (List Key×MY×MX)}(r:KT H kvs xs)(k:List Key){y:V}{u:MX}(ry:RelV y u):
  KT H (kvs.map fun kv=>if kv.1=k then(kv.1,y)else kv) (xs.map (putAt k u)):=by
 induction r with
 |nil=>exact .nil
 | @cons p q ps qs h t ih=>
  rw[MA,MA];refine .cons ?_ ih;obtain⟨h1,h2,h3⟩:=h;unfold putAt;by_cases e:p.1=k
  .rw[if_pos e,if_pos (h1.symm.trans e)];exact⟨h1,h2,ry⟩
  .rw[if_neg e,if_neg (fun z=>e (h1.trans z))];exact⟨h1,h2,h3⟩
theorem KT.put {H:Hp}{kvs:List (List Key×V)}{xs:List (List Key×MY×MX)}(r:KT H kvs xs)(k:List Key){b:MY}{y:V}{u:MX}(hb:H b=some (.tup (k.map kV)))(ry:RelV y u):
  KT H (putK kvs k y) (storedH xs k b u):=by
 have e:(kvs.any fun kv=>decide (kv.1=k))=(atKey xs k).isSome:=by
  rw[iR,(r.val k).dH,Option.isSome_map]
 unfold putK storedH;rw[e];by_cases q:(atKey xs k).isSome=true
 .rw[if_pos q,if_pos q];exact r.GO k ry
 .rw[if_neg q,if_neg q];exact Paired.snoc r ⟨rfl,hb,ry⟩
theorem KT.keeps {H H':Hp}{kvs:List (List Key×V)}{xs:List (List Key×MY×MX)}(r:KT H kvs xs)(ht:∀b ys,H b=some (.tup ys)->H' b=some (.tup ys)):KT H' kvs xs:=
 Paired.rX r fun _ _ z=>⟨z.1,ht _ _ z.2.1,z.2.2⟩
section
variable{P:M0}{w:M3}{H:Hp}{h:Nc}{a:MY}
theorem FW{u:HO}(ok:jF P w H h)(e:Rd H a u):bF P w H h a u:=e.ok ok
theorem mW{kvs:List (Key×V)}(ok:jF P w H h)(e:Rd H a (.dK kvs)):kvs.length<=M5/\(a==sysModules)=false/\∃vs,KV kvs vs/\h.DictOf (aW P w) a vs:=
 show bF P w H h a (.dK kvs)from FW ok e
theorem xW{kvs:List (Key×V)}(ok:jF P w H h)(e:H a=some (.dK kvs)):kvs.length<=M5/\(a==sysModules)=false/\∃vs,KV kvs vs/\h.DictOf (aW P w) a vs:=mW ok (.inl e)
theorem lU{ks:List Key}(ok:jF P w H h)(e:H a=some (.tup (ks.map kV))):(tupleKind (aW P w)).is h ks a:=by
 obtain⟨_,its,r,o,h1,h2,n,h3⟩:=(show bF P w H h a (.tup (ks.map kV))from ok a _ e);exact⟨o,its.toArray,n,h1,h2,h3,by simpa using qo r⟩
theorem oV{kvs:List (List Key×V)}(ok:jF P w H h)(e:Rd H a (.dT kvs)):kvs.length<=M5/\(a==sysModules)=false/\
  ∃xs,KT H kvs xs/\h.DictOfH (tupleKind (aW P w)) a xs:=by
 obtain⟨z,y,xs,r,o,es,ep,h1,h2,h3,h4,h5⟩:=(show bF P w H h a (.dT kvs)from FW ok e);refine⟨z,y,xs,r,o,es,ep,h1,h2,h3,h4,fun x hx=>?_,h5⟩;have all:∀{l:List (List Key×V)}{m:List (List Key×MY×MX)},KT H l m->∀x∈m,(tupleKind (aW P w)).is h x.1 x.2.1:=by
  intro l m q
  induction q with
  |nil=>intro x hx;exact nomatch hx
  | @cons p q ps qs hq t ih=>
   intro x hx;rcases List.mem_cons.mp hx with e|hx
   .subst e
    exact lU ok (by rw[←hq.1];exact hq.2.1)
   .exact ih x hx
 exact all r x hx
theorem J0{kvs:List (List Key×V)}(ok:jF P w H h)(e:H a=some (.dT kvs)):kvs.length<=M5/\(a==sysModules)=false/\
  ∃xs,KT H kvs xs/\h.DictOfH (tupleKind (aW P w)) a xs:=oV ok (.inl e)
end
def dg(H:Hp)(a:MY)(y:V)(r:Option V):Prop:=
 (∃kvs k,Rd H a (.dK kvs)/\y=kV k/\r=cj kvs k)\/∃kvs k b,Rd H a (.dT kvs)/\y= .ref b/\H b=some (.tup (k.map kV))/\r=cj kvs k
def rM(H:Hp)(a:MY)(y v:V)(H':Hp):Prop:=
 (∃kvs k,H a=some (.dK kvs)/\y=kV k/\kvs.length<M5/\H'=upd H a (.dK (putK kvs k v)))\/
 ∃kvs k b,H a=some (.dT kvs)/\y= .ref b/\H b=some (.tup (k.map kV))/\kvs.length<M5/\H'=upd H a (.dT (putK kvs k v))
theorem dg.k {H:Hp}{a:MY}{kvs:List (Key×V)}{k:Key}(e:H a=some (.dK kvs)):dg H a (kV k) (cj kvs k):= .inl ⟨kvs,k,.inl e,rfl,rfl⟩
theorem rM.k {H:Hp}{a:MY}{kvs:List (Key×V)}{k:Key}{v:V}(e:H a=some (.dK kvs))(hl:kvs.length<M5):rM H a (kV k) v (upd H a (.dK (putK kvs k v))):= .inl ⟨kvs,k,e,rfl,hl,rfl⟩
section
variable{X:Cx}{pins:List (MY×Obj)}{σ:St}{H:Hp}{s:MZ}{a:MY}{y v:V}{u r:MX}{o:Option V}{A:M4}{E:MX->MZ->Prop}
theorem Inv.big (I:Inv X pins σ H s):sysModules<s.heap.objs.size:=by
 have h:M6<s.heap.objs.size:=(I.mod.glob.keeps I.bk).lt;exact Nat.lt_trans (by decide) h
theorem zH{Q:MX->MZ->Prop}(hu:A.units+1<cLine)(I:Inv X pins σ H s)(g:dg H a y (some v))(ry:RelV y u)(h:∀w' s',Inv X pins σ H s'->RelV v w'->Q w' s'):
  Nf (model X.prog X.w) A (getItem (.ref a) u) Q E s:=by
 rcases g with⟨kvs,k,e,ey,l⟩|⟨kvs,k,b,e,ey,eb,l⟩
 .subst ey
  obtain⟨z,hd,vs,rel,dd⟩:=mW I.aX e;obtain⟨w',hw,rw'⟩:=gZ.some_of (v:=v) (o:=valueAt vs k) (by rw[l];exact rel.val k);exact wpAny_getItem_of (iC ry) dd.mapOf hw (h w' _ (I.tok _) rw')
 .subst ey
  cases(show u=MX.ref b from ry);obtain⟨z,hd,xs,rel,dd⟩:=oV I.aX e;obtain⟨w',hw,rw'⟩:=gZ.some_of (v:=v) (o:=(atKey xs k).map (·.2)) (by rw[l];exact rel.val k);obtain⟨p,hp,hp2⟩:=Option.map_eq_some_iff.mp hw;refine wpAny_getItem_heap (tupleKind_room_in1 hu) (lU I.aX eb) dd hp ?_;rw[hp2];exact h w' _ (I.tok _) rw'
theorem KU{Q:MX->MZ->Prop}(hu:A.units+1<cLine)(I:Inv X pins σ H s)(g:dg H a y o)(ry:RelV y u)(h:∀s',Inv X pins σ H s'->Q (.bool o.isSome) s'):
  Nf (model X.prog X.w) A (compareOp .In u (.ref a)) Q E s:=by
 rcases g with⟨kvs,k,e,ey,l⟩|⟨kvs,k,b,e,ey,eb,l⟩
 .subst ey
  obtain⟨z,hd,vs,rel,dd⟩:=mW I.aX e;refine wpAny_in_of (iC ry) hd dd.mapOf ?_;rw[←(rel.val k).dH,←l];exact h _ (I.tok _)
 .subst ey
  cases(show u=MX.ref b from ry);obtain⟨z,hd,xs,rel,dd⟩:=oV I.aX e;refine wpAny_in_heap (tupleKind_room_in1 hu) (lU I.aX eb) hd dd ?_;have q:=(rel.val k).dH;rw[Option.isSome_map]at q;rw[←q,←l];exact h _ (I.tok _)
theorem Eo{Q:MX->MZ->Prop}(hu:A.units+1<cLine)(I:Inv X pins σ H s)(g:dg H a y o)(ry:RelV y u)(h:∀s',Inv X pins σ H s'->Q (.bool (!o.isSome)) s'):
  Nf (model X.prog X.w) A (compareOp .NotIn u (.ref a)) Q E s:=by
 rcases g with⟨kvs,k,e,ey,l⟩|⟨kvs,k,b,e,ey,eb,l⟩
 .subst ey
  obtain⟨z,hd,vs,rel,dd⟩:=mW I.aX e;refine wpAny_notIn_of (iC ry) hd dd.mapOf ?_;rw[←(rel.val k).dH,←l];exact h _ (I.tok _)
 .subst ey
  cases(show u=MX.ref b from ry);obtain⟨z,hd,xs,rel,dd⟩:=oV I.aX e;refine wpAny_notIn_heap (tupleKind_room_in1 hu) (lU I.aX eb) hd dd ?_;have q:=(rel.val k).dH;rw[Option.isSome_map]at q;rw[←q,←l];exact h _ (I.tok _)
theorem n4{h':Nc}{t':Nat}{ob:HO}(I:Inv X pins σ H s)(mu:Jh (H a))(hs:Nc.SameBut a s.heap h')(he:∃q,h'.get? a=some q)(new:bF X.prog X.w (upd H a ob) h' a ob):
  Inv X pins σ (upd H a ob) {s with heap:=h',toks:=t'}:=
 I.write (x:=a) (e:=a) mu (.inl rfl) (fun b q hb z=>(hs.2 b hb).trans z) he new
theorem vY{P:M0}{w:M3}{H':Hp}{h':Nc}{kvs:List (Key×V)}{vs:List (Key×MX)}(z:kvs.length<=M5)(hd:(a==sysModules)=false)(rel:KV kvs vs)(dd:h'.DictOf (aW P w) a vs):
  bF P w H' h' a (.dK kvs):=⟨z,hd,vs,rel,dd⟩
theorem zF{H':Hp}{Q:Unit->MZ->Prop}(hu:A.units+1<cLine)(I:Inv X pins σ H s)(g:rM H a y v H')(ry:RelV y u)(rv:RelV v r)(h:∀s',Inv X pins σ H' s'->Q () s'):
  Nf (model X.prog X.w) A (setItem (.ref a) u r) Q E s:=by
 rcases g with⟨kvs,k,e,ey,l,eH⟩|⟨kvs,k,b,e,ey,eb,l,eH⟩
 .subst ey eH
  obtain⟨z,hd,vs,rel,dd⟩:=xW I.aX e;have hz:vs.length<=M5:=by rw[←rel.length];exact z
  have hl:(putK kvs k v).length<=M5:=by have:=fX kvs k v;lia
  refine wpAny_setItem_pairs (hsz:=hz) (iC ry) dd fun h' dd' hs=>h _ ?_;have he:∃q,h'.get? a=some q:=let⟨q,_,_,hq,_⟩:=dd';⟨q,hq⟩
  exact n4 I (by rw[e];exact True.intro) hs he (vY hl hd (rel.put k rv) dd')
 .subst ey eH
  cases(show u=MX.ref b from ry);obtain⟨z,hd,xs,rel,dd⟩:=J0 I.aX e;have hz:xs.length<=M5:=by rw[←Paired.length rel];exact z
  have hl:(putK kvs k v).length<=M5:=by have:=fX kvs k v;lia
  refine wpAny_setItem_heap (hsz:=hz) (tupleKind_room_in1 hu) (lU I.aX eb) dd fun h' dd' hs=>h _ ?_;obtain⟨q,es,ep,hq,h2,h3,h4,_,h5⟩:=dd';refine n4 I (by rw[e];exact True.intro) hs ⟨q,hq⟩ ⟨hl,hd,_,(rel.put k eb rv).keeps fun c ys ec=>?_,q,es,ep,hq,h2,h3,h4,h5⟩;rw[aq (Ce ec e (fun z=>nomatch z))];exact ec
end
section
variable{X:Cx}{pins:List (MY×Obj)}{σ:St}{H:Hp}{s:MZ}{a:MY}{kvs:List (Key×V)}{k:Key}{u:MX}{A:M4}{E:MX->MZ->Prop}
theorem zu{Q:Unit->MZ->Prop}(I:Inv X pins σ H s)(e:H a=some (.dK kvs))(ry:RelV (kV k) u)(l:(cj kvs k).isSome=true)(h:∀s',Inv X pins σ (upd H a (.dK (kG kvs k))) s'->Q () s'):
  Nf (model X.prog X.w) A (delItem (.ref a) u) Q E s:=by
 obtain⟨z,hd,vs,rel,dd⟩:=xW I.aX e;refine wpAny_delItem_slot dd.typeIs (by decide) PySem.F.slot_dict_delitem
  (call_meetsIn PySem.F.slot_dict_delitem dd.typeIs PySem.F.entry_dict_delitem (PySem.F.args_dict_delitem_2 _ _) (meets_dict_delitem_pairs (aW X.prog X.w) a (iC ry)) ⟨vs,dd,by rw[←rel.length];exact z,by rw[←(rel.val k).dH];exact l,fun h' dd' hs=>h _ ?_⟩)
 have he:∃q,h'.get? a=some q:=let⟨q,_,_,hq,_⟩:=dd';⟨q,hq⟩
 exact n4 I (by rw[e];exact True.intro) hs he (vY (MS (Cr kvs k) z) hd (rel.drop k) dd')
theorem IT{Q:MX->MZ->Prop}(I:Inv X pins σ H s)(e:Rd H a (.dK kvs))(h:∀t s',Inv X pins σ H s'->Q (.int kvs.length t) s'):Nf (model X.prog X.w) A (call (.builtin "len") [.ref a]) Q E s:=by
 obtain⟨z,hd,vs,rel,dd⟩:=mW I.aX e;refine call_len_dict hd dd (by rw[←rel.length];rw[sizeLine_eq]at z;lia) ?_;rw[←rel.length];exact h _ _ (I.tok _)
end
def GR(i:Expr):Prop:=∀ov iv,subscripted i false ov iv=operate [ov,iv] (getItem ov iv)
theorem yA{prog:M0}{w:M3}{A:M4}{E:MX->MZ->Prop}{s:MZ}{env:Env}{value slice:Expr}{pos:Pos}{T id:String}{Q:MX->MZ->Prop}
  (hl:typeLookup (.type T) "__getitem__" =pure (some (.builtin id))) (hs:GR slice)
  (h:Nf (model prog w) A (eval value env) (fun o s₁=>Nf (model prog w) A (eval slice env) (fun i s₂=>s₂.TypeIs o T/\Nf (model prog w) A (getItem o i) Q E s₂) E s₁) E s):
  Nf (model prog w) A (eval (.Subscript value slice pos) env) Q E s:=by
 refine Subscript_ (M9 h (fun o s₁ h₁=>M9 h₁ (fun i s₂ h₂=>?_) fun _ _ x=>x) fun _ _ x=>x);obtain⟨hT,h₂⟩:=h₂;unfold subscriptTail;refine M7 ?_;rw[getitemInPython_of_ne hT.not_modules];refine M7 (wpAny_specialOf hT hl ?_);have fin:Nf (model prog w) A (subscripted slice false o i) (fun r s₃=>Nf (model prog w) A (letTemporaryGo value o r>>=fun _=>pure r) Q E s₃) E s₂:=by
  rw[hs o i];exact wpAny_operating (M9 h₂ (fun r s₃ h₃=>M7 (wpAny_letTemporaryGo (M8 h₃))) fun _ _ x=>x)
 first
  |exact M8 (M7 fin)
  |exact M7 (M8 (M7 fin))
  |exact M7 fin
theorem uO{X:Cx}{pins:List (MY×Obj)}{σ:St}{H:Hp}{s:MZ}{a:MY}{y:V}{o:Option V}(I:Inv X pins σ H s)(g:dg H a y o):s.TypeIs (.ref a) "dict" :=by
 rcases g with⟨kvs,k,e,_,_⟩|⟨kvs,k,b,e,_,_,_⟩
 .obtain⟨_,_,vs,_,dd⟩:=mW I.aX e
  exact dd.typeIs
 .obtain⟨_,_,xs,_,dd⟩:=oV I.aX e
  exact dd.typeIs
def FZ(td ty:TE):TE:=fun σ H Q=>td σ H fun x H1=>ty σ H1 fun y H2=>∃a v,x= .ref a/\dg H2 a y (some v)/\Q v H2
def Ld(ty td:TE):TE:=fun σ H Q=>ty σ H fun y H1=>td σ H1 fun x H2=>∃a o,x= .ref a/\dg H2 a y o/\Q (.bl o.isSome) H2
def Dv(ty td:TE):TE:=fun σ H Q=>ty σ H fun y H1=>td σ H1 fun x H2=>∃a o,x= .ref a/\dg H2 a y o/\Q (.bl (!o.isSome)) H2
def F7(td ty tv:TE):TS:=fun D σ H=>tv σ H fun v H1=>td σ H1 fun x H2=>ty σ H2 fun y H3=>∃a H4,x= .ref a/\rM H3 a y v H4/\D.nx σ H4
def J9(td ty:TE):TS:=fun D σ H=>td σ H fun x H1=>ty σ H1 fun y H2=>∃a kvs k,x= .ref a/\H2 a=some (.dK kvs)/\y=kV k/\(cj kvs k).isSome=true/\D.nx σ (upd H2 a (.dK (kG kvs k)))
section
variable{X:Cx}{o i e value:Expr}{pos pos' tpos:Pos}{td ty tv:TE}
theorem jt(hu:X.A.units+1<cLine)(ho:PE X o td)(hi:PE X i ty)(hs:GR i):PE X (.Subscript o i pos) (FZ td ty):=by
 intro pins s σ H Q I h;refine yA PySem.F.slot_dict_getitem.lookup hs (aY (ho pins s σ H _ I h) fun u s1 ⟨x,H1,I1,rx,q1⟩=>aY (hi pins s1 σ H1 _ I1 q1) fun iv s2 ⟨y,H2,I2,ry,a,v,ex,g,q2⟩=>?_);subst ex;obtain rfl:u=MX.ref a:=rx;exact⟨uO I2 g,zH hu I2 g ry fun w' s3 I3 rw'=>⟨v,H2,I3,rw',q2⟩⟩
theorem o9(hu:X.A.units+1<cLine)(hi:PE X i ty)(ho:PE X o td):PC X .In i o (Ld ty td):=by
 intro pins s σ H Q I h;refine aY (hi pins s σ H _ I h) fun iv s1 ⟨y,H1,I1,ry,q1⟩=>aY (ho pins s1 σ H1 _ I1 q1) fun u s2 ⟨x,H2,I2,rx,a,ov,ex,g,q2⟩=>?_;subst ex;obtain rfl:u=MX.ref a:=rx;exact KU hu I2 g ry fun s3 I3=>⟨.bl ov.isSome,H2,I3,rfl,q2⟩
theorem my(hu:X.A.units+1<cLine)(hi:PE X i ty)(ho:PE X o td):PC X .NotIn i o (Dv ty td):=by
 intro pins s σ H Q I h;refine aY (hi pins s σ H _ I h) fun iv s1 ⟨y,H1,I1,ry,q1⟩=>aY (ho pins s1 σ H1 _ I1 q1) fun u s2 ⟨x,H2,I2,rx,a,ov,ex,g,q2⟩=>?_;subst ex;obtain rfl:u=MX.ref a:=rx;exact Eo hu I2 g ry fun s3 I3=>⟨.bl (!ov.isSome),H2,I3,rfl,q2⟩
theorem lq(hu:X.A.units+1<cLine)(ho:PE X o td)(hi:PE X i ty)(hv:PE X value tv)(hs:swapsWith value (some (.Subscript o i pos')) pos.line X.env=pure false):
  PS X (.Assign [.Subscript o i pos'] value pos) (F7 td ty tv):=by
 intro pins s σ H D I h;refine wpAny_Assign_Subscript (aY (hv pins s σ H _ I h) fun r s1 ⟨v,H1,I1,rv,q1⟩=>aY (ho pins s1 σ H1 _ I1 q1) fun u s2 ⟨x,H2,I2,rx,q2⟩=>aY (hi pins s2 σ H2 _ I2 q2) fun iv s3 ⟨y,H3,I3,ry,a,H4,ex,g,q3⟩=>?_) hs;subst ex;obtain rfl:u=MX.ref a:=rx;exact zF hu I3 g ry rv fun s4 I4=>⟨σ,H4,I4,q3⟩
theorem Dk(ho:PE X o td)(hi:PE X i ty):PS X (.Delete [.Subscript o i tpos] pos) (J9 td ty):=by
 intro pins s σ H D I h;refine wpAny_Delete (wpAny_deleteEach_cons (wpAny_delete_Subscript (aY (ho pins s σ H _ I h) fun u s1 ⟨x,H1,I1,rx,q1⟩=>aY (hi pins s1 σ H1 _ I1 q1) fun iv s2 ⟨y,H2,I2,ry,a,kvs,k,ex,e,ey,l,q2⟩=>?_)));subst ex ey;obtain rfl:u=MX.ref a:=rx;exact zu I2 e ry l fun s3 I3=>wpAny_deleteEach_nil ⟨σ,_,I3,q2⟩
end
theorem uD{P:M0}{w:M3}{H:Hp}(h:Nc)(hb:sysModules<h.objs.size):bF P w H (h.push {cls:= .type "dict",data:= .dict #[]}) h.objs.size (.dK []):=
 ⟨MT _,beq_eq_false_iff_ne.mpr (Ne.symm (MR hb)),[],.nil,Nc.DictOf.new h⟩
def Ht:TE:=fun _ H Q=>∀p,H p=none->Q (.ref p) (upd H p (.dK []))
section
variable{X:Cx}{pos:Pos}
theorem uS:PE X (.Dict [] [] pos) Ht:=fun pins s σ H Q I h=>
 wpAny_Dict_empty ⟨.ref s.heap.objs.size,_,I.laid (a:=s.heap.objs.size) (o:= .dK []) (t':=s.toks) (fun _ _ q=>Nc.get?_push_of_some _ q) (MP _) (uD s.heap I.big),rfl,h _ (I.aX.fresh (MP _))⟩
end
def vS:List (TE×TE)->St->Hp->(List (V×V)->Hp->Prop)->Prop
 |[],_,H,Q=>Q [] H
 |(tk,tv)::r,σ,H,Q=>tk σ H fun x H1=>tv σ H1 fun y H2=>vS r σ H2 fun ps H3=>Q ((x,y)::ps) H3
abbrev VV:List (V×V)->List (MX×MX)->Prop:=Paired fun p q=>RelV p.1 q.1/\RelV p.2 q.2
def Kx(X:Cx)(pos:Pos)(keys:List (Option Expr))(values:List Expr)(trs:List (TE×TE)):Prop:=
 ∀(pins:List (MY×Obj))(s:MZ)(σ:St)(H:Hp)(Q:List (V×V)->Hp->Prop),Inv X pins σ H s->vS trs σ H Q->
  Nf (model X.prog X.w) X.A (evalPairs (pairTrees keys values X.env pos)) (fun vs s'=>∃ps H',Inv X pins σ H' s'/\VV ps vs/\Q ps H') X.xe s
theorem gj{X:Cx}{pos:Pos}:Kx X pos [] [] []:=fun pins s σ H Q I h=>pairTrees_nil_walk ⟨[],H,I,.nil,h⟩
theorem bW{X:Cx}{pos:Pos}{k v:Expr}{ks:List (Option Expr)}{vs:List Expr}{tk tv:TE}{trs:List (TE×TE)}(hk:PE X k tk)(hv:PE X v tv)(hr:Kx X pos ks vs trs):
  Kx X pos (some k::ks) (v::vs) ((tk,tv)::trs):=fun pins s σ H Q I h=>
 pairTrees_cons_walk (aY (hk pins s σ H _ I h) fun u s1 ⟨x,H1,I1,rx,q1⟩=>aY (hv pins s1 σ H1 _ I1 q1) fun w2 s2 ⟨y,H2,I2,ry,q2⟩=>
  aY (hr pins s2 σ H2 _ I2 q2) fun ws s3 ⟨ps,H3,I3,rel,q3⟩=>⟨(x,y)::ps,H3,I3,.cons ⟨rx,ry⟩ rel,q3⟩)
def cb(kvs more:List (Key×V)):List (Key×V):=more.foldl (fun acc kv=>putK acc kv.1 kv.2) kvs
theorem KV.merge:∀{more:List (Key×V)}{rs:List (Key×MX)}{kvs:List (Key×V)}{vs:List (Key×MX)},KV more rs->KV kvs vs->KV (cb kvs more) (merged vs rs):=by
 intro more rs kvs vs r;unfold KV at r
 induction r generalizing kvs vs with
 |nil=>intro q;exact q
 | @cons p q ps qs h t ih=>
  intro r0;have e:KV (putK kvs p.1 p.2) (stored vs q.1 q.2):=by
   have:=r0.put p.1 h.2;rw[←h.1];exact this
  exact ih e
theorem jL:∀(more kvs:List (Key×V)),(cb kvs more).length<=kvs.length+more.length
 |[],kvs=>by show kvs.length<=kvs.length+0;lia
 |p::r,kvs=>by
  have h1:=jL r (putK kvs p.1 p.2);have h2:=fX kvs p.1 p.2;show(cb (putK kvs p.1 p.2) r).length<=_;rw[Mz];lia
theorem oi{P:M0}{w:M3}:∀{kvs:List (Key×V)}{ws:List (MX×MX)},VV (kvs.map fun kv=>(kV kv.1,kv.2)) ws->∃rs,Carries (aW P w) ws rs/\KV kvs rs
 |[],_,r=>by rw[List.map_nil]at r;cases r;exact⟨[],True.intro,.nil⟩
 |p::kvs,_,r=>by
  rw[MA]at r
  cases r with
  | @cons a b as bs h t=>
   obtain⟨rs,c,q⟩:=oi (P:=P) (w:=w) t;obtain⟨b1,b2⟩:=b;exact⟨(p.1,b2)::rs,⟨iC h.1,rfl,c⟩,.cons ⟨rfl,h.2⟩ q⟩
def JV(trs:List (TE×TE)):TE:=fun σ H Q=>∀p,H p=none->vS trs σ (upd H p (.dK [])) fun ps H2=>H2 p=some (.dK [])/\∃kvs:List (Key×V),ps=kvs.map (fun kv=>(kV kv.1,kv.2))/\kvs.length<=15/\Q (.ref p) (upd H2 p (.dK (cb [] kvs)))
theorem fY{X:Cx}{pos:Pos}{keys:List (Option Expr)}{values:List Expr}{trs:List (TE×TE)}(h:Kx X pos keys values trs)(hall:keys.all (·.isSome)=true)(hl:keys.length=values.length)(h0:keys≠[])
  (h15:keys.length<=15):PE X (.Dict keys values pos) (JV trs):=by
 intro pins s σ H Q I q;have hn:=I.aX.fresh (MP s.heap.objs.size);have I1:=I.laid (a:=s.heap.objs.size) (o:= .dK []) (h':=s.heap.push {cls:= .type "dict",data:= .dict #[]}) (t':=s.toks) (fun _ _ q=>Nc.get?_push_of_some _ q) (MP _) (uD s.heap I.big);refine wpAny_Dict_walk (knd:=aW X.prog X.w) hall hl h0 h15 (aY (h pins _ σ _ _ I1 (q _ hn)) fun ws s2 ⟨ps,H2,I2,rel,e,kvs,ep,lk,q2⟩=>?_);subst ep;obtain⟨rs,c,rk⟩:=oi (P:=X.prog) (w:=X.w) rel;obtain⟨z,hd,vs0,r0,dd⟩:=xW I2.aX e;cases r0;refine⟨rs,c,dd,fun h' dd' hs=>⟨.ref s.heap.objs.size,_,?_,rfl,q2⟩⟩;have hz:(cb [] kvs).length<=M5:=by
  have h1:=jL kvs [];rw[List.length_nil]at h1;rw[sizeLine_eq];lia
 have he:∃q,h'.get? s.heap.objs.size=some q:=let⟨q,_,_,hq,_⟩:=dd';⟨q,hq⟩
 exact n4 I2 (by rw[e];exact True.intro) hs he (vY hz hd (rk.merge .nil) dd')
structure M2(X:Cx)(o:Expr)(m:Str)(apos:Pos)(e f:Expr)(cpos:Pos):Prop where
 base:attributeBase o m X.env (eval o X.env)=eval o X.env
 wb:((Nd cpos (Na [e,f] X.env)).all (fun x=> !x.1)&&(backToKw cpos (keywordEach [] X.env)).all (fun x=>x.1.isSome)
  &&decide (([e,f]:List Expr).length+([]:List Keyword).length+(if([]:List Keyword).isEmpty then 0 else 1)<30))=true
 line:(apos.endLine==cpos.line)=true
 trees:Nd cpos (Na [e,f] X.env)=[(false,eval e X.env),(false,eval f X.env)]
def LI(H:Hp)(a:MY):Prop:=(∃kvs,Rd H a (.dK kvs))\/∃kvs,Rd H a (.dT kvs)
theorem GG{X:Cx}{pins:List (MY×Obj)}{σ:St}{H:Hp}{s:MZ}{a:MY}(I:Inv X pins σ H s)(d:LI H a):
  s.TypeIs (.ref a) "dict"/\(∀b,MX.ref a= .ref b->∃ob,s.heap.get? b=some ob/\ob.dict=none)/\(a==sysModules)=false:=by
 rcases d with⟨kvs,e⟩|⟨kvs,e⟩
 .obtain⟨_,hd,vs,_,dd⟩:=mW I.aX e
  refine⟨dd.typeIs,fun b q=>?_,hd⟩;cases q;obtain⟨ob,_,_,h1,h2,_⟩:=dd;exact⟨ob,h1,h2.2.1⟩
 .obtain⟨_,hd,xs,_,dd⟩:=oV I.aX e
  refine⟨dd.typeIs,fun b q=>?_,hd⟩;cases q;obtain⟨ob,_,_,h1,h2,_⟩:=dd;exact⟨ob,h1,h2.2.1⟩
section
variable{X:Cx}{pins:List (MY×Obj)}{σ:St}{H:Hp}{s:MZ}{a:MY}{y d:V}{u r:MX}{o:Option V}{A:M4}{E:MX->MZ->Prop}
theorem HV{Q:MX->MZ->Prop}(hu:A.units+1<cLine)(I:Inv X pins σ H s)(g:dg H a y o)(ry:RelV y u)(rd:RelV d r)(h:∀w' s',Inv X pins σ H s'->RelV (o.getD d) w'->Q w' s'):
  Nf (model X.prog X.w) A (call (.builtin "dict.get") [.ref a,u,r]) Q E s:=by
 rcases g with⟨kvs,k,e,ey,l⟩|⟨kvs,k,b,e,ey,eb,l⟩
 .subst ey
  obtain⟨z,hd,vs,rel,dd⟩:=mW I.aX e;refine call_meetsIn PySem.F.slot_dict_get dd.typeIs PySem.F.entry_dict_get (PySem.F.args_dict_get_3 _ _ _) (meets_dict_get_default (aW X.prog X.w) a (iC ry) hd r) ⟨_,dd.mapOf,h _ _ (I.tok _) ?_⟩;rw[l];exact(rel.val k).getD rd
 .subst ey
  cases(show u=MX.ref b from ry);obtain⟨z,hd,xs,rel,dd⟩:=oV I.aX e;refine call_meetsIn PySem.F.slot_dict_get dd.typeIs PySem.F.entry_dict_get (PySem.F.args_dict_get_3 _ _ _) (meetsH_dict_get_default (tupleKind (aW X.prog X.w)) a b hd r) ⟨tupleKind_room_in1 hu,k,xs,lU I.aX eb,dd,h _ _ (I.tok _) ?_⟩;rw[l];exact(rel.val k).getD rd
end
def Gx(td ty tx:TE):TE:=fun σ H Q=>td σ H fun x H1=>∃a,x= .ref a/\LI H1 a/\ty σ H1 fun y H2=>tx σ H2 fun z H3=>∃o,dg H3 a y o/\Q (o.getD z) H3
section
variable{X:Cx}{o e f:Expr}{apos cpos:Pos}{td ty tx:TE}
theorem gJ(hu:X.A.units+1<cLine)(ho:PE X o td)(he:PE X e ty)(hf:PE X f tx)(m:M2 X o "get" apos e f cpos):PE X (.Call (.Attribute o "get" apos) [e,f] [] cpos) (Gx td ty tx):=by
 intro pins s σ H Q I h;refine wpAny_Call_method m.base m.wb m.line PySem.F.plainAttrs_dict PySem.F.slot_dict_get PySem.F.type_dict_get (aY (ho pins s σ H _ I h) fun u s1 ⟨x,H1,I1,rx,a,ex,d,q1⟩=>?_);subst ex;obtain rfl:u=MX.ref a:=rx;obtain⟨t1,t2,_⟩:=GG I1 d;refine⟨t1,t2,?_⟩;rw[m.trees];refine Calls.callWith_builtin rfl (Calls.evalArgs_plain (Calls.spliced_cons (aY (he pins s1 σ H1 _ I1 q1) fun iv s2 ⟨y,H2,I2,ry,q2⟩=>
  Calls.spliced_cons (aY (hf pins s2 σ H2 _ I2 q2) fun fv s3 ⟨z,H3,I3,rz,ov,g,q3⟩=>Calls.spliced_nil ?_))))
 exact HV hu I3 g ry rz fun w' s4 I4 rw'=>⟨_,H3,I4,rw',q3⟩
end
end L2
namespace Att
open PySem PySem.W PySem.Calls PyProof.Rows
theorem nr{P:Params}{h:Nc}:∀(ns:List Int)(vs:List MX),WellAll P h vs (ns.map WData.int)->IntsAre vs ns:=by
 intro ns
 induction ns with
 |nil=>
  intro vs w;rw[List.map_nil]at w;cases w;exact .nil
 |cons n ns ih=>
  intro vs w;rw[MA]at w
  cases w with
  |cons a b=>
   cases a;exact .cons _ _ (ih _ b)
theorem zf{l:OpenLaw}{n:Nat}(hn:l.most=some n){P:Params}{h:Nc}{args:List WData}{vals:List MX}
  (hpre:l.row.toRowW.claim.pre args=true) (hwl:WellAll P h vals args):
  ∃a vs ns,vals=[MX.ref a]/\args=[WData.list (ns.map WData.int)]/\h.get? a=some {cls:= .type "list",data:= .seq vs.toArray}/\IntsAre vs ns/\ns.length<=n:=by
 have hsh:WShape.hasAll [] args [.list .int]=true:=(pre_splitW hpre).1;have hc:l.pre.holds [] {args:=args}=true:=(pre_splitW hpre).2;obtain⟨d,r,rfl,h1,h2⟩:=hasAllW_cons hsh;obtain rfl:=hasAllW_nil h2;obtain⟨xs,rfl,h3⟩:=hasW_list h1;obtain⟨ns,rfl⟩:=items_int h3;have hlen:ns.length<=n:=by
  unfold OpenLaw.pre at hc;have h4:(WTm.not (.lt (.lit (.int (n:Int))) (.len (.arg 0)))).holds [] {args:=[.list (ns.map .int)]}=true:=by
   have h4:=(holds_andW hc).1;rw[hn]at h4;exact h4
  have h5:=condW_of h4 (w_not (w_lt w_lit (w_len_list (w_arg rfl))));rw[Mu]at h5;refine Nat.le_of_not_lt fun q=>?_;have q':(n:Int)<((ns.length:Nat):Int):=by lia
  first
   |(rw[decide_eq_true q']at h5;exact absurd h5 (by decide))
   |(simp at h5;lia)
 cases hwl with
 |cons w1 w2=>
  cases w2
  cases w1 with
  |list ho hall=>exact⟨_,_,ns,rfl,rfl,ho,nr ns _ hall,hlen⟩
theorem zw(l:OpenLaw)(args:List WData):l.row.toRowW.claim.post args (.bool true) args=true:=
 postW_of (r:=l.row.toRowW) (X:=(true==true))
  (show WShape.has [] (.bool true) .bool=true by first|rfl|decide|simp[WShape.has,WShape.arms,WShape.armsAll])
  (show(WTm.eq .res (.lit (.bool true))).value [] {args:=args,res:=some (.bool true),after:=args}=some (.bool (true==true))from w_eq_bool (w_res rfl) w_lit) rfl
theorem uP{l:OpenLaw}{n:Nat}{q:M0}{loose:List Str}{XP:(Str->Option MX)->Nc->Prop}{YP:M3->Nc->Prop}{d:DefRec}
  (hn:l.most=some n) (hdf:d.params.defaults=[])
  (call:∀(w:M3)(s₀ s₁:MZ)(mg mb:Str->Option MX)(fa:MY)(o:Obj)(pm cd doc:MX)(a:MY)(vs:List MX)(ns:List Int),
   Ground q loose [] XP w s₀ mg mb s₁.heap->YP w s₁.heap->
   s₁.heap.get? fa=some o->o.data= .func (docDef d.name d.params d.body d.scope pm cd doc)->s₁.heap.CodeRec cd d.name->mg d.name=some (.ref fa)->
   s₁.heap.get? a=some {cls:= .type "list",data:= .seq vs.toArray}->IntsAre vs ns->ns.length<=n->s₁.gens= #[]->
   codeAny (model l.prog w) callerA (.call (.ref fa) ⟨[.ref a],[]⟩) (fun r s'=>r= .ok (.ret (.bool true))/\OldK s₁.heap s'.heap/\s'.os=s₁.os/\AllBare s'.gens) s₁):
  WalkO q loose XP YP l.row.toRowW d [] (fun f vs=>PySem.call f vs):=by
 intro w s₀ s₁ mg mb G Y fa o pm cd doc dV kV ho hd hcd hD hmg hg args vals as hpre hlay hrd hwl hlo;obtain rfl:dV= .none:=Dflts.none hD hdf;obtain rfl:kV= .none:=Dflts.noKw hD;obtain⟨a,vs,ns,rfl,rfl,hobj,hints,hlen⟩:=zf hn hpre hwl;refine enter_call (codeAny_mono (call w s₀ s₁ mg mb fa o pm cd doc a vs ns G Y ho (fd_plain hd) hcd hmg hobj hints hlen hg) fun r s' hq=>?_);obtain⟨rfl,h2,h3,h4⟩:=hq;exact⟨.inl ⟨.bool true,.bool true,[],rfl,fun _=>rfl,.bool true,zw l _,fun _=>⟨List.Pairwise.nil,fun _ hm=>(nomatch hm)⟩⟩,h2,h3,h4⟩
end Att
namespace L2
open PySem PySem.Spec PyProof.Rows
theorem qj:∀{vs:List MX}{ns:List Int},IntsAre vs ns->Vals (ns.map V.int) vs
 |_,_,.nil=> .nil
 |_,_,.cons n t h=> .cons ⟨t,rfl⟩ (qj h)
def GY(H:Hp):Prop:=∀b,H b=none\/∃o xs,H b=some (.tY o (.lst xs))
theorem AY{P:M0}{w:M3}{K:W.Frag}{mg mb:Str->Option MX}{CX:om}{k:Nat}{fa a:MY}{fd:Nb}{x:Str}{sp:Sp}{s₁:MZ}{vs:List MX}{ns:List Int}
  (KX:K.In s₁.heap) (hns:s₁.heap.Ns M6 mg) (hb:s₁.heap.Ns builtinsNs mb) (hbb:∀x:Str,x≠"__name__"->mb x=bootBuiltins x) (hlim:s₁.heap.NoLimit) (hg:s₁.gens= #[])
  (ha:s₁.heap.get? a=some {cls:= .type "list",data:= .seq vs.toArray}) (hi:IntsAre vs ns) (hl:ns.length<=M5) (hr:df k callerA)
  (F:∀base:Nc,K.In base->base.Ns M6 mg->aR P w K mg base CX k fa fd [x] sp) (hbind:∀(s:MZ)(u:MX),BindsTo s fd ⟨[u],[]⟩ [(x,u)])
  (hsp:∀H:Hp,GY H->aJ K H a (ns.map V.int)->sp [.ref a] H (fun v _=>v= .bl true) fun _ _ _=>False)
  (hCX:∀H e s',CX [] H s₁ (fun _ _ _=>False) e s'->False):
  codeAny (model P w) callerA (.call (.ref fa) ⟨[.ref a],[]⟩) (fun r s'=>r= .ok (.ret (.bool true))/\OldK s₁.heap s'.heap/\s'.os=s₁.os/\AllBare s'.gens) s₁:=by
 have rv:=qj hi;have lenV:=hi.length;have core:∀H:Hp,GY H->aJ K H a (ns.map V.int)->jF P w H s₁.heap->(∀b,H b≠none->b=a)->(H a≠none->K.lookup a=none)->
   codeAny (model P w) callerA (.call (.ref fa) ⟨[.ref a],[]⟩) (fun r s'=>r= .ok (.ret (.bool true))/\OldK s₁.heap s'.heap/\s'.os=s₁.os/\AllBare s'.gens) s₁:=by
  intro H hO hS aX hA hK;have base_of:∀{b:MY}{o:Obj},s₁.heap.get? b=some o->H b=none->(sZ s₁.heap H).get? b=some o:=fun e n=>A0 e n;have noA:∀{b:MY}{o:Obj}{es:Array DictEntry}{ep:Nat},s₁.heap.get? b=some o->o.data= .dict es ep->H b=none:=fun{b o es ep} e d=>by
   cases q:H b with
   |none=>rfl
   |some u=>
    have e':b=a:=hA b (by rw[q];simp);subst e';rw[ha]at e;cases e;have d':Data.seq vs.toArray _=Data.dict es ep:=d;cases d'
  have nsK:∀{b:MY}{m:Str->Option MX},s₁.heap.Ns b m->(sZ s₁.heap H).Ns b m:=fun{b m} ⟨o,es,ep,e,d,r⟩=>⟨o,es,ep,base_of e (noA e d),d,r⟩;have hKb:K.In (sZ s₁.heap H):=fun b o e=>base_of (KX b o e) (by
   cases q:H b with
   |none=>rfl
   |some u=>
    have e':b=a:=hA b (by rw[q];simp);subst e';rw[hK (by rw[q];simp)]at e;cases e)
  have hM:Mod K mg (sZ s₁.heap H):=⟨hKb,nsK hns,⟨mb,nsK hb,hbb⟩,let⟨mc,h1,h2⟩:=hlim;⟨mc,nsK h1,h2⟩⟩;have e0:uk P w K mg (sZ s₁.heap H) callerA [] s₁ H:=⟨rfl,hM,fun b o e=>Dw e,Nat.le_of_eq (y6 _ _),trivial,fun b hb=>absurd (show b∈([]:List MY)from hb) (by simp),aX,.of_eq hg⟩;refine codeAny_mono ((F _ hKb (nsK hns)).run callerA [] s₁ H ⟨[.ref a],[]⟩ [.ref a] [.ref a] _ _ hr e0 (hbind s₁ (.ref a)) (.cons rfl .nil) (hsp H hO hS)) fun r s' h=>?_
  cases r with
  |error e=>exact(hCX H e s' h).elim
  |ok fl=>
   cases fl with
   |next=>exact False.elim h
   |brk=>exact False.elim h
   |cont=>exact False.elim h
   |ret u=>
    obtain⟨v,H',os,bare,un,hok',r',q⟩:=h;have q':v= .bl true:=q;subst q';obtain rfl:u=MX.bool true:=r';refine⟨rfl,OldK.of_keep fun b o e=>?_,os,bare⟩
    cases q:H b with
    |none=>exact un.keep b o e q (by intro z;exact absurd (show b∈([]:List MY)from z) (by simp)) (by simp)
    |some u=>
     rcases hO b with z|⟨ob,xs,z⟩
     .rw[q]at z;cases z
     .have z2:=un.iy b ob _ z
      obtain⟨e1,_⟩:=aX b _ z;obtain⟨e2,_⟩:=hok' b _ z2;rw[e]at e1;cases e1;exact e2
 cases hk:K.lookup a with
 |some o=>
  have e:=KX a o hk;rw[ha]at e;cases e;refine core (fun _=>none) (fun _=> .inl rfl) (.inr ⟨_,vs.toArray,_,hk,rfl,rfl,rfl,by rw[ML,lenV];exact hl,by simpa using rv⟩) (fun b u z=>by have z':(none:Option HO)=some u:=z;cases z') (fun b z=>absurd rfl z) fun z=>absurd rfl z
 |none=>
  refine core (fun b=>if b=a then some (.tY {cls:= .type "list",data:= .seq vs.toArray} (.lst (ns.map V.int)))else none) (fun b=>?_) (.inl (.inr ⟨{cls:= .type "list",data:= .seq vs.toArray},if_pos rfl⟩)) (fun b u z=>?_) (fun b z=>?_) fun _=>hk
  .by_cases hb:b=a
   .exact .inr ⟨_,_,if_pos hb⟩
   .exact .inl (if_neg hb)
  .by_cases hb:b=a
   .have z':=(if_pos hb).symm.trans z
    cases z';subst hb;exact⟨ha,by rw[Mu];exact hl,vs,_,rv,ha⟩
   .have z':=(if_neg hb).symm.trans z
    cases z'
  .by_cases hb:b=a
   .exact hb
   .exact absurd (if_neg hb) z
theorem E9{l:W.OpenLaw}{n k:Nat}{q:M0}{loose:List Str}{XP:(Str->Option MX)->Nc->Prop}{YP:M3->Nc->Prop}{d:DefRec}{K:Params->W.Frag}{CX:M3->om}{sp:M3->Sp}{x:Str}
  (hn:l.most=some n) (hn2:n<=M5) (hdf:d.params.defaults=[]) (hr:df k callerA)
  (hY:∀(w:M3)(h:Nc),YP w h->(K w.params).In h)
  (F:∀(w:M3)(mg:Str->Option MX)(fa:MY)(h:Nc),(K w.params).In h->h.Ns M6 mg->mg d.name=some (.ref fa)->
   ∃fd:Nb,(∀(s:MZ)(u:MX),BindsTo s fd ⟨[u],[]⟩ [(x,u)])/\
    ∀base:Nc,(K w.params).In base->base.Ns M6 mg->aR l.prog w (K w.params) mg base (CX w) k fa fd [x] (sp w))
  (hsp:∀(w:M3)(H:Hp)(a:MY)(ns:List Int),ns.length<=n->GY H->aJ (K w.params) H a (ns.map V.int)->sp w [.ref a] H (fun v _=>v= .bl true) fun _ _ _=>False)
  (hCX:∀(w:M3)(H:Hp)(s:MZ)(e:MX)(s':MZ),CX w [] H s (fun _ _ _=>False) e s'->False):
  W.WalkO q loose XP YP l.row.toRowW d [] (fun f vs=>PySem.call f vs):=by
 refine Att.uP hn hdf fun w s₀ s₁ mg mb fa o pm cd doc a vs ns G Y ho hd hcd hmg hobj hints hlen hg=>?_;have KX:=hY w _ Y;obtain⟨fd,hb,hF⟩:=F w mg fa _ KX G.T.g hmg;exact AY KX G.T.g G.T.b G.T.builtins G.T.nolimit hg hobj hints (MS hlen hn2) hr hF hb (fun H hO hS=>hsp w H a ns hlen hO hS) fun H e s'=>hCX w H s₁ e s'
def eO(s:Ng):Arguments:=match s with
 | .FunctionDef _ a _ _ _ _ _ _ _ _=>a
 |_=>{posonlyargs:=[],args:=[],vararg:=none,kwonlyargs:=[],kw_defaults:=[],kwarg:=none,defaults:=[]}
def dB(s:Ng):List Ng:=match s with
 | .FunctionDef _ _ b _ _ _ _ _ _ _=>b
 |_=>[]
def ar(s:Ng):Scope:=match s with
 | .FunctionDef _ _ _ _ _ _ sc _ _ _=>sc
 |_=>{kind:= .function,names:=[],isGenerator:=false,isCoroutine:=false}
abbrev gh:om:=fun _ _ _ _ _ _=>False
abbrev E0:XK:=fun _ _ _=>False
theorem FQ{X:Cx}:Passes gh X E0:=fun _ _ _ _ _ _ _ h=>h.elim
structure dO(K:W.Frag)(x qual:Str)(st:Ng)(f:MY)(fd:Nb):Prop where
 ex:∃(oc:MX)(od:Option MY)(kV doc pm:MX)(an:Option MY)(cdv ct:MX)(osl:Array (Option MX)),
  fd=W.fnOf x qual (eO st) (dB st) (ar st) .none kV doc pm an cdv ct/\K.lookup f=some ⟨oc,od,.func fd,osl⟩/\W.codeIn K cdv qual=true
 kp:W.keepIn K (.ref f)=true
section
variable{P:M0}{w:M3}{K:W.Frag}{mg:Str->Option MX}{base:Nc}
theorem dO.ok {x qual:Str}{st:Ng}{f:MY}{fd:Nb}{N ps:List Str}{k:Nat}{sp:Sp}(F:dO K x qual st f fd)(S:aA N ps (ar st))(len:∀vs H Q E,sp vs H Q E->vs.length=ps.length)
  (hbody:∀(cdv:MX)(A:M4)(outer:List Env)(s:MZ)(H:Hp)(vs:List V)(Q:VK)(E:XK),df k (A.deeper (envOfC qual (ar st) s.heap.objs.size f cdv))->sp vs H Q E->
   ∃t,qg (pV gh P w K mg base N qual (ar st) f cdv A outer s H E).Ks (dB st) t/\t {nx:=fun _ H'=>Q .de H',rt:=Q} (start N vs) H):aR P w K mg base gh (k+1) f fd ps sp:=by
 obtain⟨oc,od,kV,doc,pm,an,cdv,ct,osl,rfl,lk,hcd⟩:=F.ex;refine FF lk hcd S len fun A outer s H vs Q E hr hsp=>?_;obtain⟨t,h,q⟩:=hbody cdv A outer s H vs Q E hr hsp;exact⟨t,h.Ks,q⟩
theorem dO.binds {x qual:Str}{st:Ng}{f:MY}{fd:Nb}{ps:List Str}(F:dO K x qual st f fd)
  (h:∀(kV doc pm:MX)(an:Option MY)(cdv ct:MX)(us:List MX),us.length=ps.length->bindArgs (W.fnOf x qual (eO st) (dB st) (ar st) .none kV doc pm an cdv ct) ⟨us,[]⟩=pure (ps.zip us)):Binds K fd ps []:=by
 obtain⟨oc,od,kV,doc,pm,an,cdv,ct,osl,rfl,lk,hcd⟩:=F.ex;exact .all (h kV doc pm an cdv ct)
theorem GS{x qual:Str}{st:Ng}{f:MY}{oc:MX}{od an:Option MY}{osl:Array (Option MX)}{kV doc pm cdv ct:MX}(l:K.lookup f=some ⟨oc,od,.func (W.fnOf x qual (eO st) (dB st) (ar st) .none kV doc pm an cdv ct),osl⟩)
  (c:W.codeIn K cdv qual=true) (k:W.keepIn K (.ref f)=true):dO K x qual st f (W.fnOf x qual (eO st) (dB st) (ar st) .none kV doc pm an cdv ct):=⟨⟨oc,od,kV,doc,pm,an,cdv,ct,osl,rfl,l,c⟩,k⟩
end
theorem kJ{A:M4}{k:Nat}(hr:df k A):A.units+1<cLine:=Nat.lt_of_le_of_lt (Nat.add_le_add_left (by decide:1<=64) _) hr.units
section
variable{X:Cx}
theorem pv(i:Nat){x:Str}{pos:Pos}(hN:X.N[i]?=some x:=by rfl)(hv:Kt X.env.scope x:=by first|exact Or.inl rfl|exact Or.inr (Or.inl rfl)|exact Or.inr (Or.inr rfl))(hd:(x==("__debug__" :Str))=false:=by decide)
  (hcd:(x==("__classdict__" :Str))=false:=by decide):PE X (.Name x pos) (gY i):=AH hN hv hd hcd
end
theorem xb{A B:Prop}(h:B):if false=true then A else B:=by
 rw[if_neg MU];exact h
theorem uv{A B:Prop}(h:A):if true=true then A else B:=by
 rw[if_pos rfl];exact h
theorem cN{c A B:Prop}[Decidable c](h1:c->A)(h2:¬c->B):if c then A else B:=by
 by_cases h:c
 .rw[if_pos h]
  exact h1 h
 .rw[if_neg h]
  exact h2 h
def ah(H H':Hp):Prop:=∀b o,H b=some o->H' b=some o
theorem ah.refl (H:Hp):ah H H:=fun _ _ h=>h
theorem ah.trans {H H1 H2:Hp}(a:ah H H1)(b:ah H1 H2):ah H H2:=fun c o h=>b c o (a c o h)
theorem ah.free {H H':Hp}(e:ah H H'){l:MY}(h:H' l=Option.none):H l=Option.none:=by
 cases q:H l with
 |none=>rfl
 |some o=>
  rw[e l o q]at h;cases h
def eh(cells:List (Str×MY)):List (Str×Nh)->List (Str×MY)->List (Str×MY)
 |[],acc=>acc
 |(n,k)::r,acc=>if(k==Nh.free)=true then(match cells.lookup n with|some c=>eh cells r ((n,c)::acc)|none=>eh cells r acc)else eh cells r acc
theorem mG{env:Env}:∀(ns:List (Str×Nh))(acc:List (Str×MY)),(∀y∈ns,y.2= .free->∃c,env.cells.lookup y.1=some c)->
  (forIn ns acc (fun x cs=>(match x with|(name,kind)=>if(kind==Nh.free)=true then(do let c←cellOf env name;pure (ForInStep.yield ((name,c)::cs)))else pure (ForInStep.yield cs))):Sem (List (Str×MY)))=pure (eh env.cells ns acc)
 |[],acc,_=>rfl
 |(n,k)::r,acc,h=>by
  rw[List.forIn_cons];by_cases hk:(k==Nh.free)=true
  .obtain⟨c,hc⟩:=h (n,k) MG (by simpa using hk)
   have hc:env.cells.lookup n=some c:=hc;have e:=mG (env:=env) r ((n,c)::acc) fun y hy=>h y (MH _ hy);simp only[eh,hk,if_true,cellOf,hc,pure_bind];exact e
  .have e:=mG (env:=env) r acc fun y hy=>h y (MH _ hy)
   have hk:(k==Nh.free)=false:=by simpa using hk
   simp only[eh,hk,Bool.false_eq_true,if_false,pure_bind];exact e
theorem gB{scope:Scope}{env:Env}(h:∀y∈scope.names,y.2= .free->∃c,env.cells.lookup y.1=some c):closureFor scope env=pure (eh env.cells scope.names []):=by
 have e:=mG (env:=env) scope.names [] h;unfold closureFor;simp only[bind_pure]
 first
  |exact e
  |(refine Eq.trans ?_ e;congr 1)
  |(simp only[bind_pure_comp]at e⊢;exact e)
theorem du{cells:List (Str×MY)}:∀{ns:List (Str×Nh)}{acc:List (Str×MY)}{x:Str}{c:MY},(eh cells ns acc).lookup x=some c->acc.lookup x=some c\/cells.lookup x=some c
 |[],acc,x,c,h=> .inl h
 |(n,k)::r,acc,x,c,h=>by
  unfold eh at h
  split at h
  .split at h
   .rename_i q hq
    rcases du h with z|z
    .rw[List.lookup_cons]at z
     cases hx:x==n with
     |true=>
      rw[hx]at z;cases z;have:x=n:=by simpa using hx
      subst this;exact .inr hq
     |false=>
      rw[hx]at z;exact .inl z
    .exact .inr z
   .exact du h
  .exact du h
theorem gP{cells:List (Str×MY)}:∀{ns:List (Str×Nh)}{acc:List (Str×MY)}{x:Str}{c:MY},cells.lookup x=some c->((x,Nh.free)∈ns\/acc.lookup x=some c)->(eh cells ns acc).lookup x=some c
 |[],acc,x,c,hc,h=>h.elim (fun z=>nomatch z) fun z=>z
 |(n,k)::r,acc,x,c,hc,h=>by
  unfold eh
  split
  .rename_i hk
   split
   .rename_i q hq
    refine gP hc ?_;rcases h with h|h
    .rcases List.mem_cons.mp h with e|h
     .cases e
      rw[hc]at hq;cases hq;exact .inr (by simp)
     .exact .inl h
    .by_cases e:x=n
     .subst e
      rw[hc]at hq;cases hq;exact .inr (by simp)
     .exact .inr (by rw[List.lookup_cons,(by simpa using e:(x==n)=false)];exact h)
   .rename_i hq
    refine gP hc ?_;rcases h with h|h
    .rcases List.mem_cons.mp h with e|h
     .cases e
      rw[hc]at hq;cases hq
     .exact .inl h
    .exact .inr h
  .rename_i hk
   refine gP hc ?_;rcases h with h|h
   .rcases List.mem_cons.mp h with e|h
    .cases e
     exact absurd rfl hk
    .exact .inl h
   .exact .inr h
theorem fu{env:Env}:∀{names:List (Str×Nh)}{x:Str},names.lookup x=some .free->
  (names.map fun(n,k)=>if(k==Nh.free&&env.scope.kind== .function&&env.kindOf n==some .cell)then(n,Nh.cell)else(n,k)).lookup x=some .cell\/
  (names.map fun(n,k)=>if(k==Nh.free&&env.scope.kind== .function&&env.kindOf n==some .cell)then(n,Nh.cell)else(n,k)).lookup x=some .free
 |[],_,h=>by simp at h
 |(n,k)::r,x,h=>by
  have ih:= @fu env r x;show List.lookup x ((if(k==Nh.free&&env.scope.kind== .function&&env.kindOf n==some .cell)=true then(n,Nh.cell)else(n,k))::_)=_\/List.lookup x ((if(k==Nh.free&&env.scope.kind== .function&&env.kindOf n==some .cell)=true then(n,Nh.cell)else(n,k))::_)=_
  cases hx:x==n with
  |true=>
   simp only[List.lookup_cons,hx]at h;cases h;by_cases hc:(Nh.free==Nh.free&&env.scope.kind== .function&&env.kindOf n==some .cell)=true
   .rw[if_pos hc];simp[List.lookup_cons,hx]
   .rw[if_neg hc];simp[List.lookup_cons,hx]
  |false=>
   simp only[List.lookup_cons,hx]at h;by_cases hc:(k==Nh.free&&env.scope.kind== .function&&env.kindOf n==some .cell)=true
   .rw[if_pos hc];simp only[List.lookup_cons,hx];exact ih h
   .rw[if_neg hc];simp only[List.lookup_cons,hx];exact ih h
theorem kf{env:Env}:∀{names:List (Str×Nh)}{x:Str}{q:Nh},(names.map fun(n,k)=>if(k==Nh.free&&env.scope.kind== .function&&env.kindOf n==some .cell)then(n,Nh.cell)else(n,k)).lookup x=some q->
  (∀y∈names,y.2≠.cell)->q= .cell\/q= .free->(x,Nh.free)∈names
 |[],_,_,h,_,_=>by simp at h
 |(n,k)::r,x,q,h,hn,hq=>by
  have ih:= @kf env r x q;have h:List.lookup x ((if(k==Nh.free&&env.scope.kind== .function&&env.kindOf n==some .cell)=true then(n,Nh.cell)else(n,k))::r.map fun(n,k)=>if(k==Nh.free&&env.scope.kind== .function&&env.kindOf n==some .cell)then(n,Nh.cell)else(n,k))=some q:=h;have nk:k≠.cell:=hn (n,k) MG;have hn':∀y∈r,y.2≠.cell:=fun y hy=>hn y (MH _ hy)
  cases hx:x==n with
  |true=>
   have e:x=n:=by simpa using hx
   subst e;by_cases hc:(k==Nh.free&&env.scope.kind== .function&&env.kindOf x==some .cell)=true
   .have:k= .free:=by
     simp only[Bool.and_eq_true]at hc;simpa using hc.1.1
    subst this;exact MG
   .rw[if_neg hc]at h
    simp only[List.lookup_cons,hx]at h;cases h;rcases hq with z|z
    .exact absurd z nk
    .rw[z];exact MG
  |false=>
   by_cases hc:(k==Nh.free&&env.scope.kind== .function&&env.kindOf n==some .cell)=true
   .rw[if_pos hc]at h;simp only[List.lookup_cons,hx]at h;exact MH _ (ih h hn' hq)
   .rw[if_neg hc]at h;simp only[List.lookup_cons,hx]at h;exact MH _ (ih h hn' hq)
def dJ(ix:List (Option Nat))(σ:St):St:=ix.map fun o=>o.bind fun i=>(σ[i]?).join
def n0(X:Cx)(N:List Str)(scope:Scope)(C:MY)(fp:List MY)(s:MZ)(H:Hp):Cx:=
 {X with N:=N,s₀:=s,H₀:=H,env:=compEnvC scope (eh X.env.cells scope.names []) C X.env,outer:=X.stack,stack:=X.stack,ex:=fp,fn:=fun _=>false,xe:=fun _ _=>False}
structure fj(X:Cx)(scope:Scope)(N:List Str)(ix:List (Option Nat)):Prop where
 kind:scope.kind= .function
 rm:∀y∈scope.names,y.2≠.cell
 len:ix.length=N.length
 names:∀y∈scope.names,y.2= .local->scope.names.lookup y.1=some .local
 fr:∀y∈scope.names,y.2= .free->X.env.kindOf y.1=some .cell\/X.env.kindOf y.1=some .free
 L8:∀(j i:Nat),ix[j]?=some (some i)->∃x:Str,N[j]?=some x/\X.N[i]?=some x/\scope.names.lookup x=some .free/\(x,Nh.free)∈scope.names
theorem mem_of_lookup{names:List (Str×Nh)}{x:Str}{k:Nh}(h:names.lookup x=some k):(x,k)∈names:=by
 induction names with
 |nil=>simp at h
 |cons p r ih=>
  obtain⟨n,q⟩:=p;rw[List.lookup_cons]at h
  cases hx:x==n with
  |true=>
   rw[hx]at h;cases h;have:x=n:=by simpa using hx
   subst this;exact MG
  |false=>rw[hx]at h;exact MH _ (ih h)
section
variable{X:Cx}{pins:List (MY×Obj)}{σ:St}{H:Hp}{s:MZ}{scope:Scope}{N:List Str}{ix:List (Option Nat)}{fp:List MY}
theorem fj.ok (c:fj X scope N ix)(I:Inv X pins σ H s)(hf:∀b∈fp,iK X pins H b)(hlt:∀b∈fp,b<s.heap.objs.size){C:Nat}(hC:s.heap.objs.size<=C):(n0 X N scope C fp s H).Ok where
 mod:=I.ok.mod
 kind:=c.kind
 glob:=I.ok.glob
 blt:=I.ok.blt
 above:=hC
 inj:=fun x y d h1 h2=>by
  have h1:(eh X.env.cells scope.names []).lookup x=some d:=h1;have h2:(eh X.env.cells scope.names []).lookup y=some d:=h2;rcases du h1 with z|z
  .simp at z
  .rcases du h2 with z'|z'
   .simp at z'
   .exact I.ok.inj x y d z z'
 has:=fun x h=>by
  have hm:(x,Nh.free)∈scope.names:=by
   rcases h with h|h
   .exact kf h c.rm (.inl rfl)
   .exact kf h c.rm (.inr rfl)
  obtain⟨d,hd⟩:=I.ok.has x (c.fr _ hm rfl);exact⟨d,gP hd (.inl hm)⟩
 Ca:=fun x d h=>by cases h
 hd:=I.ok.hd
 frames:=I.ok.frames
 Ar:= .inl rfl
 Fq:=fun b hb=>by
  refine⟨fun z=>?_,fun x d e z=>?_⟩
  .have z:b=C:=z
   have:=hlt b hb;rw[z]at this;exact absurd (MQ this hC) (Nat.lt_irrefl _)
  .rcases du e with q|q
   .simp at q
   .exact(hf b hb).2.2.2.2.1 x d q z
 bs:=fun b o e=>I.bs b o e
 yF:=MS I.ok.yF I.sz
 oJ:=fun b o e hb=>by
  rcases(hf b hb).2.2.2.1 with z|z
  .exact I.ok.oJ b o e z
  .exact absurd (MQ (Nc.lt_size (I.ok.bs b o e).1) z) (Nat.lt_irrefl _)
 pZ:=fun b hb z=>by
  rcases List.mem_cons.mp (I.i7 b z)with e|e
  .exact(hf b hb).2.1 e
  .exact(hf b hb).2.2.1 e
 iq:=I.stack
 nY:=I.nU
theorem fj.enter (c:fj X scope N ix)(I:Inv X pins σ H s)(hf:∀b∈fp,iK X pins H b)(ho:∀b∈fp,∃o,s.heap.get? b=some o/\∀v,o.data≠.cell v){C D:Nat}{h':Nc}{t':Nat}{m:Str->Option MX}{oD:Obj}(hC:C=s.heap.objs.size+1)(hD:D=s.heap.objs.size)
  (k:∀b o,s.heap.get? b=some o->h'.get? b=some o) (hn:h'.Ns C m) (hoD:h'.get? D=some oD) (hdD:∀v,oD.data≠.cell v):
  Inv (n0 X N scope C fp s H) (pins++[(D,oD)]) (dJ ix σ) H {s with heap:=h',toks:=t'}:=by
 have hlt:∀b∈fp,b<s.heap.objs.size:=fun b hb=>let⟨o,e,_⟩:=ho b hb;Nc.lt_size e
 have sub:∀x d,(eh X.env.cells scope.names []).lookup x=some d->X.env.cells.lookup x=some d:=fun x d e=>by
  rcases du e with z|z
  .simp at z
  .exact z
 refine⟨c.ok I hf hlt (by lia),rfl,I.bare,Un.kept k,⟨m,hn,fun j x v e1 e2 e3=>?_⟩,fun x d e=>?_,I.aX.fresh (by show s.heap.objs.size<=C;lia),fun x d e=>I.eX x d (sub x d e),fun p hp=>?_,I.aX.kept k,?_⟩
 .have e2:(ix.map fun o=>o.bind fun i=>(σ[i]?).join)[j]?=some (some v):=e2
  rw[Mv]at e2
  cases hj:ix[j]? with
  |none=>rw[hj]at e2;cases e2
  |some o=>
   rw[hj]at e2
   cases o with
   |none=>cases e2
   |some i=>
    have e2:some ((σ[i]?).join)=some (some v):=e2;obtain⟨x',a1,a2,a3,a4⟩:=c.L8 j i hj;have e1:N[j]?=some x:=e1;rw[e1]at a1;cases a1;have hs:σ[i]?=some (some v):=by
     have z:=MV e2
     cases q:σ[i]? with
     |none=>rw[q]at z;cases z
     |some w=>rw[q]at z;have z:w=some v:=z;rw[z]
    have kx:=c.fr _ a4 rfl;obtain⟨m0,hn0,hl0⟩:=I.loc;obtain⟨u,r,l⟩:=hl0 i x v a2 hs (kx.elim (fun z=> .inr (.inl z)) fun z=> .inr (.inr z));refine⟨u,r,.inr ⟨?_,?_⟩⟩
    .exact fu (env:=X.env) a3
    .rcases l with⟨z,_⟩|⟨_,d,hd,hcell⟩
     .rcases kx with q|q<;>rw[q]at z<;>cases z
     .refine⟨d,gP hd (.inl a4),?_⟩
      obtain⟨o,ho,hdt⟩:=hcell;exact⟨o,k d o ho,hdt⟩
 .obtain⟨v,o,ho,hdt⟩:=I.cell x d (sub x d e)
  exact⟨v,o,k d o ho,hdt⟩
 .have nstk:∀b,b≠X.env.locals->b∉X.fs->b∉fV X.stack:=fun b h1 h2 z=>by
   rcases List.mem_cons.mp (I.i7 b z)with e|e
   .exact h1 e
   .exact h2 e
  have old:∀p∈X.pn++pins,h'.get? p.1=some p.2/\H p.1=none/\p.1≠C/\p.1∉fV X.stack/\∀v,p.2.data≠.cell v:=fun p hp=>by
   obtain⟨a1,a2,a3,a4,a5⟩:=I.pin p hp;have: @LT.lt Nat _ p.1 s.heap.objs.size:=Nc.lt_size a1;exact⟨k _ _ a1,a2,MR (by rw[hC];exact Nat.lt_succ_of_lt this),nstk _ a3 a4,a5⟩
  have hp:p∈X.pn++(pins++[(D,oD)]):=hp;rcases List.mem_append.mp hp with z|z
  .exact old p (MK _ z)
  .rcases List.mem_append.mp z with z|z
   .exact old p (MJ _ z)
   .have e:p=(D,oD):=by simpa using z
    subst e;have lt: @LT.lt Nat _ X.env.locals s.heap.objs.size:=I.lt;refine⟨hoD,I.aX.fresh (by show s.heap.objs.size<=D;lia),(by show(D:Nat)≠C;lia),nstk D (Nat.ne_of_gt (by rw[hD];exact lt)) (I.JY (by lia)),hdD⟩
 .show(ix.map _).length=N.length
  rw[Mu,c.len]
theorem fj.leave (c:fj X scope N ix)(I:Inv X pins σ H s)(hf:∀b∈fp,iK X pins H b){C D:Nat}{σ':St}{H':Hp}{s':MZ}{ys:List V}{its:List MX}{n:Nat}{pl:List (MY×Obj)}(hC:C=s.heap.objs.size+1)(hD:D=s.heap.objs.size)
  (I':Inv (n0 X N scope C fp s H) (pl++[(D,{cls:= .type "list",data:= .seq its.toArray n})]) σ' H' s') (rv:Vals ys its) (hz:ys.length<=M5):
  Inv X pins σ (upd H' D (.lst ys)) s':=by
 have pD:=I'.pin (D,_) (MJ _ (MJ _ MG));have hDn:H' D=none:=pD.2.1;have u:Un (fV X.stack) fp H H' s.heap s'.heap:=I'.base;have hlt:∀b o,s.heap.get? b=some o->b≠D:=fun b o e=>MR (by have: @LT.lt Nat _ b s.heap.objs.size:=Nc.lt_size e;rw[hD];exact this);refine I.B3 (ch:=fp) I'.os ?_ ?_ I'.bare fun b hb=>?_
 .refine⟨u.keep,u.slot,fun b o e n hx=>by rw[aq (hlt b o e)];exact u.free b o e n hx,u.there,fun b xs e=>?_,fun b o w e=>?_,fun b ps e=>?_⟩
  .have e':=u.bH b xs e
   rw[aq (ao e' hDn)];exact e'
  .have e':=u.iy b o w e
   rw[aq (ao e' hDn)];exact e'
  .obtain⟨more,e'⟩:=u.iN b ps e
   exact⟨more,by rw[aq (ao e' hDn)];exact e'⟩
 .intro b o e
  by_cases hb:b=D
  .subst hb
   rw[ae]at e;cases e;exact⟨hz,its,n,rv,pD.1⟩
  .rw[aq hb]at e
   refine(I'.aX b o e).gM (fun _ _ _ q=>q) (fun a q=>?_) fun a xs q=>?_
   .rw[aq (ao q hDn)];exact q
   .rw[aq (ao q hDn)];exact q
 .obtain⟨f0,f1,f2,f3,f4,f5⟩:=hf b hb
  exact⟨f3,f1,f4,f5⟩
end
section
variable{prog:M0}{w:M3}{A:M4}{R:Result->MZ->Prop}{s:MZ}
theorem tm{elt target iter:Expr}{ifs:List Expr}{scope:Scope}{pos:Pos}{it acc:MX}{env:Env}(I:Nat->MZ->Prop)
  (turn:∀n s,I n s->Nf (model prog w) A (pyNext it) (fun r s₁=>match r with
   |none=>R (.ok .next) s₁
   |some v=>Nf (model prog w) A (letOwnedTupleGo target it v) (fun _ s₁=>Nf (model prog w) A (assign target env v) (fun _ s₂=>
     Nf (model prog w) A (forIn ifs true fun c r=>if r=true then do let ok←isTrue c env (eval c env);pure (ForInStep.yield ok)else pure (ForInStep.yield r)) (fun ok s₃=>
      if ok=true then Nf (model prog w) A (eval elt env) (fun x s₄=>
       Nf (model prog w) A (call (.builtin "list.append") [acc,x]) (fun _ s₅=>∃m,m<n/\I m s₅) (fun _ _=>False) s₄) (fun _ _=>False) s₃
      else∃m,m<n/\I m s₃) (fun _ _=>False) s₂) (fun _ _=>False) s₁) (fun _ _=>False) s₁) (fun _ _=>False) s)
  (n:Nat) (h:I n s):
  codeAny (model prog w) A (.compLoop (.ListComp elt [⟨target,iter,ifs,0⟩] scope pos) 0 it acc env) R s:=by
 refine codeAny_loop rfl I (fun n s hI=>?_) n h;show Nf _ A ((compTurn (.ListComp elt [⟨target,iter,ifs,0⟩] scope pos) 0 it acc env).onRaise (fun x=>do noteFrame x env;theTreesLotGoes x)) _ _ s;refine wpAny_noted ?_;rw[compTurn_list];refine M7 (wpAny_standAt (M7 (M9 (turn n s hI) (fun r s₁ h₁=>?_) fun _ _ h'=>h'.elim)))
 cases r with
 |none=>exact M8 h₁
 |some v=>
  refine M7 (M9 h₁ (fun _ s₁ h₁=>?_) fun _ _ h'=>h'.elim);refine M7 (M9 h₁ (fun _ s₂ h₂=>M7 (M9 h₂ (fun ok s₃ h₃=>?_) fun _ _ h'=>h'.elim)) fun _ _ h'=>h'.elim)
  cases ok with
  |false=>exact M8 ⟨rfl,h₃⟩
  |true=>
   refine M7 (M7 (M9 h₃ (fun x s₄ h₄=>M7 (M9 h₄ (fun _ s₅ h₅=>?_) fun _ _ h'=>h'.elim)) fun _ _ h'=>h'.elim));exact M8 (M8 ⟨rfl,h₅⟩)
end
def GW(X:Cx)(cs:List Expr)(t:TT):Prop:=
 ∀(pins:List (MY×Obj))(s:MZ)(σ:St)(H:Hp)(Q:Bool->Hp->Prop),Inv X pins σ H s->t σ H Q->
  Nf (model X.prog X.w) X.A (forIn cs true fun c r=>if r=true then do let ok←isTrue c X.env (eval c X.env);pure (ForInStep.yield ok)else pure (ForInStep.yield r)) (TP X pins σ Q) X.xe s
def dS:TT:=fun _ H Q=>Q true H
theorem bc{X:Cx}:GW X [] dS:=fun _ _ _ H _ I h=>wpAny_tests_nil ⟨H,I,h⟩
theorem sE{X:Cx}{c:Expr}{t:TT}(h:PT X c t):GW X [c] t:=fun pins s σ H Q I q=>wpAny_tests_one (h pins s σ H Q I q)
abbrev WC:=Nat->Nat->List V->St->Hp->Prop
def fz(ix:List (Option Nat))(g:TG)(tc:TT)(te:TE)(σ:St)(Q:VK)(J:It)(H1:Hp):Prop:=
 ∃W:WC,(∃m,W 0 m [] (dJ ix σ) H1)/\∀i m ys σ' H',W i m ys σ' H'->
  (J.stop i H'/\ys.length<=M5/\∀p,H' p=none->Q (.ref p) (upd H' p (.lst ys)))\/
  (J.go i H'/\ys.length<M5/\∀x H2,J.FU i H' x H2->g x σ' H2 fun σ2 H3=>tc σ2 H3 fun b H4=>
   if b=true then te σ2 H4 fun v H5=>∃m',m'<m/\W (i+1) m' (ys++[v]) σ2 H5 else∃m',m'<m/\W (i+1) m' ys σ2 H4)
def xB(ix:List (Option Nat))(wi:TI)(g:TG)(tc:TT)(te:TE):TE:=fun σ H Q=>wi σ H (fz ix g tc te σ Q)
section
variable{X:Cx}{scope:Scope}{N:List Str}{ix:List (Option Nat)}{elt tg iter:Expr}{ifs:List Expr}{g:TG}{tc:TT}{te:TE}{pos:Pos}
theorem oO{pins:List (MY×Obj)}{σ:St}{s2:MZ}{Q:VK}{itv:MX}{RR:MX->MY->Result->MZ->Prop}{E:MX->MZ->Prop}(c:fj X scope N ix)(hc:X.calm=true)
  (hg:∀C fp s H,PG (n0 X N scope C fp s H) tg g) (ht:∀C fp s H,GW (n0 X N scope C fp s H) ifs tc) (he:∀C fp s H,PE (n0 X N scope C fp s H) elt te)
  (h2:Kq X pins σ tg (fz ix g tc te σ Q) itv s2)
  (hR:∀(D C:MY)(s':MZ)(H':Hp)(m:Str->Option MX),Inv X pins σ H' s'->s'.heap.Ns C m->H' C=none->X.s₀.heap.objs.size<=C->(∀p∈X.pn++pins,p.1≠C)->C≠X.env.locals->(∀x c,X.env.cells.lookup x=some c->c≠C)->Q (.ref D) H'->RR (.ref D) C (.ok .next) s'):
  Nf (model X.prog X.w) X.A (newList []) (fun acc s₃=>Nf (model X.prog X.w) X.A (newFunctionEnv scope X.env.globals (eh X.env.cells scope.names []) [] X.env.qual none .none (some X.env)) (fun cenv s₄=>
   codeAny (model X.prog X.w) X.A (.compStart (.ListComp elt [⟨tg,iter,ifs,0⟩] scope pos) 0 itv acc {cenv with scope:=relabel scope X.env}) (RR acc cenv.locals) s₄) E s₃) E s2:=by
 obtain⟨it,fp,tn,J,H2,rfl,I2,T,st2,f2,W,⟨m0,w0⟩,turn⟩:=h2;refine wpAny_newObj_type (wpAny_newFunctionEnv c.rm (by intro y hy;simp at hy) (fun h₁ hns₁ hsb₁=>?_) c.kind);dsimp only at hns₁ hsb₁⊢;generalize hH2:s2.heap.push {cls:= .type "list",dict:=none,data:= .seq ([]:List MX).toArray}=G2 at hns₁ hsb₁⊢;have hCs:G2.objs.size=s2.heap.objs.size+1:=by rw[←hH2,Nc.size_push]
 generalize hCe:G2.objs.size=C at hns₁ hsb₁ hCs⊢;generalize hDe:s2.heap.objs.size=D at hCs⊢;have ltC:∀b,@LT.lt Nat _ b D->b≠C:=fun b hb=>MR (by rw[hCs];exact Nat.lt_succ_of_lt hb);have ltS:∀b o,s2.heap.get? b=some o->@LT.lt Nat _ b D:=fun b o e=>by rw[←hDe];exact Nc.lt_size e
 have hDC:D≠C:=MR (by rw[hCs];exact Nat.lt_succ_self _);have old:∀b o,s2.heap.get? b=some o->h₁.get? b=some o:=fun b o e=>hsb₁.extBut b o (ltC b (ltS b o e)) (Nc.get?_push_of_some _ (hH2▸Nc.get?_push_of_some _ e));have hoD:h₁.get? D=some {cls:= .type "list",dict:=none,data:= .seq ([]:List MX).toArray}:=by
  refine hsb₁.extBut _ _ hDC (Nc.get?_push_of_some _ ?_);rw[←hH2,←hDe];exact Nc.get?_push_size _ rfl
 have I4:Inv (n0 X N scope C fp s2 H2) (pins++[(D,{cls:= .type "list",data:= .seq ([]:List MX).toArray})]) (dJ ix σ) H2 {s2 with heap:=h₁,toks:=s2.toks+([]:List (Str×MX)).length}:=
  c.enter I2 f2 (T.obj _ _ st2) (by rw[hCs,hDe]) hDe.symm old hns₁ hoD fun v z=>by cases z
 have st4:tn 0 h₁:=T.keep _ _ _ st2 fun b _ o e=>old b o e;have pinD:∀p∈X.pn++pins,p.1≠D:=fun p hp=>MR (ltS _ _ (I2.pin p hp).1);have pinC:∀p∈X.pn++pins,p.1≠C:=fun p hp=>ltC _ (ltS _ _ (I2.pin p hp).1);have celD:∀x d,X.env.cells.lookup x=some d->@LT.lt Nat _ d D:=fun x d e=>by
  obtain⟨v,o,ho,_⟩:=I2.cell x d e;exact ltS d o ho
 have fpD:∀b∈fp,@LT.lt Nat _ b D:=fun b hb=>by
  obtain⟨o,e,_⟩:=T.obj _ _ st2 b hb;exact ltS b o e
 have sub:∀x d,(eh X.env.cells scope.names []).lookup x=some d->X.env.cells.lookup x=some d:=fun x d e=>by
  rcases du e with z|z
  .simp at z
  .exact z
 have stat:∀{H':Hp}{oD:Obj},(∀b∈fp,H' b=none)->∀b∈fp,iK (n0 X N scope C fp s2 H2) (pins++[(D,oD)]) H' b:=fun{H' oD} hn b hb=>by
  obtain⟨f0,f1,f2,f3,f4,f5⟩:=f2 b hb;refine⟨hn b hb,ltC b (fpD b hb),fun z=>?_,.inl hb,fun x d e=>f4 x d (sub x d e),fun p hp=>?_⟩
  .rcases List.mem_cons.mp (I2.i7 b z)with e|e
   .exact f1 e
   .exact f2 e
  .have hp:p∈X.pn++(pins++[(D,oD)]):=hp
   rw[←List.append_assoc]at hp;rcases List.mem_append.mp hp with z|z
   .exact f5 p z
   .have e:p=(D,oD):=by simpa using z
    subst e;exact Nat.ne_of_gt (fpD b hb)
 have loop:∀s3:MZ,s3={s2 with heap:=h₁,toks:=s2.toks+([]:List (Str×MX)).length}->
   codeAny (model X.prog X.w) X.A (.compLoop (.ListComp elt [⟨tg,iter,ifs,0⟩] scope pos) 0 (.ref it) (.ref D) (n0 X N scope C fp s2 H2).env) (RR (.ref D) C) s3:=by
  rintro s3 rfl;refine tm (fun n s'=>∃i σ' H' ys its k,Inv (n0 X N scope C fp s2 H2) (pins++[(D,{cls:= .type "list",data:= .seq (List.toArray its) k})]) σ' H' s'/\tn i s'.heap/\(∀b∈fp,H' b=none)/\Vals ys its/\W i n ys σ' H') ?_ m0
   ⟨0,_,H2,[],[],_,I4,st4,fun b hb=>(f2 b hb).1,.nil,w0⟩
  rintro n s3 ⟨i,σ3,H3,ys,its,k,I3,st3,fr3,rv,w3⟩;rcases turn i n ys σ3 H3 w3 with⟨stop,hz,qn⟩|⟨go,hz,step⟩
  .refine aY (T.done (n0 X N scope C fp s2 H2) rfl rfl rfl hc i _ s3 σ3 H3 _ I3 (stat fr3) st3 stop) fun r s4 ⟨hr,I4⟩=>?_
   subst hr;have hDn:H3 D=none:=(I3.pin (D,_) (MJ _ (MJ _ MG))).2.1;obtain⟨m4,hn4,_⟩:=id I4.loc;refine hR D C s4 _ m4 (c.leave I2 f2 (by rw[hCs,hDe]) hDe.symm I4 rv hz) hn4 ?_ ?_ pinC ?_ (fun x d e=>ltC d (celD x d e)) (qn D hDn)
   .rw[aq hDC.symm];exact I4.free
   .refine MS I2.sz ?_
    rw[hDe,hCs];exact Nat.le_succ _
   .refine Nat.ne_of_gt (MQ I2.lt ?_)
    rw[hDe,hCs];exact Nat.le_succ _
  .refine aY (T.item (n0 X N scope C fp s2 H2) rfl rfl rfl hc i _ s3 σ3 H3 _ I3 (stat fr3) st3 go) fun r s4 ⟨u,hr,h4⟩=>?_
   subst hr;refine aY h4 fun _ s5 ⟨x,H5,I5,r5,y5,st5,fr5⟩=>?_;have I5':=I5.pinned (stat fr5) (T.obj _ _ st5);refine aY (hg C fp s2 H2 _ s5 σ3 H5 x u _ I5' r5 (step x H5 y5)) fun _ s6 ⟨σ6,H6,I6,q6⟩=>?_;refine aY (ht C fp s2 H2 _ s6 σ6 H6 _ I6 q6) fun ok s7 ⟨H7,I7,q7⟩=>?_;have keep:∀{s':MZ}{σ':St}{H':Hp},Inv (n0 X N scope C fp s2 H2) ((pins++[(D,{cls:= .type "list",data:= .seq its.toArray k})])++mJ fp s5.heap) σ' H' s'->tn (i+1) s'.heap/\∀b∈fp,H' b=none:=fun{s' σ' H'} I'=>by
    refine⟨T.keep _ _ _ st5 fun b hb o e=>(I'.pin (b,o) (MJ _ (MJ _ (eK hb e)))).1,fun b hb=>?_⟩;obtain⟨o,e,d⟩:=T.obj _ _ st5 b hb;exact(I'.pin (b,o) (MJ _ (MJ _ (eK hb e)))).2.1
   cases ok with
   |false=>
    rw[if_neg MU];rw[if_neg MU]at q7;obtain⟨m',hm,w7⟩:=q7;obtain⟨k1,k2⟩:=keep I7;exact⟨m',hm,i+1,σ6,H7,ys,its,k,I7.dZ,k1,k2,rv,w7⟩
   |true=>
    rw[if_pos rfl];rw[if_pos rfl]at q7;refine aY (he C fp s2 H2 _ s7 σ6 H7 _ I7 q7) fun y s8 ⟨v,H8,I8,r8,m',hm,w8⟩=>?_;obtain⟨k1,k2⟩:=keep I8;have pD:=I8.pin (D,_) (MJ _ (MK _ (MJ _ MG)));have I8u:=I8.dZ;have I8v:Inv (n0 X N scope C fp s2 H2) pins σ6 H8 s8:=I8u.dZ;have len:=rv.length;refine wpAny_list_append_plain (items:=its.toArray) (hsz:=by simp;lia) ⟨k,pD.1⟩ fun h9 hl9 hs9=>?_;obtain⟨k9,e9⟩:=hl9;have I9:Inv (n0 X N scope C fp s2 H2) pins σ6 H8 {s8 with heap:=h9}:=by
     refine I8v.turned (t':=s8.toks) (it:=D) (fun b o hb e=>hs9.extBut b o hb e) pD.2.1 hDC (.inr ?_) (fun x d e=>MR (celD x d (sub x d e))) fun p hp=>?_
     .show s2.heap.objs.size<=D
      rw[hDe];exact MP _
     .exact pinD p hp
    have e9':h9.get? D=some {cls:= .type "list",data:= .seq (its++[y]).toArray k9}:=by
     rw[e9];simp
    refine⟨m',hm,i+1,σ6,H8,ys++[v],its++[y],k9,I9.nJ fun p hp=>?_,T.keep _ _ _ k1 fun b hb o e=>hs9.extBut b o (MR (fpD b hb)) e,k2,rv.append (.cons r8 .nil),w8⟩;rcases List.mem_append.mp hp with z|z
    .exact I9.pin p (MJ _ z)
    .have e:p=(D,{cls:= .type "list",data:= .seq (its++[y]).toArray k9}):=by simpa using z
     subst e;exact⟨e9',pD.2.1,pD.2.2.1,pD.2.2.2.1,fun v z=>by cases z⟩
 exact codeAny_compStart_list (loop _ rfl) (T.self _ 0 _ _ _ st4 (loop _ rfl))
variable{wi:TI}
theorem bw(c:fj X scope N ix)(hc:X.calm=true)(hi:PI X tg iter wi)(hg:∀C fp s H,PG (n0 X N scope C fp s H) tg g)(ht:∀C fp s H,GW (n0 X N scope C fp s H) ifs tc)(he:∀C fp s H,PE (n0 X N scope C fp s H) elt te)
  (hs:∀x,foldedSetIterable iter X.env x=pure x:=by intro _;rfl):PE X (.ListComp elt [⟨tg,iter,ifs,0⟩] scope pos) (xB ix wi g tc te):=by
 intro pins s σ H Q I h;rw[eval_ListComp];have hcl:∀y∈scope.names,y.2=Nh.free->∃d,X.env.cells.lookup y.1=some d:=fun y hy e=>I.ok.has _ (c.fr y hy e);refine wpAny_comprehension_free (use:=none) rfl hs (gB hcl) c.kind c.names (aY (hi pins s σ H _ I h) fun v s1 h1=>aY h1 fun itv s2 h2=>?_);refine oO (RR:=fun acc C=>compPost (model X.prog X.w) X.A X.xe none (EP X pins σ Q) acc C) c hc hg ht he h2 ?_;intro D C s' H' m I' hn hC hz hp hL hcells q;exact⟨m,hn,fun h' hs'=>⟨.ref D,H',I'.turned (t':=s'.toks) (fun b o hb e=>hs'.extBut b o hb e) hC hL (.inr hz) hcells hp,rfl,q⟩⟩
theorem gX{i:Nat}{x:Str}{px spos:Pos}(hN:X.N.Nodup)(hx0:X.N[i]?=some x)(hx:X.env.scope.names.lookup x=some .local)(c:fj X scope N ix)(hc:X.calm=true)(hi:PI X tg iter wi)(hg:∀C fp s H,PG (n0 X N scope C fp s H) tg g)(ht:∀C fp s H,GW (n0 X N scope C fp s H) ifs tc)(he:∀C fp s H,PE (n0 X N scope C fp s H) elt te)
  (hsw:swapsWith (.ListComp elt [⟨tg,iter,ifs,0⟩] scope pos) (some (.Name x px)) spos.line X.env=pure true:=by rfl)
  (hs:∀x,foldedSetIterable iter X.env x=pure x:=by intro _;rfl):PS X (.Assign [.Name x px] (.ListComp elt [⟨tg,iter,ifs,0⟩] scope pos) spos) (vv (xB ix wi g tc te) (cF i)):=by
 intro pins s σ H D0 I h;rw[exec_Assign_Name_used _ _ _ _ hsw];refine M7 (wpAny_standAt (M7 ?_));show Nf _ _ (do let _←comprehension (.ListComp elt [⟨tg,iter,ifs,0⟩] scope pos) scope X.env _ (newList []) false (eval iter X.env) (some (assign (.Name x px) X.env))) _ _ s;have hcl:∀y∈scope.names,y.2=Nh.free->∃d,X.env.cells.lookup y.1=some d:=fun y hy e=>I.ok.has _ (c.fr y hy e);refine M7 (M9 (wpAny_comprehension_free (use:=some (assign (.Name x px) X.env)) (Q:=fun _ s'=>SP X pins D0 .next s') rfl hs (gB hcl) c.kind c.names
  (aY (hi pins s σ H _ I h) fun v s1 h1=>aY h1 fun itv s2 h2=>?_)) (fun _ s' hq=>M8 (M8 hq)) fun _ _ e=>e)
 refine oO (RR:=fun acc C=>compPost (model X.prog X.w) X.A X.xe (some (assign (.Name x px) X.env)) (fun _ s'=>SP X pins D0 .next s') acc C) c hc hg ht he h2 ?_;intro D C s' H' m I' hn hC hz hp hL hcells q;show Nf _ _ (assign (.Name x px) X.env (.ref D)) _ _ _;refine wpAny_assign_Name (mz (v:= .ref D) I' hN hx0 (.inl hx) rfl (fun s'' I'' hsb=>?_) (.inr hx));obtain⟨a,sb,ha⟩:=hsb;have haC:a≠C:=by
  rcases ha with e|e
  .rw[e];exact hL.symm
  .exact hcells x a e
 refine⟨m,hn.sameBut sb haC.symm,fun h' hs'=>⟨_,H',I''.turned (t':=s''.toks) (fun b o hb e=>hs'.extBut b o hb e) hC hL (.inr hz) hcells hp,q⟩⟩
end
mutual
inductive Dat(K:W.Frag)(H:Hp)(P:MY->Prop):V->PyData->Prop
 |de:Dat K H P .de .none
 |bl (b:Bool):Dat K H P (.bl b) (.bool b)
 |int (i:Int):Dat K H P (.int i) (.int i)
 |str (x:Str):Dat K H P (.str x) (.str x)
 |lst {a:MY} {vs:List V} {ds:List PyData}:aJ K H a vs->P a->DatAll K H P vs ds->Dat K H P (.ref a) (.list ds)
 |tup {a:MY} {vs:List V} {ds:List PyData}:dI K H a vs->P a->DatAll K H P vs ds->Dat K H P (.ref a) (.tuple ds)
inductive DatAll(K:W.Frag)(H:Hp)(P:MY->Prop):List V->List PyData->Prop
 |nil:DatAll K H P [] []
 |cons {v:V} {d:PyData} {vs:List V} {ds:List PyData}:Dat K H P v d->DatAll K H P vs ds->DatAll K H P (v::vs) (d::ds)
end
def z6(P:MY->Prop)(H H':Hp):Prop:=∀b o,P b->H b=some o->H' b=some o
theorem z6.Ms {P:MY->Prop}{H H':Hp}{K:W.Frag}{a:MY}{xs:List V}(k:z6 P H H')(p:P a)(h:aJ K H a xs):aJ K H' a xs:=by
 rcases h with(h|⟨o,h⟩)|h
 .exact .inl (.inl (k _ _ p h))
 .exact .inl (.inr ⟨o,k _ _ p h⟩)
 .exact .inr h
theorem z6.Mq {P:MY->Prop}{H H':Hp}{K:W.Frag}{a:MY}{xs:List V}(k:z6 P H H')(p:P a)(h:dI K H a xs):dI K H' a xs:=by
 rcases h with(h|⟨o,h⟩)|h
 .exact .inl (.inl (k _ _ p h))
 .exact .inl (.inr ⟨o,k _ _ p h⟩)
 .exact .inr h
section
variable{X:Cx}{pins:List (MY×Obj)}{σ:St}{H:Hp}{s:MZ}
mutual
theorem Inv.reads {P:MY->Prop}(I:Inv X pins σ H s):∀{v:V}{d:PyData}{u:MX},Dat X.K H P v d->RelV v u->∃as,Reads s.heap u d as
 |_,_,u,.de,r=>by cases(show u=MX.none from r);exact⟨_,.none⟩
 |_,_,u,.bl b,r=>by cases(show u=MX.bool b from r);exact⟨_,.bool b⟩
 |_,_,u,.int i,r=>by obtain⟨t,rfl⟩:=(show∃t,u=MX.int i t from r);exact⟨_,.int i t⟩
 |_,_,u,.str x,r=>by obtain⟨t,rfl⟩:=(show∃t,u=MX.str x t from r);exact⟨_,.str x t⟩
 | .ref a,_,u,.lst h p rs,r=>by
  cases(show u=MX.ref a from r);obtain⟨its,rv,⟨o,n,e,c,_,d⟩,_⟩:=I.list h;obtain⟨as,q⟩:=Inv.readsAll I rs rv;exact⟨_,.list e c d (by simpa using q)⟩
 | .ref a,_,u,.tup h p rs,r=>by
  cases(show u=MX.ref a from r);obtain⟨its,rv,⟨o,e,c,n,d⟩,_⟩:=I.tuple h;obtain⟨as,q⟩:=Inv.readsAll I rs rv;exact⟨_,.tuple e c d (by simpa using q)⟩
theorem Inv.readsAll {P:MY->Prop}(I:Inv X pins σ H s):∀{vs:List V}{ds:List PyData}{us:List MX},DatAll X.K H P vs ds->Vals vs us->∃as,ReadsAll s.heap us ds as
 |_,_,_,.nil,r=>by cases r;exact⟨_,.nil⟩
 |_,_,_,.cons h rs,r=>by
  cases r with
  |cons r1 r2=>
   obtain⟨as,q⟩:=Inv.reads I h r1;obtain⟨bs,q'⟩:=Inv.readsAll I rs r2;exact⟨_,.cons q q'⟩
end
def IK(K:W.Frag):R2:=fun x y H Q=>∃P dx dy,Dat K H P x dx/\Dat K H P y dy/\dx.canLay0=true/\dy.canLay0=true/\dx.depth<=60/\Q (.bl (PyData.eqv dx dy)) H
def Fd(K:W.Frag):R2:=fun x y H Q=>∃P dx dy,Dat K H P x dx/\Dat K H P y dy/\dx.canLay0=true/\dy.canLay0=true/\dx.depth<=60/\Q (.bl (!PyData.eqv dx dy)) H
theorem HI(hu:X.A.units+64<cLine):jP X (compareOp .Eq) (IK X.K):=by
 intro pins s σ H x y v u Q I rx ry h;obtain⟨P,dx,dy,hx,hy,lx,ly,dd,q⟩:=h;obtain⟨as,qa⟩:=I.reads hx rx;obtain⟨bs,qb⟩:=I.reads hy ry;exact SeqAt.compareEq_reads qa qb lx ly (by lia) ⟨.bl _,H,I,rfl,q⟩
theorem we(hu:X.A.units+64<cLine):jP X (compareOp .NotEq) (Fd X.K):=by
 intro pins s σ H x y v u Q I rx ry h;obtain⟨P,dx,dy,hx,hy,lx,ly,dd,q⟩:=h;obtain⟨as,qa⟩:=I.reads hx rx;obtain⟨bs,qb⟩:=I.reads hy ry;exact SeqAt.compareNe_reads qa qb lx ly (by lia) ⟨.bl _,H,I,rfl,q⟩
def Bq:List V->Hp->VK->Prop:=fun xs H Q=>(∃j,xs=[.int j]/\∀p,H p=none->Q (.ref p) (upd H p (.m6 0 j)))\/∃i j,xs=[.int i,.int j]/\∀p,H p=none->Q (.ref p) (upd H p (.m6 i j))
theorem fL:bY X (.type "range") Bq:=by
 intro pins s σ H xs us Q I r h;rcases h with⟨j,rfl,q⟩|⟨i,j,rfl,q⟩
 .obtain⟨u,rfl,t,rfl⟩:=vals1 r
  refine call_range_1 ⟨.ref s.heap.objs.size,_,I.laid (o:= .m6 0 j) (fun b o e=>Nc.get?_push_of_some _ e) (MP _) ⟨_,_,_,Nc.get?_push_size _ rfl⟩,rfl,q _ (I.aX.fresh (MP _))⟩
 .obtain⟨u,u',rfl,⟨t,rfl⟩,⟨t',rfl⟩⟩:=vals2 r
  refine call_range_2 ⟨.ref s.heap.objs.size,_,I.laid (o:= .m6 i j) (fun b o e=>Nc.get?_push_of_some _ e) (MP _) ⟨_,_,_,Nc.get?_push_size _ rfl⟩,rfl,q _ (I.aX.fresh (MP _))⟩
def bK(lo hi:Int):List Int:=(List.range (hi-lo).toNat).map fun(i:Nat)=>lo+(i:Int)
theorem aB(lo hi:Int):(bK lo hi).length=(hi-lo).toNat:=by simp[bK]
theorem oY{lo:Int}{n:Nat}{acc:Array MX}(h:ItemsOf (fun i v=>∃t,v= .int (lo+i*1) t) acc n):Vals (((List.range n).map fun(i:Nat)=>lo+(i:Int)).map V.int) acc.toList:=by
 obtain⟨h1,h2⟩:=h;have key:∀(l:List MX)(k:Nat),(∀(j:Nat)(v:MX),l[j]?=some v->∃t,v=MX.int (lo+((k+j:Nat):Int)*1) t)->Vals ((List.range' k l.length).map fun(i:Nat)=>V.int (lo+(i:Int))) l:=by
  intro l
  induction l with
  |nil=>intro k _;exact .nil
  |cons v r ih=>
   intro k hk;rw[Mz,List.range'_succ,MA];refine .cons ?_ (ih (k+1) fun j v hj=>?_)
   .obtain⟨t,e⟩:=hk 0 v rfl
    refine⟨t,?_⟩;rw[e];simp
   .obtain⟨t,e⟩:=hk (j+1) v (by simpa using hj)
    refine⟨t,?_⟩;rw[e];congr 2;simp;lia
 have:=key acc.toList 0 fun j v hj=>by
  have:=h2 j v (by simpa using hj);simpa using this
 rw[MD];rw[List.range_eq_range'];have e:acc.toList.length=n:=by simpa using h1
 rw[e]at this;exact this
theorem uq{i j:Int}:Ni.Range.rangeSize i j 1=(((j-i).toNat:Nat):Int):=by
 rw[rangeSize_one];split<;>lia
def Cq:List V->Hp->VK->Prop:=fun xs H Q=>∃p i j,xs=[.ref p]/\H p=some (.m6 i j)/\-1000000<=i/\i<=1000000/\-1000000<=j/\j<=1000000/\∀l,H l=none->Q (.ref l) (upd H l (.lst ((bK i j).map V.int)))
theorem size_le{i j:Int}(h1: -1000000<=i)(h2:i<=1000000)(h3: -1000000<=j)(h4:j<=1000000):(j-i).toNat<=2^24:=by
 have:(j-i).toNat<=2000000:=by lia
 exact MS this (by decide)
theorem p5(hc:X.calm=true):bY X (.type "list") Cq:=by
 intro pins s σ H xs us Q I r h;obtain⟨p,i,j,rfl,hp,h1,h2,h3,h4,q⟩:=h;obtain⟨u,rfl,rx⟩:=vals1 r;cases rx;obtain⟨t,t',t'',e⟩:=(show bF X.prog X.w H s.heap p (.m6 i j)from I.aX p _ hp);refine call_list_range (I.ok.hd hc) e (small_one (by lia) (by lia) (by lia) (by lia)) uq (size_le h1 h2 h3 h4) fun h' tk acc' c' k e' it=>?_;have v:=oY it;refine⟨.ref s.heap.objs.size,_,I.laid (o:= .lst ((bK i j).map V.int)) k (MP _) ⟨?_,acc'.toList,c',v,by simpa using e'⟩,rfl,q _ (I.aX.fresh (MP _))⟩;rw[Mu,aB];exact MS (size_le h1 h2 h3 h4) (by decide)
end
section
variable{prog:M0}{w:M3}{A:M4}{E:MX->MZ->Prop}{s:MZ}
theorem pP{Q:List MX->MZ->Prop}{r:MY}{a b c:Int}{t u v:Tok}{n:Nat}(hh:A.handled=none)(hr:IsRange s.heap r a b c t u v)(hsmall:Ni.Range.small a b c=true)
  (hn:Ni.Range.rangeSize a b c=n) (hlen:n<=2^24)
  (hQ:∀h' tk acc,(∀b o,s.heap.get? b=some o->h'.get? b=some o)->ItemsOf (fun i v=>∃t,v= .int (a+i*c) t) acc n->Q acc.toList {s with heap:=h',toks:=tk}):
  Nf (model prog w) A (collect (.ref r)) Q E s:=by
 unfold collect;refine M7 (wpAny_runValue (codeAny_builtin F.entry_proto_collect ?_));rw[M4.under_plainId F.plain_proto_collect _];show Nf _ A.in1 (newList []>>=fun l=>again (.builtin "list.__iadd__" ⟨[l,.ref r],[]⟩)) _ _ s;refine M7 (wpAny_newObj_type ?_);refine M8 ⟨plainId_quiet F.plain_list_iadd _,codeAny_builtin F.entry_list_iadd ?_⟩;rw[M4.under_plainId F.plain_list_iadd _];show Nf _ A.in1 (Ni.List.listExtendWith (.ref s.heap.objs.size) (.ref r) (.ref s.heap.objs.size)) _ _ _;have hS:(s.heap.push {cls:= .type "list",data:= .seq ([]:List MX).toArray}).get? s.heap.objs.size=some {cls:= .type "list",data:= .seq #[] 0}:=Nc.get?_push_size _ rfl;have fin':∀(h':Nc)(tk:Nat)(acc':Array MX)(c':Nat),(∀b o,b≠s.heap.objs.size->(s.heap.push {cls:= .type "list",data:= .seq ([]:List MX).toArray}).get? b=some o->h'.get? b=some o)->
   h'.get? s.heap.objs.size=some {cls:= .type "list",dict:=none,data:= .seq acc' c',slots:= #[]}->ItemsOf (fun i v=>∃t,v= .int (a+i*c) t) acc' n->Nf (model prog w) A (match MX.ref s.heap.objs.size with
   |MX.ref a=>do
    match(←load a).data with
     |Data.seq xs _=>pure xs.toList
     |_=>unsupported "internal:collect"
   |_=>unsupported "internal:collect") Q E {s with heap:=h',toks:=tk}:=fun h' tk acc' c' hk hS' hacc=>by
  show Nf _ A (load s.heap.objs.size>>=_) _ _ _;refine M7 (wpAny_load hS' ?_);exact M8 (hQ h' tk acc' (fun b o e=>hk b o (MR (Nc.lt_size e)) (Nc.get?_push_of_some _ e)) hacc)
 refine M9 (wpAny_extend_range (A:=A) (R:=fun r s'=>r= .ok (.ret (.ref s.heap.objs.size))/\Nf (model prog w) A (match MX.ref s.heap.objs.size with
   |MX.ref a=>do
    match(←load a).data with
     |Data.seq xs _=>pure xs.toList
     |_=>unsupported "internal:collect"
   |_=>unsupported "internal:collect") Q E s') (s:={s with heap:=s.heap.push {cls:= .type "list",data:= .seq ([]:List MX).toArray}}) hh (Nc.get?_push_of_some _ hr) hsmall hn hlen _ (.ref s.heap.objs.size) 0 hS fun h' tk acc' c' hk hS' hacc=>⟨rfl,fin' h' tk acc' c' hk hS' hacc⟩) (fun fin s' h=>?_) (fun e s' h=>?_)
 .cases fin with
  |done f=>
   obtain⟨e,q⟩:=h;cases e;exact q
  |again c'=>exact⟨h.1,codeAny_mono h.2 fun r s'' hr=>by obtain⟨rfl,q⟩:=hr;exact q⟩
 .exact absurd h.1 (by simp)
theorem iP{r:MY}{a b c:Int}{t u v:Tok}{n:Nat}(hsmall:Ni.Range.small a b c=true)(hn:Ni.Range.rangeSize a b c=n)(hlen:n<=2^24):
  Meets (Ni.«tuple.__new__» ⟨[.type "tuple",.ref r],[]⟩)
   (fun A R s=>A.handled=none/\IsRange s.heap r a b c t u v/\∀(h':Nc)(tk:Nat)(acc:Array MX),(∀b o,s.heap.get? b=some o->h'.get? b=some o)->ItemsOf (fun i v=>∃t,v= .int (a+i*c) t) acc n->
    R (.ok (.ret (.ref h'.objs.size))) {s with heap:=h'.push {cls:= .type "tuple",data:= .seq acc},toks:=tk}):=
 .of_wp fun prog w A R s h=>by
  obtain⟨hp,g,d,tk,os⟩:=s;obtain⟨hh,hr,h⟩:=h;have hsub:=sub_tuple_self;have hinit:=init_tuple_lookup;have hmh:=madeHere_tuple;have hT:MZ.TypeIs ⟨hp,g,d,tk,os⟩ (.ref r) "range" :=⟨_,hr,rfl⟩;have hh1:A.in1.handled=none:=hh
  wp_walk using wpAny_typeOf hT,pP hh1 hr hsmall hn hlen
  intro h' tk acc hk hacc;have hsz:acc.size<=M5:=by rw[hacc.1];exact MS hlen (by decide)
  show Nf _ _ (Ni.Tuple.tupleExact acc.toList.toArray>>=fun v=>ret v) _ _ _;unfold Ni.Tuple.tupleExact;refine M7 (wpAny_newObj_type ?_ (show acc.toList.toArray.size<=M5 by simpa using hsz));refine M8 ⟨_,rfl,?_⟩;have e:acc.toList.toArray=acc:=by simp
  rw[e];exact h h' tk acc hk hacc
theorem lZ{Q:MX->MZ->Prop}{r:MY}{a b c:Int}{t u v:Tok}{n:Nat}(hh:A.handled=none)(hr:IsRange s.heap r a b c t u v)(hsmall:Ni.Range.small a b c=true)
  (hn:Ni.Range.rangeSize a b c=n) (hlen:n<=2^24)
  (h:∀(h':Nc)(tk:Nat)(acc:Array MX),(∀b o,s.heap.get? b=some o->h'.get? b=some o)->ItemsOf (fun i v=>∃t,v= .int (a+i*c) t) acc n->Q (.ref h'.objs.size) {s with heap:=h'.push {cls:= .type "tuple",data:= .seq acc},toks:=tk}):
  Nf (model prog w) A (call (.type "tuple") [.ref r]) Q E s:=by
 refine callType_new F.called_tuple (by decide) (F.typeCall_tuple_1 _) (F.newCall_tuple_1 _) (fun obj=>F.args_object_init_2 obj _) F.entry_tuple_new
  (iP hsmall hn hlen) ⟨hh,hr,fun h' tk acc hk hacc=>⟨⟨_,Nc.get?_push_size _ rfl,rfl⟩,?_⟩⟩
 exact h h' tk acc hk hacc
end
section
variable{X:Cx}
def yv:List V->Hp->VK->Prop:=fun xs H Q=>∃p i j,xs=[.ref p]/\H p=some (.m6 i j)/\-1000000<=i/\i<=1000000/\-1000000<=j/\j<=1000000/\∀l,H l=none->Q (.ref l) (upd H l (.tup ((bK i j).map V.int)))
theorem dU(hc:X.calm=true):bY X (.type "tuple") yv:=by
 intro pins s σ H xs us Q I r h;obtain⟨p,i,j,rfl,hp,h1,h2,h3,h4,q⟩:=h;obtain⟨u,rfl,rx⟩:=vals1 r;cases rx;obtain⟨t,t',t'',e⟩:=(show bF X.prog X.w H s.heap p (.m6 i j)from I.aX p _ hp);refine lZ (I.ok.hd hc) e (small_one (by lia) (by lia) (by lia) (by lia)) uq (size_le h1 h2 h3 h4) fun h' tk acc k it=>?_;have v:=oY it;have I1:Inv X pins σ H {s with heap:=h',toks:=tk}:=I.kept k;refine⟨.ref h'.objs.size,_,I1.laid (t':=tk) (o:= .tup ((bK i j).map V.int)) (fun b o e=>Nc.get?_push_of_some _ e) (MP _) ⟨?_,acc.toList,v,by simpa using IsTup.new h' acc⟩,rfl,q _ (I1.aX.fresh (MP _))⟩;rw[Mu,aB];exact MS (size_le h1 h2 h3 h4) (by decide)
def JW(K:W.Frag)(x:V)(H:Hp)(T:String):Prop:=jX K H x (.type T)
def IW(K:W.Frag):List V->Hp->VK->Prop:=fun xs H Q=>∃x T C b,xs=[x,.ty C]/\JW K x H T/\W.kitOne K (.type T) (.type C)=some b/\Q (.bl b) H
theorem AS:bY X (.builtin "isinstance") (IW X.K):=by
 intro pins s σ H xs us Q I r h;obtain⟨x,T,C,b,rfl,ty,e,q⟩:=h;obtain⟨u,w',rfl,rx,ry⟩:=vals2 r;cases(show w'=MX.type C from ry);exact yX I rx ty e fun tk=>⟨.bl b,H,I.tok _,rfl,q⟩
theorem A4(K:W.Frag)(T:String):W.kitOne K (.type T) (.type T)=some true:=by
 unfold W.kitOne;rw[if_pos (beq_self_eq_true _)]
def Jm(K:W.Frag):List V->Hp->VK->Prop:=fun xs H Q=>∃(p:MY)(bs:List Bool),xs=[.ref p]/\aJ K H p (bs.map V.bl)/\Q (.bl (bs.all id)) H
theorem ik:∀{bs:List Bool}{us:List MX},Vals (bs.map V.bl) us->us=bs.map MX.bool
 |[],us,r=>by cases r;rfl
 |b::r,us,h=>by
  cases h with
  |cons h1 h2=>
   rw[MA,←ik h2];rw[show _=MX.bool b from h1]
theorem C0(hc:X.calm=true):bY X (.builtin "all") (Jm X.K):=by
 intro pins s σ H xs us Q I r h;obtain⟨p,bs,rfl,hl,q⟩:=h;obtain⟨u,rfl,rx⟩:=vals1 r;cases rx;obtain⟨its,rv,pl,hz⟩:=I.list hl;have e:=ik rv;subst e;refine call_all_walk (wpAny_pyIter_list pl.isList ?_);have lt:p<s.heap.objs.size:=by obtain⟨o,n,e,_⟩:=pl;exact Nc.lt_size e
 refine⟨s.heap.objs.size,_,_,_,_,_,fun i=>bs.getD i true,rfl,Walks.list (A:=X.A.in1) (show X.A.in1.handled=none from I.ok.hd hc) s.heap.objs.size p (MR lt) (bs.map MX.bool).toArray,?_,?_,?_⟩
 .refine⟨⟨_,Nc.get?_push_size _ rfl,rfl,rfl⟩,pl.isList.at fun o e=>Nc.get?_push_of_some _ e⟩
 .intro i v s' Q' E' hP hQ'
  have hP:(bs.map MX.bool).toArray[i]?=some v:=hP;have:(bs.map MX.bool)[i]?=some v:=by simpa using hP
  rw[Mv]at this
  cases hb:bs[i]? with
  |none=>rw[hb]at this;cases this
  |some b=>
   rw[hb]at this;cases this;have hg:bs.getD i true=b:=by rw[ME,hb];rfl
   have hQ':Q' (bs.getD i true) s':=hQ';rw[hg]at hQ';exact wpAny_truthy_bool hQ'
 .intro h' tk hk
  have e:(List.range (bs.map MX.bool).toArray.size).all (fun i=>bs.getD i true)=bs.all id:=by
   have:∀(l:List Bool),(List.range l.length).all (fun i=>l.getD i true)=l.all id:=by
    intro l
    induction l with
    |nil=>rfl
    |cons b r ih=>
     rw[Mz,List.range_succ_eq_map,List.all_cons,List.all_cons,List.all_map];rw[←ih];rfl
   simpa using this bs
  rw[e];refine⟨.bl (bs.all id),H,?_,rfl,q⟩;refine(I.kept (t':=s.toks) (h':=h') fun b o e=>hk b o ?_ (Nc.get?_push_of_some _ e)).tok tk;intro z;have z:b=s.heap.objs.size:=by simpa using z
  exact absurd (Nc.lt_size e) (by rw[z];exact Nat.lt_irrefl _)
end
structure FnAt(P:M0)(w:M3)(K:W.Frag)(mg:Str->Option MX)(base:Nc)(x:Str)(k:Nat)(ps:List Str)(sp:Sp):Prop where
 ex:∃(f:MY)(fd:Nb),aR P w K mg base gh k f fd ps sp/\mg x=some (.ref f)/\W.keepIn K (.ref f)=true/\Binds K fd ps []
section
variable{X:Cx}{x:Str}{k:Nat}{ps:List Str}{sp:Sp}{e:Expr}{es:List Expr}{t:TA}{p pos:Pos}
theorem au(F:FnAt X.prog X.w X.K X.mg X.base x k ps sp)(hr:df k X.A)(hg:Gl X x)(ha:PA X (e::es) t)(hdb:(x==("__debug__" :Str))=false:=by decide+kernel)(he:Na (e::es) X.env=(false,eval e X.env)::Na es X.env:=by rfl)(hpl:(Nd pos (Na es X.env)).any (·.1)=false:=by rfl):
  PE X (.Call (.Name x p) (e::es) [] pos) (tS sp [] E0 t):=by
 obtain⟨f,fd,F,hm,hk,hb⟩:=F.ex;exact ye F hr hg hm hk hb .nil FQ ha hdb he hpl
def Jz(i j:Int):Prop:=0<j/\j<2^200
theorem log2_lt{j:Int}(h:0<j)(h2:j<2^200):j.natAbs.log2<9000:=by
 have h3:j.natAbs<2^200:=by
  have e:((j.natAbs:Nat):Int)=j:=Int.natAbs_of_nonneg (Int.le_of_lt h);have:((j.natAbs:Nat):Int)<((2^200:Nat):Int):=by rw[e];simpa using h2
  exact Int.ofNat_lt.mp this
 have h0:j.natAbs≠0:=by lia
 have:=(Nat.log2_lt h0).mpr h3;lia
theorem uQ:jP X (binaryOp .FloorDiv) (rI Jz fun i j=> .int (i/j)):=Kw fun i j _ _ _ _ _ hc q=>by
 refine floordiv_int (by have:=hc.1;lia) ?_ (.inl (PyProof.noPylong_of_log2 (log2_lt hc.1 hc.2)));rw[Int.fdiv_eq_ediv_of_nonneg _ (Int.le_of_lt hc.1)];exact q
end
def JG(XN N:List Str)(ix:List (Option Nat))(names:List (Str×Nh)):Bool:=
 (List.range ix.length).all fun j=>match ix[j]? with
  |some (some i)=>match N[j]? with
   |some x=>XN[i]?==some x&&names.lookup x==some .free
   |none=>false
  |_=>true
theorem Hl{XN N:List Str}{ix:List (Option Nat)}{names:List (Str×Nh)}(h:JG XN N ix names=true):
  ∀(j i:Nat),ix[j]?=some (some i)->∃x:Str,N[j]?=some x/\XN[i]?=some x/\names.lookup x=some .free/\(x,Nh.free)∈names:=by
 intro j i e;have hj:j<ix.length:=(List.getElem?_eq_some_iff.mp e).1;have q:=List.all_eq_true.mp h j (List.mem_range.mpr hj);rw[e]at q;dsimp only at q
 cases hn:N[j]? with
 |none=>rw[hn]at q;cases q
 |some x=>
  rw[hn]at q;dsimp only at q;obtain⟨q1,q2⟩:=Bool.and_eq_true_iff.mp q;have q1:XN[i]?=some x:=by simpa using q1
  have q2:names.lookup x=some Nh.free:=by
   cases hl:names.lookup x with
   |none=>rw[hl]at q2;cases q2
   |some k=>rw[hl]at q2;cases k<;>first|rfl|cases q2
  exact⟨x,rfl,q1,q2,mem_of_lookup q2⟩
def aN(p:MY)(H H':Hp):Prop:=∀b o,b≠p->H b=some o->H' b=some o
theorem aN.trans {p:MY}{H H1 H2:Hp}(a:aN p H H1)(b:aN p H1 H2):aN p H H2:=fun c o n h=>b c o n (a c o n h)
theorem ah.x {p:MY}{H H':Hp}(a:ah H H'):aN p H H':=fun c o _ h=>a c o h
theorem aN.upd {p:MY}{H:Hp}{o:HO}:aN p H (upd H p o):=fun c o n h=>by rw[aq n];exact h
theorem ah.new {p:MY}{H:Hp}{o:HO}(h:H p=none):ah H (upd H p o):=fun c o e=>by rw[aq (ao e h)];exact e
theorem aN.new {p q:MY}{H:Hp}{o:HO}(h:H q=none):aN p H (L2.upd H q o):=(ah.new h).x
theorem Bb{ix:List (Option Nat)}{g:TG}{tc:TT}{te:TE}{σ:St}{Q:VK}{J:It}{H:Hp}{n:Nat}(Pv:Nat->List V->St->Hp->Prop)(hn:n<=1000000)(h0:Pv 0 [] (dJ ix σ) H)
  (hgo:∀i ys σ H,i<n->Pv i ys σ H->J.go i H) (hst:∀ys σ H,Pv n ys σ H->J.stop n H) (hlen:∀i ys σ H,Pv i ys σ H->ys.length<=i)
  (hs:∀i ys σ H x H2,i<n->Pv i ys σ H->J.FU i H x H2->g x σ H2 fun σ2 H3=>tc σ2 H3 fun b H4=>if b=true then te σ2 H4 fun v H5=>Pv (i+1) (ys++[v]) σ2 H5 else Pv (i+1) ys σ2 H4)
  (mg:∀x σ H R R',(∀σ2 H2,R σ2 H2->R' σ2 H2)->g x σ H R->g x σ H R') (mc:∀σ H(R R':Bool->Hp->Prop),(∀b H2,R b H2->R' b H2)->tc σ H R->tc σ H R') (me:∀σ H(R R':VK),(∀v H2,R v H2->R' v H2)->te σ H R->te σ H R')
  (hd:∀ys σ' H' p,Pv n ys σ' H'->H' p=none->Q (.ref p) (upd H' p (.lst ys))):fz ix g tc te σ Q J H:=by
 have big:(1000000:Nat)<M5:=by decide
 refine⟨fun i m ys σ' H'=>m=n-i/\i<=n/\Pv i ys σ' H',⟨n,by simp,MT _,h0⟩,?_⟩;rintro i m ys σ' H' ⟨rfl,hi,p⟩;have hl:=hlen i ys σ' H' p;by_cases hlt:i<n
 .refine .inr ⟨hgo i ys σ' H' hlt p,by lia,fun x H2 y=>?_⟩
  refine mg _ _ _ _ _ (fun σ2 H3 q=>?_) (hs i ys σ' H' x H2 hlt p y);refine mc _ _ _ _ (fun b H4 q=>?_) q
  cases b with
  |true=>
   rw[if_pos rfl]at q⊢;exact me _ _ _ _ (fun v H5 q=>⟨n-(i+1),by lia,rfl,hlt,q⟩) q
  |false=>
   rw[if_neg MU]at q⊢;exact⟨n-(i+1),by lia,rfl,hlt,q⟩
 .have e:i=n:=by lia
  subst e;exact .inl ⟨hst ys σ' H' p,by lia,fun q hq=>hd ys σ' H' q p hq⟩
theorem zm{K:W.Frag}{ix:List (Option Nat)}{te:TE}{σ:St}{Q:VK}{H:Hp}{a:MY}{xs:List V}{k:Nat}(Pv:Nat->List V->St->Hp->Prop)(hn:xs.length<=1000000)(h0:Pv 0 [] (dJ ix σ) H)
  (hl:∀i ys σ H,i<=xs.length->Pv i ys σ H->aJ K H a xs) (hlen:∀i ys σ H,Pv i ys σ H->ys.length<=i)
  (hs:∀i ys σ H x,xs[i]?=some x->Pv i ys σ H->te (σ.set k (some x)) H fun v H5=>Pv (i+1) (ys++[v]) (σ.set k (some x)) H5) (me:∀σ H(R R':VK),(∀v H2,R v H2->R' v H2)->te σ H R->te σ H R')
  (hd:∀ys σ' H' p,Pv xs.length ys σ' H'->H' p=none->Q (.ref p) (upd H' p (.lst ys))):fz ix (cF k) dS te σ Q (Dd K a) H:=by
 refine Bb Pv hn h0 (fun i ys σ H hi p=>⟨xs,xs[i],hl i ys σ H (Nat.le_of_lt hi) p,by simp[hi]⟩) (fun ys σ H p=>⟨xs,hl _ ys σ H (MP _) p,MP _⟩) hlen (fun i ys σ H x H2 hi p y=>?_) (fun _ _ _ _ _ m q=>m _ _ q) (fun _ _ _ _ m q=>m _ _ q) me hd;obtain⟨rfl,y⟩:=y;unfold cF dS;simp only[if_true];exact hs i ys σ _ x (y xs (hl i ys σ _ (Nat.le_of_lt hi) p)) p
def Ft(XS:List (Str×Nh))(XN:List Str)(names:List (Str×Nh))(N:List Str)(ix:List (Option Nat)):Bool:=
 names.all (fun y=>match y.2 with
  | .cell=>false
  | .local=>(match names.lookup y.1 with|some .local=>true|_=>false)
  | .free=>(match XS.lookup y.1 with|some .cell=>true|some .free=>true|_=>false)
  |_=>true)&&decide (ix.length=N.length)&&JG XN N ix names
theorem aT{X:Cx}{scope:Scope}{N:List Str}{ix:List (Option Nat)}(hk:scope.kind= .function)(h:Ft X.env.scope.names X.N scope.names N ix=true):fj X scope N ix:=by
 unfold Ft at h;obtain⟨h,h3⟩:=Bool.and_eq_true_iff.mp h;obtain⟨h1,h2⟩:=Bool.and_eq_true_iff.mp h;have all:∀y∈scope.names,_:=fun y hy=>List.all_eq_true.mp h1 y hy;refine⟨hk,fun y hy e=>?_,of_decide_eq_true h2,fun y hy e=>?_,fun y hy e=>?_,Hl h3⟩
 .have q:=all y hy
  rw[e]at q;cases q
 .have q:=all y hy
  rw[e]at q;dsimp only at q
  cases hl:scope.names.lookup y.1 with
  |none=>rw[hl]at q;cases q
  |some k=>rw[hl]at q;cases k<;>first|rfl|cases q
 .have q:=all y hy
  rw[e]at q;dsimp only at q;show X.env.scope.names.lookup y.1=_\/X.env.scope.names.lookup y.1=_
  cases hl:X.env.scope.names.lookup y.1 with
  |none=>rw[hl]at q;cases q
  |some k=>rw[hl]at q;cases k<;>first|exact .inl rfl|exact .inr rfl|cases q
section
variable{X:Cx}{K:W.Frag}
theorem gH(h:X.K=K):bY X (.builtin "isinstance") (IW K):=by subst h;exact AS
theorem az(h:X.K=K):IC X (EK K):=by subst h;exact Dg
theorem ju(h:X.K=K):IC X (IJ K):=by subst h;exact GF
theorem aL(h:X.K=K):bY X (.builtin "len") (fun xs H Q=>∃p ys,xs=[.ref p]/\(aJ K H p ys\/dI K H p ys)/\Q (.int ys.length) H):=by subst h;exact sk
theorem lT(h:X.K=K)(hc:X.calm=true):bY X (.builtin "all") (Jm K):=by subst h;exact C0 hc
theorem y9(h:X.K=K):jP X (compareOp .NotIn) (Lu K true):=by subst h;exact rJ
theorem a6{tg l:Expr}{tl:TE}(h:X.K=K)(hl:PE X l tl):PI X tg l (AU K tl):=by subst h;exact E7 hl
theorem xN{tg l:Expr}{tl:TE}(h:X.K=K)(hl:PE X l tl):PI X tg l (J7 K tl):=by subst h;exact HD hl
theorem cx{es:List Expr}{k:Nat}{t:Fo}{n:Nat}{pos:Pos}(hk:X.K=K)(hc:X.calm=true)(h:Jw X es t)
  (hn:(assignEach es X.env).length=n:=by rfl) (hst:(assignEach es X.env).findIdx? (·.1)=none:=by rfl):PG X (.Tuple es k pos) (DQ K n t):=by subst hk;exact GP hc h hn hst
end
end L2
namespace Sw
open PySem L2
inductive dD(H:Hp):List V->List (Int×Int)->Prop
 |nil:dD H [] []
 |cons {t:MY} {a b:Int} {vs:List V} {r:List (Int×Int)}:H t=some (.tup [.int a,.int b])->dD H vs r->dD H (.ref t::vs) ((a,b)::r)
theorem dD.length {H:Hp}:∀{vs:List V}{r:List (Int×Int)},dD H vs r->vs.length=r.length
 |_,_,.nil=>rfl
 |_,_,.cons _ x=>by rw[Mz,Mz,x.length]
theorem dD.keep {H H':Hp}(k:∀b xs,H b=some (.tup xs)->H' b=some (.tup xs)):∀{vs:List V}{r:List (Int×Int)},dD H vs r->dD H' vs r
 |_,_,.nil=> .nil
 |_,_,.cons h x=> .cons (k _ _ h) (x.keep k)
theorem dD.append {H:Hp}:∀{vs ws:List V}{r q:List (Int×Int)},dD H vs r->dD H ws q->dD H (vs++ws) (r++q)
 |_,_,_,_,.nil,y=>y
 |_,_,_,_,.cons h x,y=> .cons h (x.append y)
theorem dD.snoc {H:Hp}{vs:List V}{r:List (Int×Int)}{t:MY}{a b:Int}(x:dD H vs r)(h:H t=some (.tup [.int a,.int b])):dD H (vs++[.ref t]) (r++[(a,b)]):=x.append (.cons h .nil)
theorem dD.get {H:Hp}:∀{vs:List V}{r:List (Int×Int)}{i:Nat}{x:V},dD H vs r->vs[i]?=some x->∃t a b,x= .ref t/\H t=some (.tup [.int a,.int b])/\r[i]?=some (a,b)
 |_,_,_,_,.nil,e=>by simp at e
 |_,_,0,_,.cons h x,e=>by simp at e;subst e;exact⟨_,_,_,rfl,h,rfl⟩
 |_,_,i+1,_,.cons h x,e=>by
  obtain⟨t,a,b,e1,e2,e3⟩:=x.get (i:=i) (by simpa using e);exact⟨t,a,b,e1,e2,by simpa using e3⟩
theorem dD.dat {K:W.Frag}{H:Hp}:∀{vs:List V}{r:List (Int×Int)},dD H vs r->DatAll K H (fun _=>True) vs (r.map fun p=> .tuple [.int p.1,.int p.2])
 |_,_,.nil=> .nil
 |_,_,.cons h x=> .cons (.tup (dI.of h) True.intro (.cons (.int _) (.cons (.int _) .nil))) x.dat
theorem ah.bH {H H':Hp}(s:ah H H'):∀b xs,H b=some (.tup xs)->H' b=some (.tup xs):=fun b xs e=>s b _ e
theorem aN.bH {p:MY}{H H':Hp}{ys:List V}(s:aN p H H')(hp:H p=some (.lst ys)):∀b xs,H b=some (.tup xs)->H' b=some (.tup xs):=fun b xs e=>s b _ (Ce e hp (by intro z;cases z)) e
theorem vj{K:W.Frag}{H:Hp}{P:MY->Prop}:∀(ns:List Int),DatAll K H P (ns.map V.int) (ns.map PyData.int)
 |[]=> .nil
 |n::r=> .cons (.int n) (vj r)
theorem yG{K:W.Frag}{H:Hp}{t:MY}{ns:List Int}(h:H t=some (.tup (ns.map V.int))):Dat K H (fun _=>True) (.ref t) (.tuple (ns.map PyData.int)):= .tup (dI.of h) True.intro (vj ns)
theorem lay_ints:∀(ns:List Int),PyData.canLayAll0 (ns.map PyData.int)=true
 |[]=>rfl
 |n::r=>by rw[MA];unfold PyData.canLayAll0;rw[lay_ints r];rfl
theorem yo(ns:List Int):(PyData.tuple (ns.map PyData.int)).canLay0=true:=by unfold PyData.canLay0;exact lay_ints ns
theorem pC:∀(ns:List Int),PyData.depthAll (ns.map PyData.int)=0
 |[]=>by simp[PyData.depthAll]
 |n::r=>by rw[MA];unfold PyData.depthAll;rw[pC r];simp[PyData.depth]
theorem zP(ns:List Int):(PyData.tuple (ns.map PyData.int)).depth<=60:=by unfold PyData.depth;rw[pC ns];decide
theorem vi:∀(ns ms:List Int),PyData.eqvAll (ns.map PyData.int) (ms.map PyData.int)=decide (ns=ms)
 |[],[]=>by simp[PyData.eqvAll]
 |[],m::r=>by simp[PyData.eqvAll]
 |n::r,[]=>by simp[PyData.eqvAll]
 |n::r,m::q=>by
  rw[MA,MA];unfold PyData.eqvAll;rw[vi r q];simp[PyData.eqv];by_cases h1:n=m<;>by_cases h2:r=q<;>simp[h1,h2]
theorem Ee(ns ms:List Int):PyData.eqv (.tuple (ns.map PyData.int)) (.tuple (ms.map PyData.int))=decide (ns=ms):=by unfold PyData.eqv;exact vi ns ms
theorem sT:∀(r:List (Int×Int)),PyData.canLayAll0 (r.map fun p=>PyData.tuple [.int p.1,.int p.2])=true
 |[]=>rfl
 |p::r=>by rw[MA];unfold PyData.canLayAll0;rw[sT r];rfl
theorem qZ:∀(r:List (Int×Int)),PyData.depthAll (r.map fun p=>PyData.tuple [.int p.1,.int p.2])<=1
 |[]=>by simp[PyData.depthAll]
 |p::r=>by
  rw[MA];unfold PyData.depthAll;have:=qZ r;simp[PyData.depth,PyData.depthAll];lia
theorem xY:∀(r q:List (Int×Int)),PyData.eqvAll (r.map fun p=>PyData.tuple [.int p.1,.int p.2]) (q.map fun p=>PyData.tuple [.int p.1,.int p.2])=decide (r=q)
 |[],[]=>by simp[PyData.eqvAll]
 |[],m::r=>by simp[PyData.eqvAll]
 |n::r,[]=>by simp[PyData.eqvAll]
 |(a,b)::r,(c,d)::q=>by
  rw[MA,MA];unfold PyData.eqvAll;rw[xY r q];simp[PyData.eqv,PyData.eqvAll];by_cases h1:a=c<;>by_cases h2:b=d<;>by_cases h3:r=q<;>simp[h1,h2,h3]
theorem eqT{K:W.Frag}{H:Hp}{t u:MY}{ns ms:List Int}{Q:VK}(h1:H t=some (.tup (ns.map V.int)))(h2:H u=some (.tup (ms.map V.int)))(q:Q (.bl (!decide (ns=ms))) H):Fd K (.ref t) (.ref u) H Q:=
 ⟨_,_,_,yG h1,yG h2,yo _,yo _,zP _,by rw[Ee];exact q⟩
theorem Mm{K:W.Frag}{H:Hp}{l m:MY}{vs ws:List V}{r q:List (Int×Int)}{Q:VK}(h1:H l=some (.lst vs))(x1:dD H vs r)(h2:H m=some (.lst ws))(x2:dD H ws q)(hq:Q (.bl (!decide (r=q))) H):Fd K (.ref l) (.ref m) H Q:=by
 refine⟨fun _=>True,.list (r.map fun p=>PyData.tuple [.int p.1,.int p.2]),.list (q.map fun p=>PyData.tuple [.int p.1,.int p.2]),.lst (aJ.of h1) True.intro x1.dat,.lst (aJ.of h2) True.intro x2.dat,?_,?_,?_,?_⟩
 .unfold PyData.canLay0;exact sT r
 .unfold PyData.canLay0;exact sT q
 .unfold PyData.depth;have:=qZ r;lia
 .have e:PyData.eqv (.list (r.map fun p=>PyData.tuple [.int p.1,.int p.2])) (.list (q.map fun p=>PyData.tuple [.int p.1,.int p.2]))=decide (r=q):=by unfold PyData.eqv;exact xY r q
  rw[e];exact hq
def aQ(x:Int)(e:Int×Int):Int:=if x=e.1 then e.2 else if x=e.2 then e.1 else x
def go(row:List (Int×Int))(x:Int):Int:=row.foldl aQ x
def bp(n:Int)(row:List (Int×Int)):List Int:=(bK 1 (n+1)).map (go row)
def Good(n:Int)(row:List (Int×Int)):Prop:=∀e∈row,1<=e.1/\e.1<e.2/\e.2<=n
theorem Good.reverse {n:Int}{r:List (Int×Int)}(a:Good n r):Good n r.reverse:=fun e h=>a e (List.mem_reverse.mp h)
theorem oN{n x:Int}{e:Int×Int}(h:1<=e.1/\e.1<e.2/\e.2<=n)(h1:1<=x)(h2:x<=n):1<=aQ x e/\aQ x e<=n:=by
 unfold aQ;split
 .lia
 .split<;>lia
theorem gk(x:Int)(e:Int×Int):aQ (aQ x e) e=x:=by
 unfold aQ;by_cases h1:x=e.1
 .rw[if_pos h1]
  by_cases h2:e.2=e.1
  .rw[if_pos h2];lia
  .rw[if_neg h2,if_pos rfl];exact h1.symm
 .rw[if_neg h1]
  by_cases h2:x=e.2
  .rw[if_pos h2,if_pos rfl];exact h2.symm
  .rw[if_neg h2,if_neg h1,if_neg h2]
theorem Cg{n:Int}:∀{row:List (Int×Int)}{x:Int},Good n row->1<=x->x<=n->1<=go row x/\go row x<=n
 |[],_,_,h1,h2=>⟨h1,h2⟩
 |e::r,x,g,h1,h2=>by
  have h:=oN (g e MG) h1 h2;exact Cg (row:=r) (fun e h=>g e (MH _ h)) h.1 h.2
theorem fI(r q:List (Int×Int))(x:Int):go (r++q) x=go q (go r x):=by unfold go;rw[List.foldl_append]
theorem nX:∀(r:List (Int×Int))(x:Int),go r.reverse (go r x)=x
 |[],_=>rfl
 |e::r,x=>by
  rw[List.reverse_cons,fI];show go [e] (go r.reverse (go r (aQ x e)))=x;rw[nX r];exact gk x e
theorem BV(r:List (Int×Int))(x:Int):go r (go r.reverse x)=x:=by
 have:=nX r.reverse x;rwa [List.reverse_reverse]at this
theorem bj{lo hi x:Int}:x∈bK lo hi↔lo<=x/\x<hi:=by
 unfold bK;rw[List.mem_map];constructor
 .rintro⟨i,h,rfl⟩
  have:=List.mem_range.mp h;lia
 .intro h
  exact⟨(x-lo).toNat,List.mem_range.mpr (by lia),by lia⟩
theorem bR{lo hi:Int}{i:Nat}(h:i<(hi-lo).toNat):(bK lo hi)[i]?=some (lo+i):=by
 unfold bK;rw[Mv,List.getElem?_range h];rfl
theorem t7(n:Int)(row:List (Int×Int)):(bp n row).length=n.toNat:=by
 unfold bp;rw[Mu,aB];lia
theorem AM{n:Int}{row:List (Int×Int)}{i:Nat}(h:i<n.toNat):(bp n row)[i]?=some (go row (1+i)):=by
 unfold bp;rw[Mv,bR (by lia)];rfl
theorem A9{n:Int}{row:List (Int×Int)}(g:Good n row){x:Int}(h:x∈bp n row):1<=x/\x<=n:=by
 obtain⟨y,hy,rfl⟩:=List.mem_map.mp h;have:=bj.mp hy;exact Cg g (by lia) (by lia)
theorem oj(n:Int):bp n []=bK 1 (n+1):=by
 unfold bp
 conv=>rhs;rw[←List.map_id (bK 1 (n+1))]
 apply List.map_congr_left;intro x _;rfl
end Sw
namespace L2
open PySem PySem.Spec PyProof.Rows
open AutoSeq1 (wpAny_loadPart')
theorem lV(a b:MX):checkTypeCall "enumerate" ⟨[a],[(Mt "start",b)]⟩=pure ():=by kernel_rfl
theorem nv(a b:MX):checkBuiltinCall "enumerate.__new__" ⟨[.type "enumerate",a],[(Mt "start",b)]⟩=pure ():=by kernel_rfl
theorem rR(o a b:MX):argsOk "object.__init__" ⟨[o,a],[(Mt "start",b)]⟩:=by unfold argsOk;kernel_rfl
theorem pT{T newId:String}{self a:MX}{kw:List (Str×MX)}(hl:typeLookup (.type T) "__init__" =pure (some (.builtin "object.__init__")))
  (hm:Bind.madeBy (.type T)=pure (some newId)) (hne:(some newId !=some "object.__new__")=true):
  Meets (Ni.«object.__init__» ⟨[self,a],kw⟩) (fun _ R s=>s.TypeIs self T/\R (.ok (.ret .none)) s):=by
 refine Meets.of_wp fun prog w A R s hs=>?_;obtain⟨hT,hq⟩:=hs
 repeat(any_goals(first|assumption|wp_step))
 exact⟨_,rfl,hq⟩
section
variable{X:Cx}{pins:List (MY×Obj)}{σ:St}{H:Hp}{s:MZ}{h':Nc}
theorem Inv.nP {t':Nat}{fp:List MY}(I:Inv X pins σ H s)(k:∀b o,b∉fp->s.heap.get? b=some o->h'.get? b=some o)(hf:∀b∈fp,iK X pins H b):Inv X pins σ H {s with heap:=h',toks:=t'}:=by
 have nit:∀b u,H b=some u->b∉fp:=fun b u e z=>by rw[(hf b z).1]at e;cases e
 refine I.step (g':=s.gens) (d':=s.drawn) (ch:=fp) (fun b hb=>?_) (fun b o _ _ hc e _=>k b o hc e) (fun b o _ _ hc e _=>⟨o.slots,k b o hc e⟩) (fun _ _ _ _ n=>n)
  (fun b o hc e=>⟨o,k b o hc e⟩) (fun _ _ e=>e) (fun _ _ _ e=>e) (fun b ps e=>⟨#[],by rw[e];simp⟩) (fun m hm=>?_) (fun b u e=>?_) I.bare
 .obtain⟨f0,f1,f2,f3,f4,f5⟩:=hf b hb
  exact⟨f3,f1,f4,f5⟩
 .obtain⟨o,es,ep,ho,r⟩:=hm
  exact⟨o,es,ep,k _ o (fun z=>(hf _ z).2.1 rfl) ho,r⟩
 .refine(I.aX b u e).gM (fun c v hc q=>k c v ?_ q) (fun _ q=>q) fun _ _ q=>q
  rcases hc with z|z
  .rw[z];exact nit b u e
  .exact nit c _ z
theorem Inv.xU {T:MY}{o:HO}(I:Inv X pins σ H s)(hf:iK X pins H T)(new:bF X.prog X.w (upd H T o) s.heap T o):Inv X pins σ (upd H T o) s:=by
 obtain⟨f0,f1,f2,f3,f4,f5⟩:=hf;have:=I.step (h':=s.heap) (H':=upd H T o) (g':=s.gens) (d':=s.drawn) (t':=s.toks) (ch:=[T]) (fun b hb=>by
  have e:b=T:=by simpa using hb
  subst e;exact⟨f3,f1,f4,f5⟩) (fun b o _ _ _ e _=>e) (fun b o _ _ _ e _=>⟨o.slots,e⟩) (fun b o hc _ n=>by rw[aq (fun z=>hc (by simp[z]))];exact n)
  (fun b o _ e=>⟨o,e⟩) (fun b xs e=>by rw[aq (ao e f0)];exact e) (fun b o u e=>by rw[aq (ao e f0)];exact e) (fun b ps e=>⟨#[],by rw[aq (ao e f0),e];simp⟩) (fun m hm=>hm) (fun b u e=>?_) I.bare
 .exact this
 .by_cases hb:b=T
  .subst hb
   rw[ae]at e;cases e;exact new
  .rw[aq hb]at e
   refine(I.aX b u e).gM (fun _ _ _ q=>q) (fun c q=>?_) fun c xs q=>?_
   .rw[aq (ao q f0)];exact q
   .rw[aq (ao q f0)];exact q
end
theorem mq{M:Model}{A:M4}{E:MX->MZ->Prop}{s:MZ}{pos:Pos}{T:String}{args:List (Bool×Sem MX)}{kws:List (Option Str×Sem MX)}{Q:MX->MZ->Prop}(hplain:args.any (·.1)=false)(hkw:kws.any (·.1.isNone)=false)
  (h:Nf M A (evalArgs (.type T) true args kws) (fun a s₁=>Nf M A (call (.type T) a.pos a.kw) Q E s₁) E s):Nf M A (callWith pos (.type T) [] args kws) Q E s:=by
 unfold callWith;refine M7 (wpAny_holding (M9 h (fun a s₁ h₁=>M7 (wpAny_standAt ?_)) fun _ _ x=>x));simp only[hplain,hkw,Bool.or_false];refine M7 (M8 ?_);exact M7 (M9 h₁ (fun r s₂ hr=>M7 (wpAny_holding (wpAny_point (M8 hr)))) fun _ _ x=>x)
theorem fZ{ix:List (Option Nat)}{g:TG}{tc:TT}{te:TE}{σ:St}{Q:VK}{J:It}{H:Hp}{n:Nat}(Pv:Nat->List V->St->Hp->Prop)(hn:n<=1000000)(h0:Pv 0 [] (dJ ix σ) H)
  (hgo:∀i ys σ H,i<n->Pv i ys σ H->J.go i H) (hst:∀ys σ H,Pv n ys σ H->J.stop n H) (hlen:∀i ys σ H,Pv i ys σ H->ys.length<=i)
  (hs:∀i ys σ H x H2(R:St->List V->Hp->Prop),i<n->Pv i ys σ H->J.FU i H x H2->(∀σ2 ys2 H5,Pv (i+1) ys2 σ2 H5->R σ2 ys2 H5)->
   g x σ H2 fun σ2 H3=>tc σ2 H3 fun b H4=>if b=true then te σ2 H4 fun v H5=>R σ2 (ys++[v]) H5 else R σ2 ys H4)
  (hd:∀ys σ' H' p,Pv n ys σ' H'->H' p=none->Q (.ref p) (upd H' p (.lst ys))):fz ix g tc te σ Q J H:=by
 have big:(1000000:Nat)<M5:=by decide
 refine⟨fun i m ys σ' H'=>m=n-i/\i<=n/\Pv i ys σ' H',⟨n,by simp,MT _,h0⟩,?_⟩;rintro i m ys σ' H' ⟨rfl,hi,p⟩;have hl:=hlen i ys σ' H' p;by_cases hlt:i<n
 .refine .inr ⟨hgo i ys σ' H' hlt p,by lia,fun x H2 y=>?_⟩
  exact hs i ys σ' H' x H2 (fun σ2 ys2 H5=>∃m',m'<n-i/\(m'=n-(i+1)/\i+1<=n/\Pv (i+1) ys2 σ2 H5)) hlt p y fun σ2 ys2 H5 q=>⟨n-(i+1),by lia,rfl,hlt,q⟩
 .have e:i=n:=by lia
  subst e;exact .inl ⟨hst ys σ' H' p,by lia,fun q hq=>hd ys σ' H' q p hq⟩
theorem jU{K:W.Frag}{ix:List (Option Nat)}{te:TE}{σ:St}{Q:VK}{H:Hp}{a:MY}{xs:List V}{k:Nat}(Pv:Nat->List V->St->Hp->Prop)(hn:xs.length<=1000000)(h0:Pv 0 [] (dJ ix σ) H)
  (hl:∀i ys σ H,i<=xs.length->Pv i ys σ H->aJ K H a xs) (hlen:∀i ys σ H,Pv i ys σ H->ys.length<=i)
  (hs:∀i ys σ H x(R:St->List V->Hp->Prop),xs[i]?=some x->Pv i ys σ H->(∀σ2 ys2 H5,Pv (i+1) ys2 σ2 H5->R σ2 ys2 H5)->te (σ.set k (some x)) H fun v H5=>R (σ.set k (some x)) (ys++[v]) H5)
  (hd:∀ys σ' H' p,Pv xs.length ys σ' H'->H' p=none->Q (.ref p) (upd H' p (.lst ys))):fz ix (cF k) dS te σ Q (Dd K a) H:=by
 refine fZ Pv hn h0 (fun i ys σ H hi p=>⟨xs,xs[i],hl i ys σ H (Nat.le_of_lt hi) p,by simp[hi]⟩) (fun ys σ H p=>⟨xs,hl _ ys σ H (MP _) p,MP _⟩) hlen (fun i ys σ H x H2 R hi p y r=>?_) hd;obtain⟨rfl,y⟩:=y;unfold cF dS;simp only[if_true];exact hs i ys σ _ x R (y xs (hl i ys σ _ (Nat.le_of_lt hi) p)) p r
theorem Fp{K:W.Frag}{ix:List (Option Nat)}{te:TE}{σ:St}{Q:VK}{H:Hp}{a:MY}{xs:List V}{k:Nat}(Pv:Nat->List V->St->Hp->Prop)(hn:xs.length<=1000000)(h0:Pv 0 [] (dJ ix σ) H)
  (hl:∀i ys σ H,i<=xs.length->Pv i ys σ H->dI K H a xs) (hlen:∀i ys σ H,Pv i ys σ H->ys.length<=i)
  (hs:∀i ys σ H x(R:St->List V->Hp->Prop),xs[i]?=some x->Pv i ys σ H->(∀σ2 ys2 H5,Pv (i+1) ys2 σ2 H5->R σ2 ys2 H5)->te (σ.set k (some x)) H fun v H5=>R (σ.set k (some x)) (ys++[v]) H5)
  (hd:∀ys σ' H' p,Pv xs.length ys σ' H'->H' p=none->Q (.ref p) (upd H' p (.lst ys))):fz ix (cF k) dS te σ Q (Lo K a) H:=by
 refine fZ Pv hn h0 (fun i ys σ H hi p=>⟨xs,xs[i],hl i ys σ H (Nat.le_of_lt hi) p,by simp[hi]⟩) (fun ys σ H p=>⟨xs,hl _ ys σ H (MP _) p,MP _⟩) hlen (fun i ys σ H x H2 R hi p y r=>?_) hd;obtain⟨rfl,y⟩:=y;unfold cF dS;simp only[if_true];exact hs i ys σ _ x R (y xs (hl i ys σ _ (Nat.le_of_lt hi) p)) p r
theorem t6{ix:List (Option Nat)}{te:TE}{σ:St}{Q:VK}{H:Hp}{lo:Int}{n:Nat}{k:Nat}(Pv:Nat->List V->St->Hp->Prop)(hn:n<=1000000)(h0:Pv 0 [] (dJ ix σ) H)(hlen:∀i ys σ H,Pv i ys σ H->ys.length<=i)
  (hs:∀i ys σ H(R:St->List V->Hp->Prop),i<n->Pv i ys σ H->(∀σ2 ys2 H5,Pv (i+1) ys2 σ2 H5->R σ2 ys2 H5)->te (σ.set k (some (.int (lo+i)))) H fun v H5=>R (σ.set k (some (.int (lo+i)))) (ys++[v]) H5)
  (hd:∀ys σ' H' p,Pv n ys σ' H'->H' p=none->Q (.ref p) (upd H' p (.lst ys))):fz ix (cF k) dS te σ Q (FA lo n) H:=by
 refine fZ Pv hn h0 (fun i ys σ H hi p=>hi) (fun ys σ H p=>MP _) hlen (fun i ys σ H x H2 R hi p y r=>?_) hd;obtain⟨rfl,rfl⟩:=y;unfold cF dS;simp only[if_true];exact hs i ys σ _ R hi p r
theorem rD{K:W.Frag}{ix:List (Option Nat)}{tc:TT}{te:TE}{σ:St}{Q:VK}{H:Hp}{a:MY}{xs:List V}{k:Nat}(Pv:Nat->List V->St->Hp->Prop)(hn:xs.length<=1000000)(h0:Pv 0 [] (dJ ix σ) H)
  (hl:∀i ys σ H,i<=xs.length->Pv i ys σ H->aJ K H a xs) (hlen:∀i ys σ H,Pv i ys σ H->ys.length<=i)
  (hs:∀i ys σ H x(R:St->List V->Hp->Prop),xs[i]?=some x->Pv i ys σ H->(∀σ2 ys2 H5,Pv (i+1) ys2 σ2 H5->R σ2 ys2 H5)->
   tc (σ.set k (some x)) H fun b H4=>if b=true then te (σ.set k (some x)) H4 fun v H5=>R (σ.set k (some x)) (ys++[v]) H5 else R (σ.set k (some x)) ys H4)
  (hd:∀ys σ' H' p,Pv xs.length ys σ' H'->H' p=none->Q (.ref p) (upd H' p (.lst ys))):fz ix (cF k) tc te σ Q (Dd K a) H:=by
 refine fZ Pv hn h0 (fun i ys σ H hi p=>⟨xs,xs[i],hl i ys σ H (Nat.le_of_lt hi) p,by simp[hi]⟩) (fun ys σ H p=>⟨xs,hl _ ys σ H (MP _) p,MP _⟩) hlen (fun i ys σ H x H2 R hi p y r=>?_) hd;obtain⟨rfl,y⟩:=y;unfold cF;exact hs i ys σ _ x R (y xs (hl i ys σ _ (Nat.le_of_lt hi) p)) p r
section
variable{X:Cx}{K:W.Frag}{o e:Expr}{es:List Expr}{to:TE}{t:TA}{name:Str}{apos cpos:Pos}{T id:String}{r:V->List V->Hp->VK->Prop}
theorem yt(h:X.K=K)(pa:PlainAttrs T)(slot:Slot T name id)(hty:typeOf (.builtin id)=pure (.type "method_descriptor"))(hm:Aw X id r)(ho:PE X o to)
  (hbase:attributeBase o name X.env (eval o X.env)=eval o X.env:=by rfl) (hline:(apos.endLine==cpos.line)=true:=by rfl):PE X (.Call (.Attribute o name apos) [] [] cpos) (Jn K T r to):=by
 subst h;exact HF pa slot hty hm ho hbase hline
theorem bZ(h:X.K=K)(pa:PlainAttrs T)(slot:Slot T name id)(hty:typeOf (.builtin id)=pure (.type "method_descriptor"))(hm:Aw X id r)(ho:PE X o to)(ha:PA X (e::es) t)
  (hbase:attributeBase o name X.env (eval o X.env)=eval o X.env:=by rfl)
  (hfew:((Nd cpos (Na (e::es) X.env)).all (fun x=> !x.1)&&(backToKw cpos (keywordEach [] X.env)).all (fun x=>x.1.isSome)
   &&decide ((e::es).length+([]:List Keyword).length+(if([]:List Keyword).isEmpty then 0 else 1)<30))=true:=by rfl)
  (hline:(apos.endLine==cpos.line)=true:=by rfl) (hs:Na (e::es) X.env=(false,eval e X.env)::Na es X.env:=by rfl) (hplain:(Nd cpos (Na es X.env)).any (·.1)=false:=by rfl):
  PE X (.Call (.Attribute o name apos) (e::es) [] cpos) (K3 K T r to t):=by
 subst h;exact JH pa slot hty hm ho ha hbase hfew hline hs hplain
theorem bO(h:X.K=K):KD X (Ha K):=by subst h;exact ER
end
end L2
namespace Sw
open PySem L2
theorem bV(a b:Int):(bK a b).Nodup:=by
 unfold bK;refine List.Pairwise.map _ ?_ (List.nodup_range (n:=(b-a).toNat));intro x y h z;apply h;lia
def Ord(n:Int)(xs:List Int):Prop:=xs.Perm (bK 1 (n+1))
theorem Ord.length {n:Int}{xs:List Int}(o:Ord n xs):xs.length=n.toNat:=by
 rw[List.Perm.length_eq o,aB];congr 1;lia
theorem Ord.mem {n:Int}{xs:List Int}(o:Ord n xs){x:Int}:x∈xs↔1<=x/\x<=n:=by
 rw[List.Perm.mem_iff o,bj];lia
theorem Ord.nodup {n:Int}{xs:List Int}(o:Ord n xs):xs.Nodup:=(List.Perm.nodup_iff o).mpr (bV _ _)
theorem pG{α:Type}:∀{l:List α}{k:Nat}{y:α},l[k]?=some y->(y::l.eraseIdx k).Perm l
 |[],_,_,h=>by simp at h
 |a::l,0,y,h=>by simp at h;subst h;exact List.Perm.refl _
 |a::l,k+1,y,h=>by
  have q:=pG (l:=l) (k:=k) (y:=y) (by simpa using h);rw[List.eraseIdx_cons_succ];exact(List.Perm.swap a y _).trans (q.cons a)
theorem uh{n:Int}{fs ls:List Int}{k:Nat}{y:Int}(o:Ord n (fs++ls))(h:ls[k]?=some y):Ord n ((fs++[y])++ls.eraseIdx k):=by
 unfold Ord at*;rw[List.append_assoc,List.singleton_append];exact((pG h).append_left fs).trans o
theorem swap_perm{n:Int}{ls:List Int}{i j:Nat}{x y:Int}(o:Ord n ls)(hi:ls[i]?=some x)(hj:ls[j]?=some y):Ord n ((ls.set i y).set j x):=by
 obtain⟨h1,rfl⟩:=List.getElem?_eq_some_iff.mp hi;obtain⟨h2,rfl⟩:=List.getElem?_eq_some_iff.mp hj;exact(List.set_set_perm h1 h2).trans o
def xk(xs:List Int)(x:Int):Int:=xs.getD ((xs.idxOf x+1)%xs.length) 0
theorem CK{xs:List Int}(nd:xs.Nodup){j:Nat}{x:Int}(h:xs[j]?=some x):xk xs x=xs.getD ((j+1)%xs.length) 0:=by
 obtain⟨h1,rfl⟩:=List.getElem?_eq_some_iff.mp h;unfold xk;rw[List.Nodup.idxOf_getElem nd]
theorem Dj{xs:List Int}(nd:xs.Nodup):(xs.map (xk xs)).Perm xs:=by
 match xs,nd with
 |[],_=>exact List.Perm.refl _
 |y::t,nd=>
  have e:(y::t).map (xk (y::t))=t++[y]:=by
   apply List.ext_getElem?;intro j;rw[Mv];by_cases hj:j<(y::t).length
   .have h:(y::t)[j]?=some (y::t)[j]:=Mx hj
    rw[h,MW,CK nd h];by_cases h2:j+1<(y::t).length
    .rw[Nat.mod_eq_of_lt h2]
     have:j<t.length:=by simpa using h2
     rw[List.getElem?_append_left this];simp[ME,this]
    .have e2:j+1=(y::t).length:=by lia
     rw[e2,Nat.mod_self];have:j=t.length:=by simpa using e2
     subst this;simp
   .rw[List.getElem?_eq_none (by lia),List.getElem?_eq_none (by simp;simp at hj;lia)]
    rfl
  rw[e];exact List.perm_append_comm (l₁:=t) (l₂:=[y])
theorem ET{n:Int}{xs:List Int}(o:Ord n xs):Ord n ((bK 1 (n+1)).map (xk xs)):=
 ((List.Perm.map (xk xs) (List.Perm.symm o)).trans (Dj o.nodup)).trans o
theorem fF(n:Int):Ord n (bK 1 (n+1)):=List.Perm.refl _
theorem Hs{xs:List Int}{x:Int}(h:x∈xs):∃j,xs[j]?=some x/\j<xs.length:=by
 obtain⟨j,hj,e⟩:=List.mem_iff_getElem.mp h;exact⟨j,by rw[Mx hj,e],hj⟩
end Sw
namespace L2
open PySem PySem.Spec PyProof.Rows
section
variable{X:Cx}{K:W.Frag}
theorem qG:∀{ns:List Int}{us:List MX},Vals (ns.map V.int) us->∃xs:List (Int×Tok),us=xs.map (fun p=>MX.int p.1 p.2)/\xs.map (·.1)=ns
 |[],us,r=>by cases r;exact⟨[],rfl,rfl⟩
 |n::ns,us,r=>by
  cases r with
  |cons r1 r2=>
   obtain⟨t,rfl⟩:=r1;obtain⟨xs,rfl,e⟩:=qG r2;exact⟨(n,t)::xs,rfl,by rw[MA,e]⟩
def Kd(K:W.Frag):List V->Hp->VK->Prop:=fun xs H Q=>∃(p:MY)(ns:List Int)(M:Int),xs=[.ref p]/\aJ K H p (ns.map V.int)/\M∈ns/\(∀a∈ns,M<=a)/\Q (.int M) H
theorem y4(hc:X.calm=true)(hK:X.K=K):bY X (.builtin "min") (Kd K):=by
 subst hK;intro pins s σ H xs us Q I r h;obtain⟨p,ns,M,rfl,hl,hM,hm,q⟩:=h;obtain⟨u,rfl,rx⟩:=vals1 r;cases rx;obtain⟨its,rv,pl,hz⟩:=I.list hl;obtain⟨xs,rfl,e⟩:=qG rv;have hpos:0<xs.length:=by
  rw[←Mu (f:=(·.1)),e];exact List.length_pos_of_mem hM
 refine min_intList (l:=p) (xs:=xs.toArray) (I.ok.hd hc) ?_ (by simpa using hpos) fun v h' tk hv hk=>?_
 .have:=pl.isList
  unfold intItems;simpa using this
 .have num:∀i,numAt xs.toArray i=ns.getD i 0:=by
   intro i;unfold numAt;rw[List.getElem?_toArray,←e,ME,Mv]
  obtain⟨b1,b2⟩:=argBest_lt (numAt xs.toArray) (xs.toArray.size-1);generalize argBest (fun i j=>decide (numAt xs.toArray i<numAt xs.toArray j)) (xs.toArray.size-1)=k at b1 b2 hv;have lk:k<xs.length:=by simp at b1;lia
  have hv':v=MX.int xs[k].1 xs[k].2:=by
   unfold intItems at hv;simp at hv;rw[Mx lk]at hv;obtain⟨a,b,h1,h2⟩:=hv;have h1:=MV h1;rw[h1];exact h2.symm
  subst hv';have lx:xs.length=ns.length:=by rw[←e,Mu]
  have ek:xs[k].1=ns[k]:=by
   have:(xs.map (·.1))[k]'(by rw[Mu];exact lk)=ns[k]:=by simp only[e]
   simpa using this
  have eM:xs[k].1=M:=by
   rw[ek];refine Int.le_antisymm ?_ (hm _ (List.getElem_mem _));obtain⟨j,hj,ej⟩:=List.mem_iff_getElem.mp hM;have:=b2 j (by simp;lia);rw[num,num]at this;rw[←ej];rw[ME,Mx (by lia),ME,Mx hj]at this;exact this
  rw[eM];refine⟨.int M,H,?_,⟨_,rfl⟩,q⟩;exact(I.kept (t':=s.toks) (h':=h') fun b o e=>hk b o e).tok tk
end
section
variable{X:Cx}{K:W.Frag}
theorem uA:∀{ns:List Int}{us:List MX},Vals (ns.map V.int) us->IntsAre us ns
 |[],us,r=>by cases r;exact .nil
 |n::ns,us,r=>by
  cases r with
  |cons r1 r2=>
   obtain⟨t,rfl⟩:=r1;exact .cons n t (uA r2)
theorem vp:∀{us:List MX}{ns:List Int},IntsAre us ns->Vals (ns.map V.int) us
 |_,_,.nil=> .nil
 |_,_,.cons n t r=> .cons ⟨t,rfl⟩ (vp r)
def IH(K:W.Frag):List V->Hp->VK->Prop:=fun xs H Q=>∃(p:MY)(ns:List Int),xs=[.ref p]/\aJ K H p (ns.map V.int)/\ns.length<64/\∀(l:MY)(ns':List Int),H l=none->ns'.Perm ns->ns'.Pairwise (·<=·)->Q (.ref l) (upd H l (.lst (ns'.map V.int)))
theorem jg(hK:X.K=K):bY X (.builtin "sorted") (IH K):=by
 subst hK;intro pins s σ H xs us Q I r h;obtain⟨p,ns,rfl,hl,hz,q⟩:=h;obtain⟨u,rfl,rx⟩:=vals1 r;cases rx;obtain⟨its,rv,pl,_⟩:=I.list hl;have len:=rv.length;rw[Mu]at len;refine sorted_ints pl.isList (uA rv) (by lia) fun out ns' ia pm pw=>?_;obtain⟨e,he⟩:=sortedAll_at s.heap its out;have lp:=pm.length_eq;have big:(64:Nat)<=M5:=by decide
 refine⟨.ref (s.heap.objs.size+1),_,I.laid (o:= .lst (ns'.map V.int)) (fun b u e=>sortedAll_old e) (Nat.le_succ _) ⟨by rw[Mu];lia,out.toList,e,vp ia,by simpa using he⟩,rfl,q _ ns' (I.aX.fresh (Nat.le_succ _)) pm pw⟩
end
def fh(T C:String):Option Bool:=if(MX.type T==MX.type C)=true then some true else if W.kitMeta C=true then(fastBuiltinMro T).map (·.contains (MX.type C))else none
theorem aV(K:W.Frag){T C:String}{b:Bool}(h:fh T C=some b):W.kitOne K (.type T) (.type C)=some b:=h
theorem sG(K:W.Frag):W.kitOne K (.type "int") (.type "bool")=some false:=aV K (by decide+kernel)
end L2
namespace Sw
open PySem L2
def ld(xs:List Int)(x:Int):Int:=xs.getD (x-1).toNat 0
def br(f:Int->Int):Nat->Int->Int
 |0,x=>x
 |k+1,x=>f (br f k x)
theorem jv(f:Int->Int)(j:Nat)(x:Int):∀k,br f (k+j) x=br f k (br f j x)
 |0=>by rw[Nat.zero_add];rfl
 |k+1=>by rw[Nat.succ_add];show f _=f _;rw[jv f j x k]
theorem kc{n:Int}{xs:List Int}(o:Ord n xs){x:Int}(h1:1<=x)(h2:x<=n):xs[(x-1).toNat]?=some (ld xs x):=by
 have:=o.length;unfold ld;rw[ME,Mx (by lia)];rfl
theorem Fz{n:Int}{xs:List Int}(o:Ord n xs){x:Int}(h1:1<=x)(h2:x<=n):1<=ld xs x/\ld xs x<=n:=o.mem.mp (MF (kc o h1 h2))
theorem vK{n:Int}{xs:List Int}(o:Ord n xs){x y:Int}(h1:1<=x)(h2:x<=n)(h3:1<=y)(h4:y<=n)(e:ld xs x=ld xs y):x=y:=by
 have a:=kc o h1 h2;have b:=kc o h3 h4;rw[e]at a;obtain⟨p,pa⟩:=List.getElem?_eq_some_iff.mp a;obtain⟨q,qa⟩:=List.getElem?_eq_some_iff.mp b;have:=(List.getElem_inj (i:=(x-1).toNat) (j:=(y-1).toNat) (h₀:=p) (h₁:=q) o.nodup).mp (pa.trans qa.symm);lia
theorem bS{n:Int}{xs:List Int}(o:Ord n xs){x:Int}(h1:1<=x)(h2:x<=n):∀k,1<=br (ld xs) k x/\br (ld xs) k x<=n
 |0=>⟨h1,h2⟩
 |k+1=>Fz o (bS o h1 h2 k).1 (bS o h1 h2 k).2
theorem nZ{n:Int}{xs:List Int}(o:Ord n xs){x y:Int}(h1:1<=x)(h2:x<=n)(h3:1<=y)(h4:y<=n):∀k,br (ld xs) k x=br (ld xs) k y->x=y
 |0,e=>e
 |k+1,e=>nZ o h1 h2 h3 h4 k (vK o (bS o h1 h2 k).1 (bS o h1 h2 k).2 (bS o h3 h4 k).1 (bS o h3 h4 k).2 e)
theorem CQ{n:Int}{xs:List Int}(o:Ord n xs){x:Int}(h1:1<=x)(h2:x<=n):∃k,k<n.toNat/\br (ld xs) (k+1) x=x:=by
 apply Classical.byContradiction;intro no;have hne:∀i j,i<j->j<=n.toNat->br (ld xs) i x≠br (ld xs) j x:=by
  intro i j hij hj e;apply no;refine⟨j-i-1,by lia,?_⟩;have e2:br (ld xs) (i+(j-i)) x=br (ld xs) i (br (ld xs) (j-i) x):=jv _ _ _ _;rw[show i+(j-i)=j by lia,←e]at e2;have q:=bS o h1 h2 (j-i);have:=nZ o h1 h2 q.1 q.2 i e2;rw[show j-i-1+1=j-i by lia];exact this.symm
 have nd:((List.range (n.toNat+1)).map (fun k=>br (ld xs) k x)).Nodup:=by
  rw[List.Nodup,List.pairwise_iff_getElem];intro i j hi hj hij;simp only[List.getElem_map,List.getElem_range];simp at hj;exact hne i j hij (by lia)
 have le:=List.Nodup.length_le_of_subset nd (l₂:=bK 1 (n+1)) (by
  intro y hy;obtain⟨k,_,rfl⟩:=List.mem_map.mp hy;have:=bS o h1 h2 k;exact bj.mpr (by lia))
 rw[Mu,List.length_range,aB]at le;lia
def eE(xs:List Int)(x:Int):Nat:=(List.range xs.length).findIdx (fun k=>br (ld xs) (k+1) x==x)+1
def cq(xs:List Int)(x:Int):List Int:=(List.range (eE xs x)).map fun k=>br (ld xs) k x
theorem wG{n:Int}{xs:List Int}(o:Ord n xs){x:Int}(h1:1<=x)(h2:x<=n):eE xs x<=n.toNat:=by
 obtain⟨k,hk,e⟩:=CQ o h1 h2;have:=List.findIdx_lt_length_of_exists (xs:=List.range xs.length) (p:=fun k=>br (ld xs) (k+1) x==x) ⟨k,List.mem_range.mpr (by rw[o.length];exact hk),by simpa using e⟩;rw[List.length_range,o.length]at this;unfold eE;rw[o.length];lia
theorem lN{n:Int}{xs:List Int}(o:Ord n xs){x:Int}(h1:1<=x)(h2:x<=n):br (ld xs) (eE xs x) x=x:=by
 obtain⟨k,hk,e⟩:=CQ o h1 h2;have lt:=List.findIdx_lt_length_of_exists (xs:=List.range xs.length) (p:=fun k=>br (ld xs) (k+1) x==x) ⟨k,List.mem_range.mpr (by rw[o.length];exact hk),by simpa using e⟩;have:=List.findIdx_getElem (xs:=List.range xs.length) (p:=fun k=>br (ld xs) (k+1) x==x) (w:=lt);rw[List.getElem_range]at this;unfold eE;simpa using this
theorem mv{xs:List Int}{x:Int}{j:Nat}(h0:0<j)(h:j<eE xs x):br (ld xs) j x≠x:=by
 unfold eE at h;have lt:j-1<(List.range xs.length).findIdx (fun k=>br (ld xs) (k+1) x==x):=by lia
 have:=List.not_of_lt_findIdx lt;rw[List.getElem_range]at this;rw[show j-1+1=j by lia]at this;simpa using this
theorem sJ{n:Int}{xs:List Int}(o:Ord n xs){x:Int}(h1:1<=x)(h2:x<=n)(k:Nat):∃j,j<eE xs x/\br (ld xs) k x=br (ld xs) j x:=by
 induction k with
 |zero=>exact⟨0,by unfold eE;lia,rfl⟩
 |succ k ih=>
  obtain⟨j,hj,e⟩:=ih;by_cases h:j+1<eE xs x
  .exact⟨j+1,h,by show ld xs _=ld xs _;rw[e]⟩
  .refine⟨0,by unfold eE;lia,?_⟩
   show ld xs _=x;rw[e];have:j+1=eE xs x:=by lia
   have q:=lN o h1 h2;rw[←this]at q;exact q
theorem cK{n:Int}{xs:List Int}(o:Ord n xs){x:Int}(h1:1<=x)(h2:x<=n){y:Int}:y∈cq xs x↔∃k,br (ld xs) k x=y:=by
 unfold cq;rw[List.mem_map];constructor
 .rintro⟨k,_,e⟩
  exact⟨k,e⟩
 .rintro⟨k,e⟩
  obtain⟨j,hj,e2⟩:=sJ o h1 h2 k;exact⟨j,List.mem_range.mpr hj,e2.symm.trans e⟩
def least(xs:List Int)(x:Int):Bool:=(cq xs x).all fun y=>decide (x<=y)
theorem eJ{n:Int}{xs:List Int}(o:Ord n xs){x:Int}(h1:1<=x)(h2:x<=n):least xs x=true↔∀k,x<=br (ld xs) k x:=by
 unfold least;rw[List.all_eq_true];constructor
 .intro h k
  exact of_decide_eq_true (h _ ((cK o h1 h2).mpr ⟨k,rfl⟩))
 .intro h y hy
  obtain⟨k,rfl⟩:=(cK o h1 h2).mp hy;exact decide_eq_true (h k)
def bT(n:Int)(xs:List Int):List (List Int):=((bK 1 (n+1)).filter (least xs)).map (cq xs)
theorem nF{n:Int}{xs:List Int}(o:Ord n xs){e:Int×Int}(h:1<=e.1/\e.1<e.2/\e.2<=n):Ord n (xs.map (aQ · e)):=by
 have nd:(xs.map (aQ · e)).Nodup:=by
  refine List.Pairwise.map _ ?_ o.nodup;intro a b ne z;apply ne;have:=congrArg (aQ · e) z;simpa [gk]using this
 refine(List.perm_ext_iff_of_nodup nd (bV _ _)).mpr fun y=>?_;rw[bj,List.mem_map];constructor
 .rintro⟨x,hx,rfl⟩
  have hx:=o.mem.mp hx;have:=oN h hx.1 hx.2;lia
 .rintro⟨a,b⟩
  have:=oN h a (by lia);exact⟨aQ y e,o.mem.mpr this,gk _ _⟩
theorem wu{n:Int}{xs:List Int}(o:Ord n xs)(f:Int->Int){x:Int}(h1:1<=x)(h2:x<=n):ld (xs.map f) x=f (ld xs x):=by
 have g:=kc o h1 h2;show(xs.map f).getD _ 0=_;rw[ME,Mv,g];rfl
theorem rP{n:Int}{row:List (Int×Int)}{x:Int}(h1:1<=x)(h2:x<=n):ld (bp n row) x=go row x:=by
 unfold ld;rw[ME,AM (by lia)];rw[show 1+(((x-1).toNat:Nat):Int)=x by lia];rfl
theorem EH{n:Int}{xs ys:List Int}(a:xs.length=n.toNat)(b:ys.length=n.toNat)(h:∀x,1<=x->x<=n->ld xs x=ld ys x):xs=ys:=by
 apply List.ext_getElem
 .rw[a,b]
 intro i h1 h2;have:=h (1+i) (by lia) (by lia);unfold ld at this;rw[show(1+(i:Int)-1).toNat=i by lia,ME,ME,Mx h1,Mx h2]at this;exact this
theorem Ei{n:Int}{row:List (Int×Int)}(g:Good n row):Ord n (bp n row):=by
 have nd:(bp n row).Nodup:=by
  unfold bp;refine List.Pairwise.map _ ?_ (bV 1 (n+1));intro a b ne z;apply ne;have:=congrArg (go row.reverse) z;rwa [nX,nX]at this
 refine(List.perm_ext_iff_of_nodup nd (bV _ _)).mpr fun y=>?_;rw[bj];constructor
 .intro h
  have:=A9 g h;lia
 .rintro⟨a,b⟩
  unfold bp;have:=Cg (row:=row.reverse) g.reverse a (by lia:y<=n);exact List.mem_map.mpr ⟨go row.reverse y,bj.mpr (by lia),BV row y⟩
def kq:Nat->List Int->List (Int×Int)
 |0,_=>[]
 |m+1,xs=>if ld xs ((m:Int)+1)=(m:Int)+1 then kq m xs else kq m (xs.map (aQ · (ld xs ((m:Int)+1),(m:Int)+1)))++[(ld xs ((m:Int)+1),(m:Int)+1)]
def Fix(n:Int)(m:Nat)(xs:List Int):Prop:=∀x,(m:Int)<x->x<=n->ld xs x=x
theorem nR{n:Int}{xs:List Int}{m:Nat}(o:Ord n xs)(f:Fix n (m+1) xs)(hm:(m:Int)+1<=n)(ne:ld xs ((m:Int)+1)≠(m:Int)+1):1<=ld xs ((m:Int)+1)/\ld xs ((m:Int)+1)<(m:Int)+1:=by
 have r:=Fz o (x:=(m:Int)+1) (by lia) hm;refine⟨r.1,?_⟩;apply Classical.byContradiction;intro h;have e:=f (ld xs ((m:Int)+1)) (by lia) r.2;have:=vK o (x:=ld xs ((m:Int)+1)) (y:=(m:Int)+1) r.1 r.2 (by lia) hm e;lia
theorem AG{x:Int}{e:Int×Int}(h1:x≠e.1)(h2:x≠e.2):aQ x e=x:=by
 unfold aQ;rw[if_neg h1,if_neg h2]
theorem oX{n:Int}{xs:List Int}{m:Nat}(o:Ord n xs)(f:Fix n (m+1) xs)(hm:(m:Int)+1<=n)(ne:ld xs ((m:Int)+1)≠(m:Int)+1):Fix n m (xs.map (aQ · (ld xs ((m:Int)+1),(m:Int)+1))):=by
 intro x h1 h2;rw[wu o _ (by lia) h2];have lt:=nR o f hm ne;by_cases h:x=(m:Int)+1
 .rw[h];unfold aQ;rw[if_pos rfl]
 .have e:=f x (by lia) h2
  rw[e];exact AG (by dsimp only;lia) (by dsimp only;exact h)
theorem uo{n:Int}{xs:List Int}{m:Nat}(f:Fix n (m+1) xs)(e:ld xs ((m:Int)+1)=(m:Int)+1):Fix n m xs:=by
 intro x h1 h2;by_cases h:x=(m:Int)+1
 .rw[h];exact e
 .exact f x (by lia) h2
inductive kR:Int->List (Int×Int)->Prop
 |nil {m:Int}:kR m []
 |snoc {m a b:Int} {r:List (Int×Int)}:kR (b-1) r->1<=a->a<b->b<=m->kR m (r++[(a,b)])
theorem kR.mono {m m':Int}{r:List (Int×Int)}(h:kR m r)(l:m<=m'):kR m' r:=by
 cases h with
 |nil=>exact .nil
 |snoc a b c d=>exact .snoc a b c (by lia)
theorem j7{n:Int}:∀(m:Nat)(xs:List Int),(m:Int)<=n->Ord n xs->Fix n m xs->kR m (kq m xs)
 |0,xs,_,o,f=> .nil
 |m+1,xs,hm,o,f=>by
  unfold kq;have hm':(m:Int)+1<=n:=by lia
  split
  .rename_i e
   exact(j7 m xs (by lia) o (uo f e)).mono (by lia)
  .rename_i ne
   have lt:=nR o f hm' ne;have gd:1<=(ld xs ((m:Int)+1),(m:Int)+1).1/\(ld xs ((m:Int)+1),(m:Int)+1).1<(ld xs ((m:Int)+1),(m:Int)+1).2/\(ld xs ((m:Int)+1),(m:Int)+1).2<=n:=⟨lt.1,lt.2,hm'⟩;exact .snoc ((j7 m _ (by lia) (nF o gd) (oX o f hm' ne)).mono (by lia)) lt.1 lt.2 (by lia)
theorem kR.Ct {m:Int}{r:List (Int×Int)}(h:kR m r):∀{x:Int},m<x->go r x=x:=by
 induction h with
 |nil=>intro x hx;rfl
 |snoc a b c d ih=>
  intro x hx;rw[fI,ih (by lia)];exact AG (by dsimp only;lia) (by dsimp only;lia)
theorem ko{n:Int}:∀(m:Nat)(r:List (Int×Int)),(m:Int)<=n->kR m r->kq m (bp n r)=r
 |0,r,_,h=>by
  cases h with
  |nil=>rfl
  |snoc a b c d=>lia
 |m+1,r,hm,h=>by
  unfold kq;rw[rP (by lia) (by lia)]
  cases h with
  |nil=>rw[if_pos (show go [] ((m:Int)+1)=(m:Int)+1 from rfl)];exact ko m [] (by lia) .nil
  | @snoc _ a b r' h' ha hb hc=>
   by_cases e:b=(m:Int)+1
   .subst e
    have g1:go (r'++[(a,(m:Int)+1)]) ((m:Int)+1)=a:=by
     rw[fI,h'.Ct (by lia)];show aQ _ _=a;unfold aQ;rw[if_neg (by dsimp only;lia),if_pos rfl]
    rw[g1,if_neg (by lia)];have e2:(bp n (r'++[(a,(m:Int)+1)])).map (aQ · (a,(m:Int)+1))=bp n r':=by
     unfold bp;rw[MD];apply List.map_congr_left;intro x _;show aQ (go (r'++[(a,(m:Int)+1)]) x) _=_;rw[fI];exact gk _ _
    rw[e2,ko m r' (by lia) (h'.mono (by lia))]
   .have hr:kR (m:Int) (r'++[(a,b)]):= .snoc h' ha hb (by lia)
    rw[if_pos (hr.Ct (by lia))];exact ko m _ (by lia) hr
def cnt(n:Int)(xs:List Int):Nat:=((bK 1 (n+1)).filter (least xs)).length
theorem jZ{α:Type}[DecidableEq α]{p q:α->Bool}{g:α}(hp:p g=false)(hq:q g=true):∀(l:List α),l.Nodup->g∈l->(∀x∈l,x≠g->p x=q x)->(l.filter q).length=(l.filter p).length+1
 |[],_,h,_=>by cases h
 |a::l,nd,h,k=>by
  rw[List.nodup_cons]at nd;by_cases e:a=g
  .subst e
   rw[List.filter_cons_of_pos hq,List.filter_cons_of_neg (by rw[hp];decide),Mz];congr 1;congr 1;apply List.filter_congr;intro x hx;exact(k x (MH _ hx) (by intro z;subst z;exact nd.1 hx)).symm
  .have ih:=jZ hp hq l nd.2 (by cases h with|head=>exact absurd rfl e|tail _ h=>exact h) fun x hx=>k x (MH _ hx)
   have ea:=k a MG e;rw[List.filter_cons,List.filter_cons,ea]
   split
   .rw[Mz,Mz,ih]
   .exact ih
section
variable{n:Int}{xs:List Int}{m:Nat}
theorem A1(o:Ord n xs)(hm:(m:Int)+1<=n){x:Int}(h1:1<=x)(h2:x<=n)(hx:x≠(m:Int)+1):
  ld (xs.map (aQ · (ld xs ((m:Int)+1),(m:Int)+1))) x=if ld xs x=(m:Int)+1 then ld xs ((m:Int)+1)else ld xs x:=by
 rw[wu o _ h1 h2];have ne:ld xs x≠ld xs ((m:Int)+1):=fun e=>hx (vK o h1 h2 (by lia) hm e);unfold aQ;rw[if_neg ne]
theorem sU(o:Ord n xs)(f:Fix n (m+1) xs)(hm:(m:Int)+1<=n)(ne:ld xs ((m:Int)+1)≠(m:Int)+1){x:Int}(h1:1<=x)(h2:x<=n)(hx:x≠(m:Int)+1):
  ∀k,br (ld (xs.map (aQ · (ld xs ((m:Int)+1),(m:Int)+1)))) k x≠(m:Int)+1/\∃j,br (ld (xs.map (aQ · (ld xs ((m:Int)+1),(m:Int)+1)))) k x=br (ld xs) j x
 |0=>⟨hx,0,rfl⟩
 |k+1=>by
  obtain⟨a,j,e⟩:=sU o f hm ne h1 h2 hx k;have r:=bS o h1 h2 j;show ld _ (br _ k x)≠_/\∃j,ld _ (br _ k x)=_;rw[e]at a⊢;rw[A1 o hm r.1 r.2 a];by_cases h:ld xs (br (ld xs) j x)=(m:Int)+1
  .rw[if_pos h]
   refine⟨ne,j+2,?_⟩;show _=ld xs (ld xs (br (ld xs) j x));rw[h]
  .rw[if_neg h]
   exact⟨h,j+1,rfl⟩
theorem xX(o:Ord n xs)(f:Fix n (m+1) xs)(hm:(m:Int)+1<=n)(ne:ld xs ((m:Int)+1)≠(m:Int)+1){x:Int}(h1:1<=x)(h2:x<=n)(hx:x≠(m:Int)+1):
  ∀j,(∃k,br (ld xs) j x=br (ld (xs.map (aQ · (ld xs ((m:Int)+1),(m:Int)+1)))) k x)\/(br (ld xs) j x=(m:Int)+1/\∃k,br (ld (xs.map (aQ · (ld xs ((m:Int)+1),(m:Int)+1)))) k x=ld xs ((m:Int)+1))
 |0=> .inl ⟨0,rfl⟩
 |j+1=>by
  have r:=bS o h1 h2 j;rcases xX o f hm ne h1 h2 hx j with⟨k,e⟩|⟨e,k,e2⟩
  .have a:=(sU o f hm ne h1 h2 hx k).1
   have e3:br (ld (xs.map (aQ · (ld xs ((m:Int)+1),(m:Int)+1)))) (k+1) x=if ld xs (br (ld xs) j x)=(m:Int)+1 then ld xs ((m:Int)+1)else ld xs (br (ld xs) j x):=by
    show ld _ (br _ k x)=_;rw[←e]at a⊢;exact A1 o hm r.1 r.2 a
   by_cases h:ld xs (br (ld xs) j x)=(m:Int)+1
   .rw[if_pos h]at e3
    exact .inr ⟨h,k+1,e3⟩
   .rw[if_neg h]at e3
    exact .inl ⟨k+1,e3.symm⟩
  .refine .inl ⟨k,?_⟩
   show ld xs (br (ld xs) j x)=_;rw[e,e2]
theorem DA(o:Ord n xs)(f:Fix n (m+1) xs)(hm:(m:Int)+1<=n)(ne:ld xs ((m:Int)+1)≠(m:Int)+1):cnt n (xs.map (aQ · (ld xs ((m:Int)+1),(m:Int)+1)))=cnt n xs+1:=by
 have lt:=nR o f hm ne;have gd:1<=(ld xs ((m:Int)+1),(m:Int)+1).1/\(ld xs ((m:Int)+1),(m:Int)+1).1<(ld xs ((m:Int)+1),(m:Int)+1).2/\(ld xs ((m:Int)+1),(m:Int)+1).2<=n:=⟨lt.1,lt.2,hm⟩;have o':=nF o gd;have f':=oX o f hm ne;unfold cnt;refine jZ (g:=(m:Int)+1) ?_ ?_ _ (bV _ _) (bj.mpr (by lia)) ?_
 .cases h:least xs ((m:Int)+1)with
  |false=>rfl
  |true=>
   have:=(eJ o (by lia) hm).mp h 1;exact absurd this (by show¬_<=ld xs ((m:Int)+1);lia)
 .refine(eJ o' (by lia) hm).mpr fun k=>?_
  have:∀k,br (ld (xs.map (aQ · (ld xs ((m:Int)+1),(m:Int)+1)))) k ((m:Int)+1)=(m:Int)+1:=by
   intro k
   induction k with
   |zero=>rfl
   |succ k ih=>show ld _ (br _ k _)=_;rw[ih];exact f' _ (by lia) hm
  rw[this k];exact Int.le_refl _
 .intro x hx hne
  have hx:=bj.mp hx;have h1:1<=x:=hx.1;have h2:x<=n:=by lia
  rw[Bool.eq_iff_iff,eJ o h1 h2,eJ o' h1 h2];constructor
  .intro h k
   obtain⟨_,j,e⟩:=sU o f hm ne h1 h2 hne k;rw[e];exact h j
  .intro h j
   rcases xX o f hm ne h1 h2 hne j with⟨k,e⟩|⟨e,k,e2⟩
   .rw[e];exact h k
   .have:=h k
    rw[e2]at this;rw[e];lia
end
theorem l9{n:Int}:∀(m:Nat)(xs:List Int),(m:Int)<=n->Ord n xs->Fix n m xs->(kq m xs).length+cnt n xs=n.toNat
 |0,xs,_,o,f=>by
  have:(bK 1 (n+1)).filter (least xs)=bK 1 (n+1):=by
   rw[List.filter_eq_self];intro x hx;have hx:=bj.mp hx;refine(eJ o hx.1 (by lia)).mpr fun k=>?_;have:∀k,br (ld xs) k x=x:=by
    intro k
    induction k with
    |zero=>rfl
    |succ k ih=>show ld _ (br _ k _)=_;rw[ih];exact f _ (by lia) (by lia)
   rw[this k];exact Int.le_refl _
  unfold cnt;rw[this,aB];show 0+_=_;lia
 |m+1,xs,hm,o,f=>by
  unfold kq;have hm':(m:Int)+1<=n:=by lia
  split
  .rename_i e
   exact l9 m xs (by lia) o (uo f e)
  .rename_i ne
   have lt:=nR o f hm' ne;have gd:1<=(ld xs ((m:Int)+1),(m:Int)+1).1/\(ld xs ((m:Int)+1),(m:Int)+1).1<(ld xs ((m:Int)+1),(m:Int)+1).2/\(ld xs ((m:Int)+1),(m:Int)+1).2<=n:=⟨lt.1,lt.2,hm'⟩;have ih:=l9 m _ (by lia) (nF o gd) (oX o f hm' ne);rw[DA o f hm' ne]at ih;rw[Mw,List.length_singleton];lia
def o4(xs:List Int):List (Int×Int):=kq xs.length xs
section
variable{n:Int}{xs:List Int}
theorem x9(o:Ord n xs):Fix n xs.length xs:=fun x h1 h2=>by have:=o.length;lia
theorem GZ(hn:0<=n)(o:Ord n xs):kR n (o4 xs):=(j7 _ xs (by have:=o.length;lia) o (x9 o)).mono (by have:=o.length;lia)
theorem zg(hn:0<=n)(o:Ord n xs):(o4 xs).length+cnt n xs=n.toNat:=l9 _ xs (by have:=o.length;lia) o (x9 o)
theorem BX(hn:0<=n){r:List (Int×Int)}(h:kR n r):o4 (bp n r)=r:=by
 unfold o4;rw[t7];exact ko _ r (by lia) (h.mono (by lia))
end
theorem iQ:∀{l:List Int},l≠[]->∃M,M∈l/\∀b∈l,M<=b
 |[],h=>absurd rfl h
 |[a],_=>⟨a,List.mem_singleton.mpr rfl,fun b hb=>by rw[List.mem_singleton.mp hb];exact Int.le_refl _⟩
 |a::b::r,_=>by
  obtain⟨M,h1,h2⟩:=iQ (l:=b::r) (by simp);by_cases h:a<=M
  .refine⟨a,MG,fun c hc=>?_⟩
   rcases List.mem_cons.mp hc with rfl|hc
   .exact Int.le_refl _
   .exact Int.le_trans h (h2 c hc)
  .refine⟨M,MH _ h1,fun c hc=>?_⟩
   rcases List.mem_cons.mp hc with rfl|hc
   .lia
   .exact h2 c hc
theorem eB{n:Int}{xs:List Int}(o:Ord n xs){x y:Int}(h1:1<=x)(h2:x<=n)(h:y∈cq xs x):x∈cq xs y:=by
 obtain⟨k,rfl⟩:=(cK o h1 h2).mp h;obtain⟨j,hj,e⟩:=sJ o h1 h2 k;have r:=bS o h1 h2 k;refine(cK o r.1 r.2).mpr ⟨eE xs x-j,?_⟩;rw[e,←jv,show eE xs x-j+j=eE xs x by lia];exact lN o h1 h2
theorem fG{n:Int}{xs:List Int}(o:Ord n xs){x y z:Int}(h1:1<=x)(h2:x<=n)(h:y∈cq xs x)(h':z∈cq xs y):z∈cq xs x:=by
 obtain⟨k,rfl⟩:=(cK o h1 h2).mp h;have r:=bS o h1 h2 k;obtain⟨j,rfl⟩:=(cK o r.1 r.2).mp h';exact(cK o h1 h2).mpr ⟨j+k,jv _ _ _ _⟩
theorem iu{n:Int}{xs:List Int}(o:Ord n xs){x y:Int}(h1:1<=x)(h2:x<=n)(h:y∈cq xs x):1<=y/\y<=n:=by
 obtain⟨k,rfl⟩:=(cK o h1 h2).mp h;exact bS o h1 h2 k
theorem dn{xs:List Int}(x:Int):x∈cq xs x:=by
 unfold cq;exact List.mem_map.mpr ⟨0,List.mem_range.mpr (by unfold eE;lia),rfl⟩
theorem hU(xs:List Int)(x:Int):(cq xs x).length=eE xs x:=by unfold cq;rw[Mu,List.length_range]
theorem wC{n:Int}{xs:List Int}(o:Ord n xs){x:Int}(h1:1<=x)(h2:x<=n):∃m,m∈cq xs x/\least xs m=true/\m<=x:=by
 obtain⟨M,m1,m2⟩:=iQ (l:=cq xs x) (List.ne_nil_of_mem (dn x));refine⟨M,m1,?_,m2 x (dn x)⟩;unfold least;rw[List.all_eq_true];intro y hy;exact decide_eq_true (m2 y (fG o h1 h2 m1 hy))
theorem yZ{n:Int}{xs:List Int}(o:Ord n xs){i:Nat}(hi:(i:Int)<n):least xs (1+i)=true↔¬∃m∈((bK 1 (n+1)).take i).filter (least xs),(1+(i:Int))∈cq xs m:=by
 have b1:(1:Int)<=1+i:=by lia
 have b2:(1:Int)+i<=n:=by lia
 have tk:∀m,m∈(bK 1 (n+1)).take i↔1<=m/\m<=i:=by
  intro m;constructor
  .intro h
   obtain⟨j,hj,e⟩:=List.mem_iff_getElem.mp h;rw[MB]at hj;rw[List.getElem_take]at e;have g:=bR (lo:=1) (hi:=n+1) (i:=j) (by rw[aB]at hj;lia);rw[Mx (by lia)]at g;have g:=MV g;rw[e]at g;lia
  .rintro⟨h3,h4⟩
   refine List.mem_iff_getElem.mpr ⟨(m-1).toNat,by rw[MB,aB];lia,?_⟩;rw[List.getElem_take];have g:=bR (lo:=1) (hi:=n+1) (i:=(m-1).toNat) (by lia);rw[Mx (by rw[aB];lia)]at g;have g:=MV g;rw[g];lia
 constructor
 .rintro h ⟨m,hm,hmo⟩
  rw[List.mem_filter,tk]at hm;have s:=eB o hm.1.1 (by lia) hmo;unfold least at h;have:=of_decide_eq_true (List.all_eq_true.mp h m s);lia
 .intro h
  obtain⟨m,m1,m2,m3⟩:=wC o b1 b2;by_cases e:m=1+(i:Int)
  .rw[←e];exact m2
  .exfalso
   apply h;have mi:=iu o b1 b2 m1;exact⟨m,List.mem_filter.mpr ⟨(tk m).mpr (by lia),m2⟩,eB o b1 b2 m1⟩
theorem Du{ns:List Int}{k:Nat}{z:Int}(h:ns.length=k+1)(e:ns[k]?=some z):uu (ns.map V.int) (-1)=some (V.int z):=by
 unfold uu Df;rw[if_neg (by decide),if_pos (by rw[Mu];lia)];show(ns.map V.int)[(-1+((ns.map V.int).length:Int)).toNat]?=_;rw[Mu,show(-1+(ns.length:Int)).toNat=k by lia,Mv,e];rfl
theorem EG(x:Int)(ms:List Int):JT (.int x) (ms.map V.int)=decide (x∈ms):=by
 unfold JT;rw[List.any_map,Bool.eq_iff_iff,List.any_eq_true];simp only[decide_eq_true_eq];constructor
 .rintro⟨y,hy,e⟩
  have e:Ao (.int y) (.int x)=true:=e;unfold Ao at e;have:y=x:=by simpa using e
  rw[←this];exact hy
 .intro h
  refine⟨x,h,?_⟩;show Ao (.int x) (.int x)=true;unfold Ao;simp
theorem y0(ms:List Int):(ms.map V.int).all kM=true:=by
 rw[List.all_map,List.all_eq_true];intro x _;rfl
def KL(n:Int)(xs r:List Int):Prop:=r≠[]/\∀(i:Nat)(x:Int),r[i]?=some x->1<=x/\x<=n/\r[(i+1)%r.length]?=some (ld xs x)
structure Ky(n:Int)(xs:List Int)(rs:List (List Int)):Prop where
 Mp:∀r∈rs,KL n xs r
 nd:rs.flatten.Nodup
 rest:∀x,1<=x->x<=n->x∉rs.flatten->ld xs x=x
theorem EJ{n:Int}{xs:List Int}(o:Ord n xs){x:Int}(h1:1<=x)(h2:x<=n){k:Nat}(h:k<eE xs x):br (ld xs) ((k+1)%eE xs x) x=ld xs (br (ld xs) k x):=by
 by_cases e:k+1<eE xs x
 .rw[Nat.mod_eq_of_lt e];rfl
 .have e:k+1=eE xs x:=by lia
  rw[e,Nat.mod_self];have:=lN o h1 h2;rw[←e]at this;exact this.symm
theorem Em{n:Int}{xs:List Int}(o:Ord n xs){x:Int}(h1:1<=x)(h2:x<=n):KL n xs (cq xs x):=by
 refine⟨List.ne_nil_of_mem (dn x),fun i y hy=>?_⟩;have hi:i<eE xs x:=by rw[←hU xs x];exact(List.getElem?_eq_some_iff.mp hy).1
 rw[hU];unfold cq at hy⊢;rw[Mv,List.getElem?_range hi]at hy;have hy:br (ld xs) i x=y:=by simpa using hy
 have r:=bS o h1 h2 i;rw[Mv,List.getElem?_range (Nat.mod_lt _ (by lia))];refine⟨by lia,by lia,?_⟩;show some (br (ld xs) ((i+1)%eE xs x) x)=_;rw[EJ o h1 h2 hi,hy]
theorem mx{n:Int}{xs:List Int}(o:Ord n xs){x:Int}(h1:1<=x)(h2:x<=n):(cq xs x).Nodup:=by
 unfold cq;rw[List.Nodup,List.pairwise_map];refine(List.Pairwise.and_mem.mp (List.pairwise_lt_range (n:=eE xs x))).imp ?_;rintro i j ⟨hi,hj,hij⟩ e;have hi:=List.mem_range.mp hi;have hj:=List.mem_range.mp hj;have e2:br (ld xs) (i+(j-i)) x=br (ld xs) i (br (ld xs) (j-i) x):=jv _ _ _ _;rw[show i+(j-i)=j by lia,←e]at e2;have q:=bS o h1 h2 (j-i);have:=nZ o h1 h2 q.1 q.2 i e2;exact mv (by lia) (by lia) this.symm
theorem qE{n:Int}{xs:List Int}(o:Ord n xs):(bT n xs).flatten.Nodup:=by
 unfold bT;rw[List.Nodup,List.pairwise_flatten];constructor
 .intro r hr
  obtain⟨x,hx,rfl⟩:=List.mem_map.mp hr;have hx:=bj.mp (List.mem_filter.mp hx).1;exact mx o hx.1 (by lia)
 .rw[List.pairwise_map]
  have nd:((bK 1 (n+1)).filter (least xs)).Nodup:=(bV 1 (n+1)).filter _;refine(List.Pairwise.and_mem.mp nd).imp ?_;rintro a b ⟨ha,hb,ne⟩ y hya z hzb e;subst e;have ha':=List.mem_filter.mp ha;have hb':=List.mem_filter.mp hb;have ia:=bj.mp ha'.1;have ib:=bj.mp hb'.1;have yb:=eB o ib.1 (by lia) hzb;have ab:b∈cq xs a:=fG o ia.1 (by lia) hya yb;have ba:a∈cq xs b:=eB o ia.1 (by lia) ab;have l1:=ha'.2;have l2:=hb'.2;unfold least at l1 l2;have e1:=of_decide_eq_true (List.all_eq_true.mp l1 b ab);have e2:=of_decide_eq_true (List.all_eq_true.mp l2 a ba);exact ne (by lia)
theorem yN{n:Int}{xs:List Int}(o:Ord n xs){x:Int}(h1:1<=x)(h2:x<=n):x∈(bT n xs).flatten:=by
 obtain⟨m,m1,m2,m3⟩:=wC o h1 h2;have mi:=iu o h1 h2 m1;refine List.mem_flatten.mpr ⟨cq xs m,?_,eB o h1 h2 m1⟩;unfold bT;exact List.mem_map.mpr ⟨m,List.mem_filter.mpr ⟨bj.mpr (by lia),m2⟩,rfl⟩
theorem DI{n:Int}{xs:List Int}(o:Ord n xs){r:List Int}(h:r∈bT n xs):KL n xs r:=by
 unfold bT at h;obtain⟨x,hx,rfl⟩:=List.mem_map.mp h;have hx:=bj.mp (List.mem_filter.mp hx).1;exact Em o hx.1 (by lia)
theorem AR(n:Int):Ky n (bK 1 (n+1)) []:=by
 refine⟨fun r h=>(by cases h),by simp,fun x h1 h2 _=>?_⟩;unfold ld;rw[ME,bR (by lia)];show 1+(((x-1).toNat:Nat):Int)=x;lia
end Sw
namespace L2
open PySem PySem.Spec PyProof.Rows
mutual
inductive DT(H:Hp)(P:MY->Prop):V->PyData->Prop
 |de:DT H P .de .none
 |bl (b:Bool):DT H P (.bl b) (.bool b)
 |int (i:Int):DT H P (.int i) (.int i)
 |str (x:Str):DT H P (.str x) (.str x)
 |lst {a:MY} {vs:List V} {ds:List PyData}:H a=some (.lst vs)->P a->rS H P vs ds->DT H P (.ref a) (.list ds)
 |tup {a:MY} {vs:List V} {ds:List PyData}:H a=some (.tup vs)->P a->rS H P vs ds->DT H P (.ref a) (.tuple ds)
inductive rS(H:Hp)(P:MY->Prop):List V->List PyData->Prop
 |nil:rS H P [] []
 |cons {v:V} {d:PyData} {vs:List V} {ds:List PyData}:DT H P v d->rS H P vs ds->rS H P (v::vs) (d::ds)
end
mutual
theorem DT.keep {H H':Hp}{P:MY->Prop}(k:z6 P H H'):∀{v:V}{d:PyData},DT H P v d->DT H' P v d
 |_,_,.de=> .de
 |_,_,.bl b=> .bl b
 |_,_,.int i=> .int i
 |_,_,.str x=> .str x
 |_,_,.lst h p r=> .lst (k _ _ p h) p (r.keep k)
 |_,_,.tup h p r=> .tup (k _ _ p h) p (r.keep k)
theorem rS.keep {H H':Hp}{P:MY->Prop}(k:z6 P H H'):∀{vs:List V}{ds:List PyData},rS H P vs ds->rS H' P vs ds
 |_,_,.nil=> .nil
 |_,_,.cons h r=> .cons (h.keep k) (r.keep k)
end
mutual
theorem DT.dat {K:W.Frag}{H:Hp}{P:MY->Prop}:∀{v:V}{d:PyData},DT H P v d->Dat K H P v d
 |_,_,.de=> .de
 |_,_,.bl b=> .bl b
 |_,_,.int i=> .int i
 |_,_,.str x=> .str x
 |_,_,.lst h p r=> .lst (aJ.of h) p r.dat
 |_,_,.tup h p r=> .tup (dI.of h) p r.dat
theorem rS.dat {K:W.Frag}{H:Hp}{P:MY->Prop}:∀{vs:List V}{ds:List PyData},rS H P vs ds->DatAll K H P vs ds
 |_,_,.nil=> .nil
 |_,_,.cons h r=> .cons h.dat r.dat
end
theorem rS.length {H:Hp}{P:MY->Prop}:∀{vs:List V}{ds:List PyData},rS H P vs ds->vs.length=ds.length
 |_,_,.nil=>rfl
 |_,_,.cons h r=>by rw[Mz,Mz,r.length]
theorem rS.get {H:Hp}{P:MY->Prop}:∀{vs:List V}{ds:List PyData}{i:Nat}{x:V},rS H P vs ds->vs[i]?=some x->∃d,ds[i]?=some d/\DT H P x d
 |_,_,_,_,.nil,e=>by simp at e
 |_,_,0,_,.cons h x,e=>by simp at e;subst e;exact⟨_,rfl,h⟩
 |_,_,i+1,_,.cons h x,e=>by
  obtain⟨d,e1,e2⟩:=x.get (i:=i) (by simpa using e);exact⟨d,by simpa using e1,e2⟩
def JS:PyData->String
 | .none=> "NoneType"
 | .bool _=> "bool"
 | .int _=> "int"
 | .str _=> "str"
 | .list _=> "list"
 | .tuple _=> "tuple"
 | .dict _=> "dict"
theorem DT.ty {K:W.Frag}{H:Hp}{P:MY->Prop}{v:V}{d:PyData}(h:DT H P v d):jX K H v (.type (JS d)):=by
 cases h with
 |de=>exact .de
 |bl b=>exact .bl b
 |int i=>exact .int i
 |str x=>exact .str x
 |lst h p r=>exact .lst h
 |tup h p r=>exact .tup h
def Mg:PyData->Bool
 | .list _=>true
 |_=>false
theorem Bd(K:W.Frag){H:Hp}{P:MY->Prop}{v:V}{d:PyData}(h:DT H P v d):W.kitOne K (.type (JS d)) (.type "list")=some (Mg d):=by
 cases h with
 |de=>exact aV K (show fh "NoneType" "list" =some false by decide+kernel)
 |bl b=>exact aV K (show fh "bool" "list" =some false by decide+kernel)
 |int i=>exact aV K (show fh "int" "list" =some false by decide+kernel)
 |str x=>exact aV K (show fh "str" "list" =some false by decide+kernel)
 |lst h p r=>exact aV K (show fh "list" "list" =some true by decide+kernel)
 |tup h p r=>exact aV K (show fh "tuple" "list" =some false by decide+kernel)
def LP:PyData->Bool
 | .tuple _=>true
 |_=>false
theorem kit_tuple(K:W.Frag){H:Hp}{P:MY->Prop}{v:V}{d:PyData}(h:DT H P v d):W.kitOne K (.type (JS d)) (.type "tuple")=some (LP d):=by
 cases h with
 |de=>exact aV K (show fh "NoneType" "tuple" =some false by decide+kernel)
 |bl b=>exact aV K (show fh "bool" "tuple" =some false by decide+kernel)
 |int i=>exact aV K (show fh "int" "tuple" =some false by decide+kernel)
 |str x=>exact aV K (show fh "str" "tuple" =some false by decide+kernel)
 |lst h p r=>exact aV K (show fh "list" "tuple" =some false by decide+kernel)
 |tup h p r=>exact aV K (show fh "tuple" "tuple" =some true by decide+kernel)
def L7:PyData->Bool
 | .int _=>true
 | .bool _=>true
 |_=>false
theorem E1(K:W.Frag){H:Hp}{P:MY->Prop}{v:V}{d:PyData}(h:DT H P v d):W.kitOne K (.type (JS d)) (.type "int")=some (L7 d):=by
 cases h with
 |de=>exact aV K (show fh "NoneType" "int" =some false by decide+kernel)
 |bl b=>exact aV K (show fh "bool" "int" =some true by decide+kernel)
 |int i=>exact aV K (show fh "int" "int" =some true by decide+kernel)
 |str x=>exact aV K (show fh "str" "int" =some false by decide+kernel)
 |lst h p r=>exact aV K (show fh "list" "int" =some false by decide+kernel)
 |tup h p r=>exact aV K (show fh "tuple" "int" =some false by decide+kernel)
def Mc:PyData->Bool
 | .bool _=>true
 |_=>false
theorem BP(K:W.Frag){H:Hp}{P:MY->Prop}{v:V}{d:PyData}(h:DT H P v d):W.kitOne K (.type (JS d)) (.type "bool")=some (Mc d):=by
 cases h with
 |de=>exact aV K (show fh "NoneType" "bool" =some false by decide+kernel)
 |bl b=>exact aV K (show fh "bool" "bool" =some true by decide+kernel)
 |int i=>exact aV K (show fh "int" "bool" =some false by decide+kernel)
 |str x=>exact aV K (show fh "str" "bool" =some false by decide+kernel)
 |lst h p r=>exact aV K (show fh "list" "bool" =some false by decide+kernel)
 |tup h p r=>exact aV K (show fh "tuple" "bool" =some false by decide+kernel)
section
variable{prog:M0}{w:M3}{A:M4}{E:MX->MZ->Prop}{s:MZ}
theorem BL{t b:MY}{ws:List MX}{Q:MX->MZ->Prop}(ht:IsTup s.heap t ([]:List MX).toArray)(hb:IsTup s.heap b ws.toArray)(h:Q (.ref b) s):Nf (model prog w) A (binaryOp .Add (.ref t) (.ref b)) Q E s:=by
 obtain⟨⟨cls,dd,data,sl⟩,ho,hc,n,hd⟩:=id ht;obtain⟨⟨cls2,dd2,data2,sl2⟩,ho2,hc2,n2,hd2⟩:=id hb;simp only at hc hd hc2 hd2;subst hc hd hc2 hd2;exact concat_meets ⟨_,ho,rfl⟩ ⟨_,ho2,rfl⟩ noFill_tuple_add seq_tuple_add PySem.F.slot_tuple_add PySem.F.entry_tuple_add (PySem.F.args_tuple_add_2 _ _)
  (tuple_addW0 t b ([]:List MX).toArray ws.toArray n n2 dd dd2 sl sl2 (by simp)) ⟨ho,ho2,h⟩
end
section
variable{X:Cx}{K:W.Frag}
def Fu(K:W.Frag):R2:=fun x y H Q=>∃a b xs ys,x= .ref a/\y= .ref b/\dI K H a xs/\dI K H b ys/\xs.length+ys.length<=M5/\
 (xs=[]->Q (.ref b) H)/\(xs≠[]->ys=[]->Q (.ref a) H)/\(xs≠[]->ys≠[]->∀p,H p=none->Q (.ref p) (upd H p (.tup (xs++ys))))
theorem rQ(hK:X.K=K):jP X (binaryOp .Add) (Fu K):=by
 subst hK;intro pins s σ H x y v u Q I rx ry h;obtain⟨a,b,xs,ys,rfl,rfl,ha,hb,hz,q0,q1,q2⟩:=h;cases rx;cases ry;obtain⟨its,r1,p1,_⟩:=I.tuple ha;obtain⟨its2,r2,p2,_⟩:=I.tuple hb;by_cases e:xs=[]
 .have ei:its=[]:=r1.nI.mpr e
  subst ei;exact BL p1 p2 ⟨.ref b,H,I,rfl,q0 e⟩
 .refine HT.EO p1 p2 (fun z=>e (r1.nI.mp z)) (fun z=>⟨.ref a,H,I,rfl,q1 e (r2.nI.mp z)⟩) (fun z=>?_) (by rw[←r1.length,←r2.length];exact hz)
  refine⟨.ref s.heap.objs.size,_,I.laid (t':=s.toks) (o:= .tup (xs++ys)) (fun b ob q=>Nc.get?_push_of_some _ q) (MP _) ?_,rfl,q2 e (fun w=>z (r2.nI.mpr w)) _ (I.aX.fresh (MP _))⟩;exact⟨by rw[Mw];exact hz,_,r1.append r2,IsTup.new _ _⟩
end
def jY(h:Nc)(e:MY)(b:Option MY:=none):Prop:=∃o vs c,h.get? e=some o/\o.data= .fields vs/\vs[2]?=some c/\(b=none->c=MX.none)
section
variable{M:Model}{A:M4}{E:MX->MZ->Prop}{s:MZ}{B:Nc}{env:Env}{outer:List Env}{L e:MY}{cls a0 c:MX}{b:Option MY}
abbrev Bl(head:MX)(L:MY)(pl:List MX):Obj:={cls:= .type "traceback",dict:=none,data:= .fields ([head,.ref L,.none,rawInt L,.none]++(if pl.isEmpty then List.replicate 6 MX.none else pl)).toArray}
theorem j5{o:Obj}{vs:Array MX}{head:MX}{hadNext:Bool}{Q:Unit->MZ->Prop}
  (fr:A.frames=some (env::outer)) (ff:s.heap.FunFrames B (env::outer)) (ef:env.frame=some L) (eo:s.heap.get? e=some o) (kb:B.StaysIn s.heap) (en:B.get? e=none) (ed:o.data= .fields vs) (z0:vs[0]?=some a0) (z2:vs[2]?=some c) (zb:b=none->c=MX.none)
  (k:∀h',Nc.NotedW B (env::outer) e o.cls a0 (rawInt L) s.heap h'->jY h' e b->Q () {s with heap:=h'}):
  Nf M A (do let a←frameOf env;let pl←entryPlaceOf L hadNext;let b←EntryCells.newEntry head a .none (rawInt L) .none pl;setField (.ref e) 1 b) Q E s:=by
 have n2:2<vs.size:=(Array.getElem?_eq_some_iff.mp z2).1;have n1:1<vs.size:=by lia
 have eno:e∉(env::outer).filterMap (·.frame):=fun hm=>by
  obtain⟨_,o',ho,hnf⟩:=ff.mem hm;rw[eo]at ho;cases ho;exact hnf vs ed
 refine M7 (wpAny_frameOf_fun fr ff ef fun g hs=>M7 (wpAny_entryPlaceOf fun pl hpl=>?_));unfold EntryCells.newEntry newFields;refine M7 (wpAny_newObj_type ?_ (hpl.sizeOk5 _ _ _ _ _));have eo1:g.get? e=some o:=(hs.2.1 e eno).trans eo;have kb1:B.StaysIn g:=fun b u hb=>(hs.2.1 b fun hm=>by rw[(ff.mem hm).1]at hb;cases hb).trans (kb b u hb);have eo2:=Nc.get?_push_of_some (h:=g) (Bl head L pl) eo1;have nT:g.objs.size≠e:=Nat.ne_of_gt (Nc.lt_size eo1);have d3:=Obj.data_mapFields ed (·.setIfInBounds 1 (MX.ref g.objs.size));have eo3:=Nc.get?_update_self (Obj.mapFields (·.setIfInBounds 1 (MX.ref g.objs.size))) eo2 (Obj.isFreed_of_fields d3);have tb3:=(Nc.get?_update_other (g.push (Bl head L pl)) (Obj.mapFields (·.setIfInBounds 1 (MX.ref g.objs.size))) (Ne.symm nT)).trans (Nc.get?_push_size g rfl);have gM:∀b u,b≠e->g.get? b=some u->((g.push (Bl head L pl)).update e (Obj.mapFields (·.setIfInBounds 1 (MX.ref g.objs.size)))).get? b=some u:=fun b u hbe hb=>
  (Nc.get?_update_other _ _ (Ne.symm hbe)).trans (Nc.get?_push_of_some _ hb)
 have noE:∀b u,s.heap.get? b=some u->(∀ws,u.data≠.fields ws)->b≠e:=fun b u hb hnf q=>by
  rw[q,eo]at hb;cases hb;exact hnf vs ed
 refine wpAny_setField eo2 ed n1 (k _ ⟨fun b u hb=>gM b u (fun q=>by rw[q,en]at hb;cases hb) (kb1 b u hb),ff.of_keeps fun b u hb hnf=>?_,?_,fun b u hb hnf=>?_⟩ ⟨_,_,c,eo3,d3,?_,zb⟩)
 .obtain⟨sl,hq⟩:=hs.2.2 b u hb
  exact⟨_,gM b _ (noE b u hb hnf) hq,rfl⟩
 .refine⟨_,_,g.objs.size,_,_,eo3,⟨Obj.cls_mapFields _ _,?_⟩,d3,by simp[n1],kb1.fresh,nT,tb3,rfl,?_⟩
  .rw[Array.getElem?_setIfInBounds_ne (by decide)];exact z0
  .rcases hpl with rfl|⟨_,_,_,_,_,_,_,rfl⟩<;>simp
 .obtain⟨sl,hq⟩:=hs.2.2 b u hb
  exact⟨sl,gM b _ (noE b u hb hnf) hq⟩
 .rw[Array.getElem?_setIfInBounds_ne (by decide)];exact z2
theorem jY.sees {h:Nc}(l:jY h e b)(t:h.TracedW B e cls a0):∃oe vs T oT ts c,(b=none->c=MX.none)/\h.get? e=some oe/\oe.cls=cls/\vs[0]?=some a0/\vs[2]?=some c/\oe.data= .fields vs/\vs[1]?=some (.ref T)/\B.get? T=none/\T≠e/\h.get? T=some oT/\oT.data= .fields ts/\ts[3]?=some .none:=by
 obtain⟨o,vs,c,h1,h2,h3,hb⟩:=l;obtain⟨oe,ws,T,oT,ts,g1,⟨g2,g3⟩,g4,g5,g6,g7,g8,g9,g10⟩:=t;rw[h1]at g1;cases g1;rw[h2]at g4;cases g4;exact⟨o,vs,T,oT,ts,c,hb,h1,g2,g3,h3,h2,g5,g6,g7,g8,g9,g10⟩
theorem qJ{Q:Unit->MZ->Prop}(fr:A.frames=some (env::outer))(ef:env.frame=some L)(fl:Nc.FlyingW B (env::outer) e cls a0 s.heap)(l:jY s.heap e b)
  (k:∀h',Nc.HeldW B (env::outer) e cls a0 L h'->s.heap.UpToSlots h'->jY h' e b->Q () {s with heap:=h'}):Nf M A (noteFrame (.ref e) env) Q E s:=by
 obtain⟨kb,en,ff,t⟩:=fl;obtain⟨oe,vs,T,oT,ts,c,hb,eo,rfl,z0,z2,ed,z1,tn,nT,et,dT,z3⟩:=l.sees t;unfold noteFrame;simp only[ef];refine M7 (wpAny_field eo ed z1 ?_);rw[if_pos (by simp)];refine M7 (wpAny_field et dT z3 ?_);rw[if_neg (by simp[rawInt])];refine M7 (wpAny_setField et dT (Array.getElem?_eq_some_iff.mp z3).1 ?_);have oth:∀b,b≠T->(s.heap.update T (Obj.mapFields (·.setIfInBounds 3 MX.none))).get? b=s.heap.get? b:=fun b hb=>Nc.get?_update_other _ _ (Ne.symm hb);have noT:∀b u,s.heap.get? b=some u->(∀ws,u.data≠.fields ws)->b≠T:=fun b u hb hnf q=>by
  rw[q,et]at hb;cases hb;exact hnf ts dT
 refine j5 fr (ff.of_keeps fun b u hb hnf=>⟨u,(oth b (noT b u hb hnf)).trans hb,rfl⟩) ef ((oth e (Ne.symm nT)).trans eo) (fun b u hb=>(oth b fun q=>by rw[q,tn]at hb;cases hb).trans (kb b u hb)) en ed z0 z2 hb fun h' ⟨x1,x2,x3,x4⟩ l'=>?_;exact k h' ⟨x1,en,x2,x3⟩ (fun b u hb hnf=>x4 b u ((oth b (noT b u hb hnf)).trans hb) hnf) l'
theorem jB{fl:MX}{l:List Env}{Q:Unit->MZ->Prop}(kb:B.StaysIn s.heap)(en:B.get? e=none)(ff:s.heap.FunFrames B l)(t:s.heap.TracedAtW B e cls a0 fl)(lo:jY s.heap e b)
  (k:∀h',Nc.FlyingW B l e cls a0 h'->s.heap.UpToSlots h'->jY h' e b->Q () {s with heap:=h'}):Nf M A (setFlight (.ref e) none) Q E s:=by
 obtain⟨o,vs,c,h1,h2,h3,hcb⟩:=lo;obtain⟨oe,ws,T,oT,ts,g1,g2,g4,g5,g6,g7,g8,g9,g10⟩:=t;rw[h1]at g1;cases g1;rw[h2]at g4;cases g4;have sz:3<ts.size:=(Array.getElem?_eq_some_iff.mp g10).1;have oth:∀b,b≠T->(s.heap.update T (Obj.mapFields (·.setIfInBounds 3 ((none:Option MY).elim MX.none fun f=>rawInt f)))).get? b=s.heap.get? b:=fun b hb=>Nc.get?_update_other _ _ (Ne.symm hb);have noT:∀b u,s.heap.get? b=some u->(∀ws,u.data≠.fields ws)->b≠T:=fun b u hb hnf q=>by
  rw[q,g8]at hb;cases hb;exact hnf ts g9
 have e':=(oth e (Ne.symm g7)).trans h1;unfold setFlight;refine M7 (wpAny_field h1 h2 g5 ?_);rw[if_pos (by simp)];refine wpAny_setField g8 g9 sz (k _ ⟨fun b u hb=>(oth b fun q=>by rw[q,g6]at hb;cases hb).trans (kb b u hb),en,ff.of_keeps fun b u hb hnf=>⟨u,(oth b (noT b u hb hnf)).trans hb,rfl⟩,?_⟩ (fun b u hb hnf=>⟨u.slots,(oth b (noT b u hb hnf)).trans hb⟩) ⟨o,vs,c,e',h2,h3,hcb⟩);exact⟨o,vs,T,_,_,e',g2,h2,g5,g6,g7,Nc.get?_update_self _ g8 (Obj.isFreed_of_fields (Obj.data_mapFields g9 _)),Obj.data_mapFields g9 _,by simp[sz]⟩
theorem vJ{Q:Unit->MZ->Prop}(fr:A.frames=some (env::outer))(ef:env.frame=some L)(fl:Nc.FlyingW B (env::outer) e cls a0 s.heap)(l:jY s.heap e b)
  (k:∀h',Nc.FlyingW B (env::outer) e cls a0 h'->s.heap.UpToSlots h'->jY h' e b->Q () {s with heap:=h'}):Nf M A (leaving env (.ref e)) Q E s:=by
 unfold leaving;refine M7 (qJ fr ef fl l fun g hh sm l'=>?_);obtain⟨f1,f2,f3,f4⟩:=hh;exact jB (s:={s with heap:=g}) f1 f2 f3 f4 l' fun h' a1 a2 a3=>k h' a1 (sm.trans a2) a3
theorem wg{o:Obj}{vs:Array MX}{Q:Unit->MZ->Prop}(fr:A.frames=some (env::outer))(ff:s.heap.FunFrames B (env::outer))(ef:env.frame=some L)(eo:s.heap.get? e=some o)(kb:B.StaysIn s.heap)(en:B.get? e=none)(ed:o.data= .fields vs)(z0:vs[0]?=some a0)(z1:vs[1]?=some .none)(z2:vs[2]?=some c)(zb:b=none->c=MX.none)
  (k:∀h',Nc.FlyingW B (env::outer) e o.cls a0 h'->s.heap.UpToSlots h'->jY h' e b->Q () {s with heap:=h'}):Nf M A (leaving env (.ref e)) Q E s:=by
 unfold leaving noteFrame;simp only[ef];refine M7 (M7 (wpAny_field eo ed z1 ?_));rw[if_neg (by decide)];refine j5 fr ff ef eo kb en ed z0 z2 zb fun g hn l'=>?_;obtain⟨f1,f3,f4,sm⟩:=hn;exact jB (s:={s with heap:=g}) f1 en f3 f4 l' fun h' a1 a2 a3=>k h' a1 (Nc.UpToSlots.trans sm a2) a3
end
theorem bF.here {P:M0}{w:M3}{H:Hp}{h:Nc}{a:MY}{o:HO}(x:bF P w H h a o):∃ob,h.get? a=some ob:=by
 cases o with
 |lst xs=>obtain⟨_,_,_,_,e⟩:=x;exact⟨_,e⟩
 |tup xs=>obtain⟨_,_,_,ob,e,_⟩:=x;exact⟨_,e⟩
 |dK kvs=>obtain⟨_,_,_,_,o,_,_,e,_⟩:=x;exact⟨_,e⟩
 |dT kvs=>obtain⟨_,_,_,_,o,_,_,e,_⟩:=x;exact⟨_,e⟩
 |set S n=>obtain⟨o,_,_,_,e,_⟩:=x;exact⟨_,e⟩
 |ins C dx fs=>obtain⟨_,_,_,e,_⟩:=x;exact⟨_,e⟩
 |own y=>obtain⟨_,e⟩:=x;exact⟨_,e⟩
 |xd fs=>obtain⟨_,⟨_,_,_,e,_⟩,_⟩:=x;exact⟨_,e⟩
 |m6 lo hi=>obtain⟨_,_,_,e⟩:=x;exact⟨_,e⟩
 |tY ob u=>obtain⟨e,_⟩:=x;exact⟨_,e⟩
 |Fj ps=>exact⟨_,(show h.get? a=some _ from x)⟩
 |met f y=>exact⟨_,(show h.get? a=some _ from x)⟩
 |ext φ=>obtain⟨_,⟨_,e⟩,_⟩:=x;exact⟨_,e⟩
structure tV(P:M0)(w:M3)(fr:List Env)(H:Hp)(h:Nc)(e:MY)(cls a0:MX)(B:Nc)(H':Hp)(h':Nc)(bb:Option MY:=none):Prop where
 un:Un (fV fr) [] H H' h h'
 aX:jF P w H' h'
 fl:Nc.FlyingW B fr e cls a0 h'
 old:∀b o o',h.get? b=some o->b∉fV fr->h'.get? b=some o'->B.get? b=some o'
 tN:∀b u o',H' b=some u->h'.get? b=some o'->B.get? b=some o'
 nY:∀b∈fV fr,H' b=none
 lo:jY h' e bb
section
variable{P:M0}{w:M3}{fr:List Env}{H H':Hp}{h h' h'':Nc}{e:MY}{cls a0:MX}{B:Nc}{bb:Option MY}
theorem tV.FG (fun_:Un (fV fr) [] H H' h h')(fhok:jF P w H' h')(ff:h'.FunFrames B fr)(fold:∀b o o',h.get? b=some o->b∉fV fr->h'.get? b=some o'->B.get? b=some o')
  (ftrk:∀b u o',H' b=some u->h'.get? b=some o'->B.get? b=some o') (ffrf:∀b∈fV fr,H' b=none) (fl:Nc.FlyingW B fr e cls a0 h'') (sm:h'.UpToSlots h'') (lo:jY h'' e bb):tV P w fr H h e cls a0 B H' h'' bb where
 un:=by
  refine⟨fun b o q n hb hx=>?_,fun b o q n hb hx=>?_,fun_.free,fun b o q hx=>?_,fun_.bH,fun_.iy,fun_.iN⟩
  .have e1:=fun_.keep b o q n hb hx
   exact fl.1 b o (fold b o o q hb e1)
  .obtain⟨sl,e1⟩:=fun_.slot b o q n hb hx
   obtain⟨_,o1,e2,nf⟩:=ff.mem hb;rw[e1]at e2;cases e2;obtain⟨sl',e3⟩:=sm b _ e1 nf;exact⟨sl',e3⟩
  .obtain⟨o1,e1⟩:=fun_.there b o q hx
   by_cases hb:b∈fV fr
   .obtain⟨_,o2,e2,nf⟩:=ff.mem hb
    rw[e1]at e2;cases e2;obtain⟨sl',e3⟩:=sm b _ e1 nf;exact⟨_,e3⟩
   .exact⟨o1,fl.1 b o1 (fold b o o1 q hb e1)⟩
 aX:=fun a o q=>(fhok a o q).gM (fun b u hb z=>by
   rcases hb with rfl|hb
   .exact fl.1 b u (ftrk b _ u q z)
   .exact fl.1 b u (ftrk b _ u hb z)) (fun _ z=>z) fun _ _ z=>z
 fl:=fl
 old:=fun b o o' q hb z=>by
  obtain⟨o1,e1⟩:=fun_.there b o q (by simp);have e2:=fold b o o1 q hb e1;have e3:=fl.1 b o1 e2;rw[z]at e3;cases e3;exact e2
 tN:=fun b u o' q z=>by
  obtain⟨o1,e1⟩:=(fhok b u q).here;have e2:=ftrk b u o1 q e1;have e3:=fl.1 b o1 e2;rw[z]at e3;cases e3;exact e2
 nY:=ffrf
 lo:=lo
theorem tV.move (F:tV P w fr H h e cls a0 B H' h' bb)(fl:Nc.FlyingW B fr e cls a0 h'')(sm:h'.UpToSlots h'')(lo:jY h'' e bb):tV P w fr H h e cls a0 B H' h'' bb:=tV.FG F.un F.aX F.fl.2.2.1 F.old F.tN F.nY fl sm lo
theorem tV.out {X:Cx}{pins:List (MY×Obj)}{σ:St}{s:MZ}(I:Inv X pins σ H s)(hst:X.stack=X.env::X.outer)(hex:X.ex=[])(F:tV P w X.stack H s.heap e cls a0 B H' h' bb):tV P w X.outer X.H₀ X.s₀.heap e cls a0 B H' h' bb:=by
 have nx:∀b:MY,b∉X.ex:=fun b z=>by rw[hex]at z;cases z
 have ns:∀b o,X.s₀.heap.get? b=some o->b∉fV X.outer->b∉fV X.stack:=fun b o q hb z=>by
  rcases List.mem_cons.mp (I.i7 b z)with r|r
  .subst r
   exact absurd (MQ (Nc.lt_size q) I.ok.above) (Nat.lt_irrefl _)
  .exact hb r
 have so:∀b∈fV X.outer,b∈fV X.stack:=fun b z=>by
  rw[hst];unfold fV at z⊢;rw[List.filterMap_cons]
  split
  .exact z
  .exact MH _ z
 refine⟨⟨fun b o q n hb hx=>?_,fun b o q n hb hx=>?_,fun b o q n hx=>?_,fun b o q hx=>?_,fun b xs q=>F.un.bH b xs (I.base.bH b xs q),fun b o u q=>F.un.iy b o u (I.base.iy b o u q),fun b ps q=>?_⟩,F.aX,?_,fun b o o' q hb z=>?_,F.tN,fun b hb=>F.nY b (so b hb),F.lo⟩
 .exact F.un.keep b o (I.base.keep b o q n hb (nx b)) (I.base.free b o q n (nx b)) (ns b o q hb) (by simp)
 .obtain⟨sl,e1⟩:=I.base.slot b o q n hb (nx b)
  obtain⟨sl',e2⟩:=F.un.any e1 (I.base.free b o q n (nx b)) (by simp);exact⟨sl',e2⟩
 .obtain⟨o1,e1⟩:=I.base.there b o q (nx b)
  exact F.un.free b o1 e1 (I.base.free b o q n (nx b)) (by simp)
 .obtain⟨o1,e1⟩:=I.base.there b o q (nx b)
  exact F.un.there b o1 e1 (by simp)
 .obtain⟨m1,e1⟩:=I.base.iN b ps q
  obtain⟨m2,e2⟩:=F.un.iN b _ e1;exact⟨m1++m2,by rw[e2,Array.append_assoc]⟩
 .have f:=F.fl
  rw[hst]at f;exact⟨f.1,f.2.1,f.2.2.1.2.2,f.2.2.2⟩
 .obtain⟨o1,e1⟩:=I.base.there b o q (nx b)
  exact F.old b o1 o' e1 (ns b o q hb) z
end
def i3(P:M0)(w:M3):om:=fun fr H s E ev s'=>∃(e:MY)(cls a0:MX)(B:Nc)(H':Hp)(bb:Option MY),ev= .ref e/\s'.os=s.os/\AllBare s'.gens/\tV P w fr H s.heap e cls a0 B H' s'.heap bb/\E cls bb H'
section
variable{P:M0}{w:M3}{K:W.Frag}{mg:Str->Option MX}{base:Nc}{N:List Str}{qual:Str}{scope:Scope}{f:MY}{cdv:MX}{A:M4}{outer:List Env}{s:MZ}{H:Hp}{E:XK}
abbrev vG(P:M0)(w:M3)(K:W.Frag)(mg:Str->Option MX)(base:Nc)(N:List Str)(qual:Str)(scope:Scope)(f:MY)(cdv:MX)(A:M4)(outer:List Env)(s:MZ)(H:Hp)(E:XK):Cx:=pV (i3 P w) P w K mg base N qual scope f cdv A outer s H E
theorem eT:Passes (i3 P w) (vG P w K mg base N qual scope f cdv A outer s H E) E:=by
 intro pins σ H₁ s₁ ev s' I h;obtain⟨e,cls,a0,B,H',bb,rfl,os,bare,F,q⟩:=h;show Nf _ _ (leaving _ (.ref e)) _ _ s';refine vJ (B:=B) I.ok.frames rfl F.fl F.lo fun h'' fl sm lo=>?_;exact⟨e,cls,a0,B,H',bb,rfl,os.trans I.os,bare,tV.out I rfl rfl (F.move fl sm lo),q⟩
theorem DK{pins:List (MY×Obj)}{σ:St}{H₁:Hp}{s₁:MZ}{h':Nc}{e:MY}{cls:MX}{args:List MX}(I:Inv (vG P w K mg base N qual scope f cdv A outer s H E) pins σ H₁ s₁)
  (M:Nc.MadeExcOf s₁.heap h' e cls args) (q:E cls none H₁):(vG P w K mg base N qual scope f cdv A outer s H E).xe (.ref e) {s₁ with heap:=h'}:=by
 obtain⟨t,he,htn,ht⟩:=M.there;show Nf _ _ (leaving _ (.ref e)) _ _ _;have st:=I.stack;have ff:=W.funFrames_hide (as:=fV (vG P w K mg base N qual scope f cdv A outer s H E).stack) st fun env hm a ha=>List.mem_filterMap.mpr ⟨env,hm,ha⟩;have hen:(W.hideAll s₁.heap (fV (vG P w K mg base N qual scope f cdv A outer s H E).stack)).get? e=none:=by
  cases z:(W.hideAll s₁.heap (fV (vG P w K mg base N qual scope f cdv A outer s H E).stack)).get? e with
  |none=>rfl
  |some o=>have:=W.of_hideAll _ z;rw[M.new]at this;cases this
 refine wg (b:=none) (B:=W.hideAll s₁.heap (fV (vG P w K mg base N qual scope f cdv A outer s H E).stack)) (a0:= .ref t) I.ok.frames (ff.of_keeps fun b o hb _=>⟨o,M.keeps b o hb,rfl⟩) rfl he (fun b o z=>M.keeps b o (W.of_hideAll _ z)) hen rfl rfl rfl rfl (fun _=>rfl) fun h'' fl k4 lo=>?_;refine⟨e,cls,.ref t,W.hideAll s₁.heap (fV (vG P w K mg base N qual scope f cdv A outer s H E).stack),H₁,none,rfl,I.os,I.bare,tV.out I rfl rfl (tV.FG (h':=h') (Un.kept M.keeps) (I.aX.kept M.keeps) (ff.of_keeps fun b o hb _=>⟨o,M.keeps b o hb,rfl⟩) (fun b o o' z hb zz=>?_) (fun b u o' z zz=>?_) I.nU fl k4 lo),q⟩
 .have:=M.keeps b o z
  rw[zz]at this;cases this;exact W.hideAll_get _ z hb
 .obtain⟨o1,e1⟩:=(I.aX b u z).here
  have:=M.keeps b o1 e1;rw[zz]at this;cases this;exact W.hideAll_get _ e1 fun hb=>by rw[I.nU b hb]at z;cases z
end
abbrev Md:List MX:=[.type "ValueError",.type "Exception",.type "BaseException",.type "object"]
abbrev j4(K:W.Frag)(C:MY):Prop:=W.excIn K C Md "ValueError.__new__" =true
theorem GV{K:W.Frag}{h:Nc}{mg:Str->Option MX}{x:Str}{C:MY}{bmB:List MX}{newId:String}(X:K.In h)(hm:mg x=some (.ref C))(q:W.excIn K C bmB newId=true):OwnCls x C bmB newId mg h:=by
 refine⟨hm,?_⟩;unfold W.excIn at q
 split at q
 .rename_i dd cd sl ho
  split at q
  .rename_i C' bm k0 k1 k2 k3 n k5 hm hs
   simp only[Bool.and_eq_true,beq_iff_eq,Bool.not_eq_true']at q;obtain⟨⟨⟨⟨⟨rfl,rfl⟩,hdel⟩,ht⟩,aX⟩,hni⟩:=q;obtain⟨nm,bs,mro,ns,qn,hd,sn,sub,ab,col,del⟩:=cd;dsimp only at hm hdel aX hni;subst hm hdel;have hsl:sl= #[k0,k1,k2,k3,some (.builtin n),k5]:=by
    obtain⟨l⟩:=sl;simp only at hs;rw[hs]
   subst hsl;exact⟨bm,ns,nm,qn,bs,hd,sn,sub,ab,col,dd,k0,k1,k2,k3,k5,_,X _ _ ho,.of_isNs (W.isNs_of_in X aX),W.nsMap_none_of_in X aX hni,W.tail_of_in X ht⟩
  .cases q
 .cases q
def Hg(E:XK)(cls:MX)(ta:TA):TS:=fun _ σ H=>ta σ H fun vs H1=>vs.length<=M5/\E cls none H1
section
variable{X:Cx}{E:XK}{C:MY}{x:Str}{np cpos pos:Pos}{e₀:Expr}{rest:List Expr}{ta:TA}
def Lz(X:Cx)(E:XK):Prop:=∀(pins:List (MY×Obj))(σ:St)(H:Hp)(s:MZ)(h':Nc)(e:MY)(cls:MX)(args:List MX),Inv X pins σ H s->Nc.MadeExcOf s.heap h' e cls args->E cls none H->X.xe (.ref e) {s with heap:=h'}
theorem dP(L:Lz X E)(O:j4 X.K C)(hc:X.calm=true)(hg:Gl X x)(hm:X.mg x=some (.ref C))(ha:PA X (e₀::rest) ta)(hdb:(x==("__debug__" :Str))=false:=by decide)
  (he:Na (e₀::rest) X.env=(false,eval e₀ X.env)::Na rest X.env:=by rfl) (hpl:(Nd cpos (Na rest X.env)).any (·.1)=false:=by rfl):
  PS X (.Raise (some (.Call (.Name x np) (e₀::rest) [] cpos)) none pos) (Hg E (.ref C) ta):=by
 intro pins s σ H D I h;obtain⟨tl,N,nm,q,bs,hdct,sn,sub,ab,col,dd,k0,k1,k2,k3,k5,mN,hC,hN,hni,T⟩:=(GV I.mod.De hm O).obj;refine wpAny_Raise_call_subT (C:=C) (nm:=nm) (q:=q) (N:=N) (bs:=bs) (bm:=tl) (hdct:=hdct) (sn:=sn) (sub:=sub) (ab:=ab) (col:=col) (dd:=dd) (k0:=k0) (k1:=k1) (k2:=k2) (k3:=k3) (k5:=k5)
  PySem.F.excBase_ValueError (mN:=mN) (T.hasType (by decide)) (I.ok.hd hc) (by rw[he];show(false||(Nd cpos (Na rest X.env)).any (·.1))=false;rw[hpl];rfl) hni (jo I hg hm ⟨rfl,?_⟩ hdb)
 have hq:=ha cpos pins s σ H _ I h;rw[he]at hq⊢;refine Calls.evalArgs_plain (M9 hq (fun us s₂ h₂=>?_) fun _ _ y=>y);obtain⟨vs,H2,I2,r,z,ez⟩:=h₂;refine⟨rfl,by rw[←r.length];exact z,I2.bk _ _ hC,hN.keeps I2.bk,T.keeps I2.bk,fun h' e M=>L pins σ H2 s₂ h' e _ _ I2 M ez⟩
end
section
variable{P:M0}{w:M3}{K:W.Frag}{mg:Str->Option MX}{base:Nc}{N:List Str}{qual:Str}{scope:Scope}{f:MY}{cdv:MX}{A:M4}{outer:List Env}{s:MZ}{H:Hp}{E:XK}
theorem pU:Lz (vG P w K mg base N qual scope f cdv A outer s H E) E:=fun _ _ _ _ _ _ _ _ I M q=>DK I M q
theorem Ja:PassesOwn (model P w) (vG P w K mg base N qual scope f cdv A outer s H E).A (vG P w K mg base N qual scope f cdv A outer s H E).env (vG P w K mg base N qual scope f cdv A outer s H E).xe:=PassesOwn.leaving
theorem dO.Aa {x qual:Str}{st:Ng}{f:MY}{fd:Nb}{N ps:List Str}{k:Nat}{sp:Sp}(F:dO K x qual st f fd)(S:aA N ps (ar st))(len:∀vs H Q E,sp vs H Q E->vs.length=ps.length)
  (hbody:∀(cdv:MX)(A:M4)(outer:List Env)(s:MZ)(H:Hp)(vs:List V)(Q:VK)(E:XK),df k (A.deeper (envOfC qual (ar st) s.heap.objs.size f cdv))->sp vs H Q E->
   ∃t,qg (vG P w K mg base N qual (ar st) f cdv A outer s H E) (dB st) t/\t {nx:=fun _ H'=>Q .de H',rt:=Q} (start N vs) H):aR P w K mg base (i3 P w) (k+1) f fd ps sp:=by
 obtain⟨oc,od,kV,doc,pm,an,cdv,ct,osl,rfl,lk,hcd⟩:=F.ex;exact FF lk hcd S len fun A outer s H vs Q E hr hsp=>hbody cdv A outer s H vs Q E hr hsp
end
open PySem PySem.Spec PyProof.Rows PySem.W PySem.Builtin PySem.Builtin.ObjectAttr PySem.Builtin.Getset_descriptor
structure uc(K:Frag)(C:MY):Prop where
 ga:findIn K (.ref C) "__getattribute__" =some (some (.builtin "BaseException.__getattribute__"))
 gt:findIn K (.ref C) "__getattr__" =some none
 fd:findIn K (.ref C) "__class__" =some (some (.builtin "object.__class__"))
 sp:specialIn K (.builtin "object.__class__") "__get__" =some (some (.builtin "getset_descriptor.__get__"))
 tk:takesIn K (.builtin "object.__class__")=some true
 mo:mroIn K C (.type "object")=some true
 mb:mroIn K C (.type "BaseException")=some true
 cl:(clsIn K C).isSome=true
def An(h:Nc)(x C:MY)(b:Option MY:=none):Prop:=∃ox,h.get? x=some ox/\ox.cls= .ref C/\∃vs c,ox.data= .fields vs/\vs[2]?=some c/\(b=none->c=MX.none)
theorem An.type {M:Model}{h:Nc}{x C:MY}{bb:Option MY}(I:An h x C bb):Looks M h (typeOf (.ref x)) (.ref C):=by
 obtain⟨ox,h1,h2,_⟩:=I;exact h2▸(Looks.ld h1).andThen .now
section
variable{prog:M0}{w:M3}{A:M4}{E:MX->MZ->Prop}{s:MZ}{K:Frag}{x C:MY}
theorem A5{M:Model}{h:Nc}(X:K.In h)(c:uc K C):Looks M h (Ni.ObjectAttr.find (.ref x) (.ref C) "__class__") (.bind (.builtin "getset_descriptor.__get__") (.builtin "object.__class__")):=by
 refine(looks_findIn X c.fd).andThen ((looks_specialIn X c.sp).andThen ?_);exact(show Looks M h (Ni.ObjectAttr.dataDescriptor? (some (.builtin "object.__class__")) (some (.builtin "getset_descriptor.__get__"))) (some (.builtin "getset_descriptor.__get__",.builtin "object.__class__"))from(looks_takesIn X c.tk).andThen .now).andThen (Looks.tag .now)
theorem pS{bb:Option MY}{R:Result->MZ->Prop}{tp:MX}(X:K.In s.heap)(I:An s.heap x C bb)(hm:mroIn K C (.type "object")=some true)
  (h:R (.ok (.ret (.ref C))) s):codeAny (model prog w) A (.call (.builtin "getset_descriptor.__get__") ⟨[.builtin "object.__class__",.ref x,tp],[]⟩) R s:=by
 obtain⟨hh,g,dr,t,os⟩:=s;have L0:=I.type (M:=model prog w);have L1:=looks_mroIn (M:=model prog w) X hm;refine codeAny_call_builtin KF.slot_gs.plain KF.entry_gs (KF.slot_gs.check _ _ _ _ _ _ _ _ KF.type_class (KF.args_gs _ _ _) ?_);unfold Ni.«getset_descriptor.__get__» descrGet;rw[dga_obj];refine M7 (M8 ?_);unfold descrGetter descrCheckInstance descrNameAndClass isInstance;simp only[KF.owner_class]
 repeat lk
 refine⟨Code.quiet_builtin _ (by decide+kernel),codeAny_builtin KF.entry_class ?_⟩;unfold Ni.«object.__class__» shownTypeOf
 repeat lk
 exact h
theorem rT{bb:Option MY}{M:Model}{nameV:MX}{Q:Unit->MZ->Prop}(c:uc K C)(X:K.In s.heap)(I:An s.heap x C bb)(hq:Q () s):Nf M A (checkBuiltinCall "BaseException.__getattribute__" ⟨[.ref x,nameV],[]⟩) Q E s:=by
 obtain⟨h,g,d,t,os⟩:=s;have hk:builtinKind "BaseException.__getattribute__" =some .slot:=by decide+kernel
 have hsplit:splitId "BaseException.__getattribute__" =some ("BaseException","__getattribute__"):=by decide+kernel
 have L0:Looks M h (isInstance (.ref x) (.type "BaseException")) true:=I.type.andThen (looks_mroIn X c.mb);have ha:=F.args_bexc_ga (.ref x) nameV;simp only[checkBuiltinCall,hk,hsplit];refine M7 (L0.at ?_)
 repeat(any_goals(first|assumption|wp_step))
theorem oZ{bb:Option MY}{tk:Tok}{R:Result->MZ->Prop}(c:uc K C)(X:K.In s.heap)(I:An s.heap x C bb)(h:R (.ok (.ret (.ref C))) s):
  codeAny (model prog w) A (.call (.builtin "BaseException.__getattribute__") ⟨[.ref x,.str "__class__" tk],[]⟩) R s:=by
 refine codeAny_call_builtin F.attrBase_ValueError.ga.plain F.entry_bexc_ga (rT c X I ?_);have L0:=I.type (M:=model prog w);have L1:=A5 (x:=x) (M:=model prog w) X c;obtain⟨hh,gg,d,t,os⟩:=s;unfold Ni.«object.__getattribute__»
 repeat(any_goals(first|assumption|with_reducible refine M7 (L0.at ?_)|with_reducible refine M7 (L1.at ?_)|wp_step))
 exact pS X I c.mo (M8 h)
theorem zW{bb:Option MY}{Q:Option MX->MZ->Prop}(c:uc K C)(X:K.In s.heap)(I:An s.heap x C bb)(h:Q (some (.ref C)) {s with toks:=s.toks+1}):Nf (model prog w) A (getAttr? (.ref x) "__class__") Q E s:=by
 obtain⟨hh,g,d,t,os⟩:=s;have L0:=I.type (M:=model prog w);have L1:=looks_findIn (M:=model prog w) X c.ga;have L2:=looks_findIn (M:=model prog w) X c.gt;have f3:=F.attrBase_ValueError.ga.bind (.ref x);have hx2:(MX.builtin "BaseException.__getattribute__" ==MX.builtin "object.__getattribute__")=false:=by decide+kernel
 have hx1:(onTheHeap (MX.ref C)&&MX.builtin "BaseException.__getattribute__" ==MX.builtin "object.__getattribute__")=false:=by rw[hx2];rfl
 unfold getAttr? getAttrBy? getAttrBy;refine M7 (wpAny_mkText (M7 (wpAny_attempt (wpAny_holding (M7 (L0.at (M7 (L1.at ?_))))))));dsimp only;rw[hx1,if_neg MU];unfold getAttrByItsOwn hookBefore;rw[if_pos (show onTheHeap (MX.ref C)=true from rfl)];refine M7 (L2.at ?_);refine M7 (wpAny_attempt (wpAny_holding ?_));unfold callGetattribute boundAndCalled;rw[Bool.false_and,if_neg MU];refine M7 (wpAny_of_eq f3 ?_);refine wpAny_call (oZ (s:=⟨hh,g,d,t+1,os⟩) c X I ?_);exact handed_on rfl (M8 h)
theorem tT{bb:Option MY}(c:uc K C):KitX K (.ref x) (.ref C) (fun h=>An h x C bb)where
 ty:=fun _ _ _ I=>I.type
 it:=fun _ _ X _=>by
  obtain⟨cdD,hcD⟩:=Option.isSome_iff_exists.mp c.cl;unfold clsIn at hcD
  split at hcD
  .rename_i c' d' cd' sl' ho
   intro A' Q' E' s' k q;unfold isType loadHead;exact M7 (wpAny_loadPart (k _ _ (X _ _ ho)) (M8 q))
  .cases hcD
 ne:=fun h tp dd its n sl X htp=>by
  obtain⟨cdD,hcD⟩:=Option.isSome_iff_exists.mp c.cl;refine Bool.eq_false_iff.mpr fun q=>?_;have e:C=tp:=MX.ref.inj (beq_iff_eq.mp q);subst e;unfold clsIn at hcD
  split at hcD
  .rename_i c' d' cd' sl' ho
   have z:=(X _ _ ho).symm.trans htp;cases z
  .cases hcD
 ca:=fun X I k=>zW c X I k
end
abbrev HO.exc (e C:MY)(bb:Option MY:=none):HO:= .ext fun h=>An h e C bb
theorem An.ok {P:M0}{w:M3}{H:Hp}{e C:MY}{h:Nc}{bb:Option MY}(x:An h e C bb):bF P w H h e (.exc e C bb):=by
 obtain⟨ox,h1,h2,_⟩:=id x;refine⟨x,⟨ox,h1⟩,fun g1 g2 p k=>?_⟩;obtain⟨oy,a1,a2⟩:=p;exact⟨oy,k _ a1,a2⟩
def J6(K:Frag):List V->Hp->VK->Prop:=fun xs H Q=>∃(e C:MY)(c:V)(cv:MX)(b:Bool),xs=[.ref e,c]/\H e=some (.exc e C)/\uc K C/\(∀u,RelV c u->u=cv)/\kitOne K (.ref C) cv=some b/\Q (.bl b) H
theorem IE{X:Cx}{K:Frag}(hK:X.K=K):bY X (.builtin "isinstance") (J6 K):=by
 subst hK;intro pins s σ H xs us Q I r h;obtain⟨e,C,c,cv,b,rfl,he,ci,hc,hb,q⟩:=h
 match us,r with
 |[u1,u2],.cons r1 (.cons r2 .nil)=>
  obtain rfl:u1= .ref e:=r1;obtain rfl:=hc _ r2;obtain⟨x,_,_⟩:=I.aX e _ he;exact kia_one (tT ci) I.jr x hb (fun z=>nomatch z) fun tk=>⟨.bl b,H,I.tok tk,rfl,q⟩
def GI(K:Frag):List V->Hp->VK->Prop:=fun xs H Q=>∃(e C:MY)(bb:Option MY)(c:V)(cv:MX)(b:Bool),xs=[.ref e,c]/\H e=some (.exc e C bb)/\uc K C/\(∀u,RelV c u->u=cv)/\kitOne K (.ref C) cv=some b/\Q (.bl b) H
theorem bB{X:Cx}{K:Frag}(hK:X.K=K):bY X (.builtin "isinstance") (GI K):=by
 subst hK;intro pins s σ H xs us Q I r h;obtain⟨e,C,bb,c,cv,b,rfl,he,ci,hc,hb,q⟩:=h
 match us,r with
 |[u1,u2],.cons r1 (.cons r2 .nil)=>
  obtain rfl:u1= .ref e:=r1;obtain rfl:=hc _ r2;obtain⟨x,_,_⟩:=I.aX e _ he;exact kia_one (tT ci) I.jr x hb (fun z=>nomatch z) fun tk=>⟨.bl b,H,I.tok tk,rfl,q⟩
structure Gp(K:Frag)(C D:MY)(b:Bool):Prop where
 ty:typeIn K (.ref D)=some (.type "type")
 cd:(clsIn K D).isSome=true
 mb:mroIn K D (.type "BaseException")=some true
 mc:mroIn K C (.ref D)=some b
section
variable{M:Model}{A:M4}{E:MX->MZ->Prop}{s:MZ}{K:Frag}{e C D:MY}{b:Bool}
theorem y7{h:Nc}(X:K.In h)(c:(clsIn K D).isSome=true):Looks M h (isType (.ref D)) true:=by
 obtain⟨cdD,hcD⟩:=Option.isSome_iff_exists.mp c;unfold clsIn at hcD
 split at hcD
 .rename_i c' d' cd' sl' ho
  intro A' Q' E' s' k q;unfold isType loadHead;exact M7 (wpAny_loadPart (k _ _ (X _ _ ho)) (M8 q))
 .cases hcD
theorem uE{bb:Option MY}{Q:Bool->MZ->Prop}(m:Gp K C D b)(X:K.In s.heap)(I:An s.heap e C bb)(hq:Q b s):Nf M A (excMatches (.ref e) (.ref D)) Q E s:=by
 obtain⟨h,g,d,t,os⟩:=s;have L1:Looks M h (isInstance (.ref D) (.type "tuple")) false:=(looks_typeIn X m.ty).andThen (Looks.of_pure tc_notTuple);have L2:=y7 (M:=M) X m.cd;have L3:=looks_mroIn (M:=M) X m.mb;have L4:=I.type (M:=M);have L5:=looks_mroIn (M:=M) X m.mc;have L6:Looks M h (isExcClass (.ref D)) true:=L2.andThen L3;unfold excMatches;refine M7 (L1.at ?_);rw[if_neg MU];refine M7 (M8 ?_);simp only[List.forIn_cons,List.forIn_nil];refine M7 (M7 (M7 (L6.at ?_)));simp only[Bool.not_true,Bool.false_eq_true,if_false];refine M8 (M8 (M7 (L4.at ?_)));refine M7 (M7 (M7 (L5.at ?_)));cases b
 .exact M8 (M8 (M8 hq))
 .exact M8 (M8 (M8 hq))
end
def lP(X:Cx)(pins:List (MY×Obj))(σ:St)(H:Hp)(s:MZ)(e:MY)(cls:MX)(bb:Option MY:=none):Prop:=
 ∃(H₁:Hp)(s₁:MZ)(B:Nc)(a0:MX),Inv X pins σ H₁ s₁/\s.os=s₁.os/\AllBare s.gens/\tV X.prog X.w X.stack H₁ s₁.heap e cls a0 B H s.heap bb
section
variable{X:Cx}{pins:List (MY×Obj)}{σ:St}{H:Hp}{s:MZ}{e:MY}{cls:MX}{bb:Option MY}
theorem lP.inv (h:lP X pins σ H s e cls bb):Inv X pins σ H s:=by
 obtain⟨H₁,s₁,B,a0,I,os,bare,F⟩:=h;exact I.B3 (ch:=[]) os F.un F.aX bare fun b z=>absurd z (by simp)
theorem lP.LK {C:MY}(h:lP X pins σ H s e (.ref C) bb):An s.heap e C bb:=by
 obtain⟨H₁,s₁,B,a0,I,os,bare,F⟩:=h;obtain⟨o,h1,h2⟩:=F.fl.there;obtain⟨o',vs,c,g1,g2,g3,g4⟩:=F.lo;rw[h1]at g1;cases g1;exact⟨o,h1,h2,vs,c,g2,g3,g4⟩
theorem lP.free (h:lP X pins σ H s e cls bb):H e=none:=by
 obtain⟨H₁,s₁,B,a0,I,os,bare,F⟩:=h
 cases q:H e with
 |none=>rfl
 |some u=>
  obtain⟨o,ho⟩:=(F.aX e u q).here;have:=F.tN e u o q ho;rw[F.fl.2.1]at this;cases this
theorem lP.lands {M:Model}{A:M4}{E:MX->MZ->Prop}{Q:Unit->MZ->Prop}(h:lP X pins σ H s e cls bb)(k:∀h',lP X pins σ H {s with heap:=h'} e cls bb->Q () {s with heap:=h'}):Nf M A (setFlight (.ref e) none) Q E s:=by
 obtain⟨H₁,s₁,B,a0,I,os,bare,F⟩:=h;exact jB F.fl.1 F.fl.2.1 F.fl.2.2.1 F.fl.2.2.2.at F.lo fun h' fl sm lo=>k h' ⟨H₁,s₁,B,a0,I,os,bare,F.move fl sm lo⟩
theorem lP.xU {C:MY}(h:lP X pins σ H s e (.ref C) bb):Inv X pins σ (upd H e (.exc e C bb)) s:=by
 have hf:=h.free;have hx:=h.LK;obtain⟨H₁,s₁,B,a0,I,os,bare,F⟩:=h;have new:s₁.heap.get? e=none:=by
  cases q:s₁.heap.get? e with
  |none=>rfl
  |some o=>
   obtain⟨o',ho'⟩:=F.un.there e o q (by simp);by_cases hb:e∈fV X.stack
   .obtain⟨_,o2,e2,nf⟩:=F.fl.2.2.1.mem hb
    obtain⟨oe,vs,T,oT,ts,he,_,hd,_⟩:=F.fl.2.2.2;rw[he]at e2;cases e2;exact absurd hd (nf vs)
   .have:=F.old e o o' q hb ho'
    rw[F.fl.2.1]at this;cases this
 have ne:∀b o,s₁.heap.get? b=some o->b≠e:=fun b o q z=>by rw[z,new]at q;cases q
 have nt:∀b u,H b=some u->b≠e:=fun b u q z=>by rw[z,hf]at q;cases q
 refine I.B3 (ch:=[]) os ⟨F.un.keep,F.un.slot,fun b o q n hx=>?_,F.un.there,fun b xs q=>?_,fun b o u q=>?_,fun b ps q=>?_⟩ (fun b u q=>?_) bare fun b z=>absurd z (by simp)
 .rw[aq (ne b o q)];exact F.un.free b o q n hx
 .have:=F.un.bH b xs q
  rw[aq (nt b _ this)];exact this
 .have:=F.un.iy b o u q
  rw[aq (nt b _ this)];exact this
 .obtain⟨m,e1⟩:=F.un.iN b ps q
  exact⟨m,by rw[aq (nt b _ e1)];exact e1⟩
 .by_cases hb:b=e
  .subst hb
   rw[ae]at q;cases q;exact hx.ok
  .rw[aq hb]at q
   exact(F.aX b u q).gM (fun _ _ _ z=>z) (fun c z=>by rw[aq (nt c _ z)];exact z) fun c xs z=>by rw[aq (nt c _ z)];exact z
end
abbrev Xh(X:Cx)(e:MY):Cx:={X with A:=X.A.mark (some (.ref e)),calm:=false,xe:=fun _ _=>False}
section
variable{X:Cx}{pins:List (MY×Obj)}{σ:St}{H:Hp}{s:MZ}{e:MY}{D:Ends}
theorem Inv.LD (I:Inv X pins σ H s)(e:MY):Inv (Xh X e) pins σ H s:=
 ⟨⟨I.ok.mod,I.ok.kind,I.ok.glob,I.ok.blt,I.ok.above,I.ok.inj,I.ok.has,I.ok.Ca,(fun h=>Bool.noConfusion h),I.ok.frames,I.ok.Ar,I.ok.Fq,I.ok.bs,I.ok.yF,I.ok.oJ,I.ok.pZ,I.ok.iq,I.ok.nY⟩,I.os,I.bare,I.base,I.loc,I.cell,I.free,I.eX,I.pin,I.aX,I.len⟩
theorem Inv.IA (I:Inv (Xh X e) pins σ H s)(ok:X.Ok):Inv X pins σ H s:=⟨ok,I.os,I.bare,I.base,I.loc,I.cell,I.free,I.eX,I.pin,I.aX,I.len⟩
theorem SP.IA {f:Flow}{s':MZ}(h:SP (Xh X e) pins D f s')(ok:X.Ok):SP X pins D f s':=by
 cases f with
 |next=>obtain⟨σ',H',I,q⟩:=h;exact⟨σ',H',I.IA ok,q⟩
 |brk=>obtain⟨σ',H',I,q⟩:=h;exact⟨σ',H',I.IA ok,q⟩
 |cont=>obtain⟨σ',H',I,q⟩:=h;exact⟨σ',H',I.IA ok,q⟩
 |ret u=>obtain⟨v,σ',H',I,r,q⟩:=h;exact⟨v,σ',H',I.IA ok,r,q⟩
theorem nO{M:Model}{A:M4}{E:MX->MZ->Prop}{i:Nat}{x:Str}{pos:Pos}{Q:Unit->MZ->Prop}(I:Inv X pins σ H s)(hN:X.N.Nodup)(hi:X.N[i]?=some x)(hk:X.env.scope.names.lookup x=some .local)
  (h:∀s',Inv X pins (σ.set i none) H s'->Q () s'):Nf M A (do bindName X.env x .none;unbindBehindTheSuite X.env x pos) Q E s:=by
 obtain⟨m,hn,hl⟩:=id I.loc;have hcls:(X.env.scope.kind== .class||(X.env.scope.kind== .module&&X.env.locals !=X.env.globals))=false:=by rw[I.ok.kind];rfl
 have hiσ:i<σ.length:=by rw[I.len];exact(List.getElem?_eq_some_iff.mp hi).1
 have Ax:=I.Ax;obtain⟨oL,_,_,hoL,_⟩:=id hn;refine wpAny_nameGoes_keeps hk hn hcls fun h' v hn' hs=>?_;refine h _ ⟨I.ok,I.os,I.bare,⟨fun b o e n hb hx=>?_,fun b o e n hb hx=>?_,I.base.free,fun b o e hx=>?_,I.base.bH,I.base.iy,I.base.iN⟩,⟨_,hn',fun j y v' e1 e2 e3=>?_⟩,fun y c e=>?_,I.free,I.eX,fun p hp=>?_,fun b ob e=>?_,by simpa using I.len⟩
 .exact(hs.2 b (MR (MQ (Nc.lt_size e) I.ok.above))).trans (I.base.keep b o e n hb hx)
 .obtain⟨sl,e1⟩:=I.base.slot b o e n hb hx
  exact⟨sl,(hs.2 b (MR (MQ (Nc.lt_size e) I.ok.above))).trans e1⟩
 .obtain⟨o',e1⟩:=I.base.there b o e hx
  exact⟨o',(hs.2 b (MR (MQ (Nc.lt_size e) I.ok.above))).trans e1⟩
 .by_cases hj:j=i
  .subst hj
   rw[List.getElem?_set_self hiσ]at e2;cases e2
  .rw[List.getElem?_set_ne (Ne.symm hj)]at e2
   obtain⟨u',r',q⟩:=hl j y v' e1 e2 e3;refine⟨u',r',?_⟩;rcases q with⟨k,e⟩|⟨k,c,e,z⟩
   .refine .inl ⟨k,?_⟩
    have:y≠x:=fun e=>hj (oM hN e1 (e▸hi));simp[this,e]
   .exact .inr ⟨k,c,e,z.sameBut hs (Ax y c e)⟩
 .obtain⟨w',z⟩:=I.cell y c e
  exact⟨w',z.sameBut hs (Ax y c e)⟩
 .obtain⟨e,n,ne,nf,d⟩:=I.pin p hp
  exact⟨(hs.2 p.1 ne).trans e,n,ne,nf,d⟩
 .refine(I.aX b ob e).gM (fun c w' hc q=>(hs.2 c ?_).trans q) (fun _ q=>q) fun _ _ q=>q
  rintro rfl;rcases hc with rfl|hc
  .rw[I.free]at e;cases e
  .rw[I.free]at hc;cases hc
end
abbrev TH:=Ends->St->MX->MY->Hp->Prop
def Jp:TH:=fun _ _ _ _ _=>False
def LQ(X:Cx)(pins:List (MY×Obj))(Es:St->XK):MX->MZ->Prop:=fun ev s'=>∃(σ:St)(H₁:Hp)(s₁:MZ),Inv X pins σ H₁ s₁/\i3 X.prog X.w X.stack H₁ s₁ (Es σ) ev s'
abbrev Xt(X:Cx)(pins:List (MY×Obj))(Es:St->XK):Cx:={X with pn:=X.pn++pins,xe:=LQ X pins Es}
section
variable{X:Cx}{pins:List (MY×Obj)}{Es:St->XK}{σ:St}{H:Hp}{s:MZ}
theorem Inv.toT (I:Inv X pins σ H s):Inv (Xt X pins Es) [] σ H s:=
 ⟨⟨I.ok.mod,I.ok.kind,I.ok.glob,I.ok.blt,I.ok.above,I.ok.inj,I.ok.has,I.ok.Ca,I.ok.hd,I.ok.frames,I.ok.Ar,I.ok.Fq,I.ok.bs,I.ok.yF,I.ok.oJ,I.ok.pZ,I.ok.iq,I.ok.nY⟩,I.os,I.bare,I.base,I.loc,I.cell,I.free,I.eX,fun p hp=>I.pin p (by simpa using hp),I.aX,I.len⟩
theorem Inv.ofT {ps':List (MY×Obj)}(I:Inv (Xt X pins Es) ps' σ H s):Inv X pins σ H s:=
 ⟨⟨I.ok.mod,I.ok.kind,I.ok.glob,I.ok.blt,I.ok.above,I.ok.inj,I.ok.has,I.ok.Ca,I.ok.hd,I.ok.frames,I.ok.Ar,I.ok.Fq,I.ok.bs,I.ok.yF,I.ok.oJ,I.ok.pZ,I.ok.iq,I.ok.nY⟩,I.os,I.bare,I.base,I.loc,I.cell,I.free,I.eX,fun p hp=>I.pin p (MK _ hp),I.aX,I.len⟩
theorem SP.ofT {D:Ends}{f:Flow}{s':MZ}(h:SP (Xt X pins Es) [] D f s'):SP X pins D f s':=by
 cases f with
 |next=>obtain⟨σ',H',I,q⟩:=h;exact⟨σ',H',I.ofT,q⟩
 |brk=>obtain⟨σ',H',I,q⟩:=h;exact⟨σ',H',I.ofT,q⟩
 |cont=>obtain⟨σ',H',I,q⟩:=h;exact⟨σ',H',I.ofT,q⟩
 |ret u=>obtain⟨v,σ',H',I,r,q⟩:=h;exact⟨v,σ',H',I.ofT,r,q⟩
end
structure eV(P:M0)(w:M3)(K:W.Frag)(mg:Str->Option MX)(base:Nc)(x:Str)(k:Nat)(ps:List Str)(sp:Sp):Prop where
 ex:∃(f:MY)(fd:Nb),aR P w K mg base (i3 P w) k f fd ps sp/\mg x=some (.ref f)/\W.keepIn K (.ref f)=true/\Binds K fd ps []
section
variable{X:Cx}{x:Str}{k:Nat}{ps:List Str}{sp:Sp}{e:Expr}{es:List Expr}{t:TA}{p pos:Pos}
theorem bG{E:XK}(F:eV X.prog X.w X.K X.mg X.base x k ps sp)(hx:Passes (i3 X.prog X.w) X E)(hr:df k X.A)(hg:Gl X x)(ha:PA X (e::es) t)(hdb:(x==("__debug__" :Str))=false:=by decide+kernel)(he:Na (e::es) X.env=(false,eval e X.env)::Na es X.env:=by rfl)(hpl:(Nd pos (Na es X.env)).any (·.1)=false:=by rfl):
  PE X (.Call (.Name x p) (e::es) [] pos) (tS sp [] E t):=by
 obtain⟨f,fd,F,hm,hk,hb⟩:=F.ex;exact ye F hr hg hm hk hb .nil hx ha hdb he hpl
end
open PySem PySem.Spec PyProof.Rows PySem.SeqAt
theorem fc{X:Cx}{x:Str}{C:MY}{pos:Pos}(hg:Gl X x)(hm:X.mg x=some (.ref C))(hd:(x==("__debug__" :Str))=false:=by decide):PE X (.Name x pos) (tC (.ref C)):=dR (v:= .ref C) hg hm rfl hd
section
variable{X:Cx}{K:W.Frag}
def Ef(K:W.Frag):V->List V->Hp->VK->Prop:=fun x vs H Q=>∃(l:MY)(bs:List Bool)(b:Bool),x= .ref l/\vs=[.bl b]/\H l=some (.lst (bs.map V.bl))/\Q (.int (bs.count b:Nat)) H
theorem zA(hK:X.K=K):Aw X "list.count" (Ef K):=by
 subst hK;intro pins s σ H x vs v us Q I rx rv h;obtain⟨l,bs,b,rfl,rfl,hH,q⟩:=h;cases rx;obtain⟨u,rfl,ru⟩:=rv.one;cases(show u=MX.bool b from ru);obtain⟨z,its,n,r,hl,e⟩:=I.o5 hH;have eq:=ik r;subst eq;refine call_meets F.slot_list_count ⟨_,e,rfl⟩ F.entry_list_count (F.args_list_count_2 _ _) (list_countAt l _ n none #[] (.bool b) (fun y=>y== .bool b)) ⟨e,fun y hy=>?_,?_⟩
 .obtain⟨c,_,rfl⟩:=List.mem_map.mp (Array.mem_def.mp hy)
  have:((MX.bool c==MX.bool b):Bool)=(c==b):=by cases c<;>cases b<;>rfl
  rw[this];exact EqAt.bool_bool c b
 .refine⟨.int (bs.count b:Nat),H,I.tok _,⟨s.toks,?_⟩,q⟩
  have:∀l:List Bool,(l.map MX.bool).countP (fun y=>y== .bool b)=l.count b:=fun l=>by
   rw[List.countP_map,List.count];congr 1;funext c;cases c<;>cases b<;>rfl
  simp only[List.toList_toArray];rw[this]
end
section
variable{X:Cx}{K:W.Frag}
def DC:V->List V->Hp->VK->Prop:=fun x vs H Q=>∃(l:MY)(xs:List V)(i:Int)(y:V),x= .ref l/\vs=[.int i,y]/\H l=some (.lst xs)/\0<=i/\i<=xs.length/\xs.length<=1000000/\Q .de (upd H l (.lst (xs.take i.toNat++y::xs.drop i.toNat)))
theorem HK(its:List MX)(k:Nat)(y:MX):(its.toArray.extract 0 k).push y++its.toArray.extract k=(its.take k++y::its.drop k).toArray:=by
 apply Array.toList_inj.mp;simp[MI]
theorem zT:Aw X "list.insert" DC:=by
 intro pins s σ H x vs v us Q I rx rv h;obtain⟨l,xs,i,y,rfl,rfl,hH,h0,h1,hz,q⟩:=h;cases rx;obtain⟨u,u',rfl,⟨t,rfl⟩,ru⟩:=vals2 rv;obtain⟨z,its,n,r,hl,e⟩:=I.o5 hH;have big:(10000000:Nat)<=M5:=by decide
 refine call_meets F.slot_list_insert ⟨_,e,rfl⟩ F.entry_list_insert (F.args_list_insert_3 _ _ _) (PySem.AutoSeq1.list_insert_list_int_val_1 l its.toArray n i t u' (by rw[fitsIndex_both (by lia) (by lia)];simp) (by rw[ML];lia)) ⟨e,?_⟩;refine⟨.de,_,I.Eh (its':=its.take i.toNat++u'::its.drop i.toNat) hH e ?_ ((r.take _).append (.cons ru (r.drop _))) ?_,rfl,q⟩
 .dsimp only
  rw[if_neg (by lia)];have:min i.toNat its.toArray.size=i.toNat:=by rw[ML];lia
  rw[this];exact HK its _ u'
 .rw[Mw,MB,Mz,List.length_drop]
  lia
end
theorem lI{c k p es env}:Na (.Constant c k p::es) env=(false,eval (.Constant c k p) env)::Na es env:=rfl
theorem bt{x p es env}:Na (.Name x p::es) env=(false,eval (.Name x p) env)::Na es env:=rfl
theorem pj{a o b p es env}:Na (.BinOp a o b p::es) env=(false,eval (.BinOp a o b p) env)::Na es env:=rfl
theorem bI{f a k p es env}:Na (.Call f a k p::es) env=(false,eval (.Call f a k p) env)::Na es env:=rfl
theorem C5{a b p es env}:Na (.Subscript a b p::es) env=(false,eval (.Subscript a b p) env)::Na es env:=rfl
def Hc:Expr->Option V
 | .Constant (.int i) _ _=>some (.int i)
 | .Constant (.str s) _ _=>some (.str s)
 |_=>none
def xA:List Expr->Option (List V)
 |[]=>some []
 |e::es=>match Hc e,xA es with
  |some v,some vs=>some (v::vs)
  |_,_=>none
def Dl(vs:List V):TA:=fun _ H Q=>Q vs H
theorem qH{X:Cx}:∀(es:List Expr)(vs:List V),xA es=some vs->PA X es (Dl vs)
 |[],vs,h=>by cases h;exact af
 |e::es,vs,h=>by
  unfold xA at h
  cases h1:Hc e with
  |none=>rw[h1]at h;cases h
  |some v=>
   cases h2:xA es with
   |none=>rw[h1,h2]at h;cases h
   |some ws=>
    rw[h1,h2]at h;cases h;have ih:=qH (X:=X) es ws h2;unfold Hc at h1
    split at h1
    .cases h1
     exact aa ai ih lI
    .cases h1
     exact aa aK ih lI
    .cases h1
theorem qB{X:Cx}:bY X (.builtin "len") (fun xs H Q=>∃p kvs,xs=[.ref p]/\H p=some (.dK kvs)/\Q (.int (kvs.length:Int)) H):=by
 intro pins s σ H xs us Q I r h;obtain⟨p,kvs,rfl,e,q⟩:=h;obtain⟨u,rfl,rx⟩:=vals1 r;cases rx;exact IT I (.inl e) fun t s' I'=>⟨.int _,H,I',⟨t,rfl⟩,q⟩
end L2
namespace Sw
open PySem L2
def top(i:Nat):Ng:=PySem.Challenge.pw_swapstars_k77_a_desk_of_the_great_round.main.body.getD i (.Pass ⟨0,0,0,0⟩)
theorem ID(b:Bool): -(2^64)<(if b=true then(1:Int)else 0)/\(if b=true then(1:Int)else 0)<2^64/\0<=(if b=true then(1:Int)else 0):=by cases b<;>decide
structure bD(H:Hp)(p:MY)(c:Nat):Prop where
 ex:∃(a b d:Int),H p=some (.lst [.int a,.int b,.int d])/\0<=a/\0<=b/\b<2147483647/\0<=d/\d<=c/\c<=100000
def yr(K:W.Frag):Sp:=fun vs H Q _=>∃(a:MY)(ns:List Int)(i:Int),vs=[.ref a,.int i]/\aJ K H a (ns.map V.int)/\0<=i/\i<=1000/\∀p H',H p=none->bD H' p 0->ah H H'->Q (.ref p) H'
def mH:Sp:=fun vs H Q _=>∃(p:MY)(c:Nat)(m:Int),vs=[.ref p,.int m]/\bD H p c/\c<100000/\0<m/\m<2^200/\∀r H',0<=r->r<m->bD H' p (c+1)->aN p H H'->Q (.int r) H'
section
variable{P:M0}{w:M3}{K:W.Frag}{mg:Str->Option MX}{base:Nc}
theorem dY:aA ["_law_purse_here","_law_many","_law_turn","_law_one","_law_other_here","_law_digit"] ["_law_purse_here","_law_many"] (ar (top 117)):=⟨rfl,rfl,rfl,by decide+kernel,rfl,by decide+kernel,by decide+kernel⟩
theorem Fc{f:MY}{fd:Nb}(F:dO K "_law_take" "_law_take" (top 117) f fd):aR P w K mg base gh 1 f fd ["_law_purse_here","_law_many"] mH:=by
 refine F.ok dY (fun vs H Q E h=>?_) (fun cdv A outer s H vs Q E hr h=>?_)
 .obtain⟨p,c,m,rfl,_⟩:=h
  rfl
 .obtain⟨p,c,m,rfl,⟨a,b,d,hp,ha,hb,hb2,hd,hdc,hc0⟩,hc,hm,hm2,k⟩:=h
  refine⟨_,(ag (a8 (ax jS (aU (az (K:=K) rfl) (pv 0) ai (fun _ _=>rfl)) ai (aG _)) (ag (aC (i:=5) dY.nd rfl (Or.inl rfl) (av gC (aU (az (K:=K) rfl) (pv 0) ai (fun _ _=>rfl)) (pv 1)))
   (ag (j3 (av uQ (aU (az (K:=K) rfl) (pv 0) ai (fun _ _=>rfl)) (pv 1)) (ot (pv 0) ai set_list))
   (aj (ay (pv 5))))) aE)
   (ag (j3 (av aS (aU (az (K:=K) rfl) (pv 0) ai (fun _ _=>rfl)) ai) (ot (pv 0) ai set_list))
   (ag (aC (i:=2) dY.nd rfl (Or.inl rfl) (aU (az (K:=K) rfl) (pv 0) ai (fun _ _=>rfl)))
   (ag (aC (i:=3) dY.nd rfl (Or.inl rfl) (av gC (av rZ (av aS (av aS (aU (az (K:=K) rfl) (pv 0) ai (fun _ _=>rfl)) (av ki (av ki ai (pv 2)) (pv 2))) ai) ai) ai))
   (ag (aC (i:=4) dY.nd rfl (Or.inl rfl) (av gC (av rZ (av aS (av ki (pv 3) (av aS (av ki ai (pv 2)) ai)) (pv 2)) ai) ai))
   (aj (ay (av gC (av uQ (av aS (av ki (pv 3) ai) (pv 4)) ai) (pv 1))))))))),?_⟩
  refine⟨_,rfl,p,_,_,_,rfl,rfl,aJ.of hp,rfl,_,_,rfl,rfl,_,rfl,?_⟩;refine cN (fun _=>?_) (fun _=>?_)
  .refine⟨_,rfl,p,_,_,_,rfl,rfl,aJ.of hp,rfl,_,rfl,_,_,rfl,rfl,hm,?_⟩
   refine⟨_,rfl,p,_,_,_,rfl,rfl,aJ.of hp,rfl,_,rfl,_,_,rfl,rfl,⟨hm,hm2⟩,_,rfl,p,_,_,0,rfl,rfl,hp,rfl,?_⟩;refine⟨_,rfl,?_⟩;exact k _ _ (Int.emod_nonneg _ (by lia)) (Int.emod_lt_of_pos _ hm) ⟨_,_,_,ae,Int.ediv_nonneg ha (by lia),hb,hb2,hd,by lia,by lia⟩ aN.upd
  .refine⟨_,rfl,p,_,_,_,rfl,rfl,aJ.of hp,rfl,_,_,rfl,rfl,_,rfl,p,_,_,2,rfl,rfl,hp,rfl,?_⟩
   have h1:upd H p (.lst [.int a,.int b,.int (d+1)]) p=some (.lst [.int a,.int b,.int (d+1)]):=ae;refine⟨_,rfl,p,_,_,_,rfl,rfl,aJ.of h1,rfl,?_⟩;have posM:(0:Int)<2147483647:=by decide
   have posN:(0:Int)<998244353:=by decide
   have t0:0<=d+1:=by lia
   have t1:d+1<=200000:=by lia
   have t2:0<=48271*(d+1)*(d+1):=Int.mul_nonneg (by lia) t0;have t3:48271*(d+1)*(d+1)<=48271*200000*200000:=Int.mul_le_mul (by lia) t1 t0 (by lia);refine⟨_,rfl,p,_,_,_,rfl,rfl,aJ.of h1,rfl,_,rfl,_,_,rfl,rfl,.inl ⟨by lia,by lia⟩,_,rfl,_,_,rfl,rfl,.inr ⟨by lia,by lia⟩,_,_,rfl,rfl,_,_,rfl,rfl,_,_,rfl,rfl,⟨by lia,by lia,by lia⟩,_,_,rfl,rfl,posM,?_⟩;have o0:0<=((b+48271*(d+1)*(d+1)+1)^Int.toNat 5%2147483647):=Int.emod_nonneg _ (by decide);have o1:((b+48271*(d+1)*(d+1)+1)^Int.toNat 5%2147483647)<2147483647:=Int.emod_lt_of_pos _ (by decide);have u0:0<=((b+48271*(d+1)*(d+1)+1)^Int.toNat 5%2147483647)*(2*(d+1)+30011):=Int.mul_nonneg o0 (by lia);have u1:((b+48271*(d+1)*(d+1)+1)^Int.toNat 5%2147483647)*(2*(d+1)+30011)<=2147483647*430011:=Int.mul_le_mul (by lia) (by lia) (by lia) (by lia);refine⟨_,rfl,_,rfl,_,_,rfl,rfl,.inl ⟨by lia,by lia⟩,_,_,rfl,rfl,_,_,rfl,rfl,.inl ⟨by lia,by lia⟩,_,rfl,_,_,rfl,rfl,_,_,rfl,rfl,⟨by lia,by lia,by lia⟩,_,_,rfl,rfl,posN,?_⟩;refine⟨_,rfl,_,_,rfl,rfl,.inl ⟨by lia,by lia⟩,_,rfl,_,_,rfl,rfl,_,_,rfl,rfl,⟨by decide,by decide⟩,_,rfl,_,_,rfl,rfl,hm,?_⟩;exact k _ _ (Int.emod_nonneg _ (by lia)) (Int.emod_lt_of_pos _ hm) ⟨_,_,_,h1,ha,hb,hb2,t0,by lia,by lia⟩ aN.upd
structure xi(mg:Str->Option MX):Prop where
 bE:mg "len" =none
 J1:mg "abs" =none
 yP:mg "int" =none
theorem eR:aA ["_law_script","_law_at","_law_cell","_law_far"] ["_law_script","_law_at"] (ar (top 116)):=⟨rfl,rfl,rfl,by decide+kernel,rfl,by decide+kernel,by decide+kernel⟩
theorem Bo{f:MY}{fd:Nb}(F:dO K "_law_purse" "_law_purse" (top 116) f fd)(T:xi mg):aR P w K mg base gh 1 f fd ["_law_script","_law_at"] (yr K):=by
 refine F.ok eR (fun vs H Q E h=>?_) (fun cdv A outer s H vs Q E hr h=>?_)
 .obtain⟨a,ns,i,rfl,_⟩:=h
  rfl
 .obtain⟨a,ns,i,rfl,hs,hi,hi2,k⟩:=h
  refine⟨_,(ag (aC (i:=2) eR.nd rfl (Or.inl rfl) ai)
   (ag (a8 (ax oK (pv 1) (ak (aL (K:=K) rfl) rfl T.bE (by decide+kernel) (aa (pv 0) af)) (aG _)) (aj (aC (i:=2) eR.nd rfl (Or.inl rfl) (aU (az (K:=K) rfl) (pv 0) (pv 1) (fun _ _=>rfl)))) aE)
   (ag (aC (i:=3) eR.nd rfl (Or.inl rfl) (ak AL rfl T.J1 (by decide+kernel) (aa (pv 2) af)))
   (aj (ay (bu (@aa _ _ _ _ _ (av ki (pv 3) (aF qK rfl T.yP (by decide+kernel) (aa (rW Ga (pv 3) (av rZ ai ai) (aG _)) af))) (@aa _ _ _ _ _ (av gC (av aS (av aS (av gC (pv 2) ai) (av ki ai (pv 1))) ai) ai) (@aa _ _ _ _ _ ai af lI) pj) pj))))))),?_⟩
  have posM:(0:Int)<2147483647:=by decide
  refine⟨_,rfl,_,rfl,a,_,rfl,.inl hs,_,_,rfl,rfl,_,rfl,?_⟩;refine cN (fun hlt=>?_) (fun _=>?_)
  .have hlt:i<((ns.map V.int).length:Int):=of_decide_eq_true hlt
   rw[Mu]at hlt;have hx:∃x,ns[i.toNat]?=some x:=by
    rw[Mx (by lia)];exact⟨_,rfl⟩
   obtain⟨x,hx⟩:=hx;have ha:uu (ns.map V.int) i=some (V.int x):=by
    have e:((i.toNat:Nat):Int)=i:=Int.toNat_of_nonneg hi;rw[←e];exact aZ (by rw[Mv,hx];rfl)
   refine⟨_,rfl,_,rfl,a,_,_,_,rfl,rfl,hs,ha,?_⟩;refine⟨_,rfl,x,rfl,?_⟩;refine⟨_,rfl,_,rfl,_,_,rfl,rfl,⟨by decide,by decide,by decide⟩,_,_,rfl,rfl,.inr ⟨_,rfl,_,_,rfl,rfl,.inr ⟨?b1,?b2⟩,_,rfl,_,_,rfl,rfl,posM,_,rfl,_,_,rfl,rfl,.inl ⟨by decide,by decide⟩,_,_,rfl,rfl,_,_,rfl,rfl,_,_,rfl,rfl,posM,(by show 3<=M5;decide),fun p hp=>?_⟩⟩
   (case b1=>exact(ID _).1)
   (case b2=>exact(ID _).2.1)
   refine k p _ hp ⟨⟨_,_,_,ae,?_,Int.emod_nonneg _ (by decide),Int.emod_lt_of_pos _ (by decide),Int.le_refl _,by decide,by decide⟩⟩ (ah.new hp);refine Int.mul_nonneg ?_ ?_
   .split<;>lia
   .exact(ID _).2.2
  .refine⟨_,rfl,0,rfl,?_⟩
   refine⟨_,rfl,_,rfl,_,_,rfl,rfl,⟨by decide,by decide,by decide⟩,_,_,rfl,rfl,.inr ⟨_,rfl,_,_,rfl,rfl,.inr ⟨?b1,?b2⟩,_,rfl,_,_,rfl,rfl,posM,_,rfl,_,_,rfl,rfl,.inl ⟨by decide,by decide⟩,_,_,rfl,rfl,_,_,rfl,rfl,_,_,rfl,rfl,posM,(by show 3<=M5;decide),fun p hp=>?_⟩⟩
   (case b1=>exact(ID _).1)
   (case b2=>exact(ID _).2.1)
   refine k p _ hp ⟨⟨_,_,_,ae,?_,Int.emod_nonneg _ (by decide),Int.emod_lt_of_pos _ (by decide),Int.le_refl _,by decide,by decide⟩⟩ (ah.new hp);refine Int.mul_nonneg ?_ ?_
   .split<;>lia
   .exact(ID _).2.2
end
end Sw
namespace L2
open PySem
theorem jO{X:Cx}{K:W.Frag}(h:X.K=K):bY X (.type "list") (fun xs H Q=>∃p ys,xs=[.ref p]/\(aJ K H p ys\/dI K H p ys)/\∀l,H l=none->Q (.ref l) (upd H l (.lst ys))):=by subst h;exact rV
theorem bo{X:Cx}{K:W.Frag}(h:X.K=K):bY X (.type "tuple") (fun xs H Q=>∃p ys,xs=[.ref p]/\((aJ K H p ys/\∀l,H l=none->Q (.ref l) (upd H l (.tup ys)))\/(dI K H p ys/\Q (.ref p) H))):=by subst h;exact pQ
end L2
namespace Sw
open PySem L2
def yd:Sp:=fun vs H Q _=>∃(n:Int),vs=[.int n]/\0<=n/\n<=1000/\∀t H',H t=none->H' t=some (.tup ((bK 1 (n+1)).map V.int))->ah H H'->Q (.ref t) H'
def G0:Sp:=fun vs H Q _=>∃(t:MY)(a b x:Int),vs=[.ref t,.int x]/\H t=some (.tup [.int a,.int b])/\Q (.int (aQ x (a,b))) H
def Gb:Sp:=fun vs H Q _=>∃(n:Int)(l:MY)(es:List V)(row:List (Int×Int)),vs=[.int n,.ref l]/\0<=n/\n<=1000/\H l=some (.lst es)/\dD H es row/\Good n row/\∀t H',H t=none->H' t=some (.tup ((bp n row).map V.int))->ah H H'->Q (.ref t) H'
structure T1(mg:Str->Option MX)(K:W.Frag):Prop extends xi mg where
 yj:mg "all" =none
 aM:mg "isinstance" =none
 Cv:mg "bool" =none
 cu:mg "tuple" =none
 o7:mg "list" =none
 bQ:mg "range" =none
 KO:W.kitOne K (.type "int") (.type "bool")=some false
theorem bh{α β:Type}(f:α->β){l:List α}{i:Nat}{x:α}(h:l[i]?=some x):(l.take (i+1)).map f=(l.take i).map f++[f x]:=by
 rw[MO,h,My];rfl
theorem xD{row:List (Int×Int)}{i:Nat}{e:Int×Int}(h:row[i]?=some e)(x:Int):go (row.take (i+1)) x=aQ (go (row.take i) x) e:=by
 rw[MO,h,fI];rfl
theorem gT(a b x:Int)(hab:a≠b):(cj (cb [] [((Sum.inl a:Key),V.int b),(Sum.inl b,V.int a)]) (Sum.inl x)).getD (V.int x)=V.int (aQ x (a,b)):=by
 show(cj (putK (putK [] (Sum.inl a:Key) (V.int b)) (Sum.inl b) (V.int a)) (Sum.inl x)).getD (V.int x)=V.int (aQ x (a,b));rw[o8,o8,Br];unfold aQ;have l:∀p q:Int,((Sum.inl p:Key)=Sum.inl q)=(p=q):=fun p q=>by simp
 simp only[l];by_cases h1:x=b
 .have h2:¬x=a:=by lia
  simp[h1,h2];intro z;lia
 .by_cases h2:x=a
  .simp[h1,h2,hab]
  .simp[h1,h2]
theorem bD.mono {H:Hp}{p:MY}{c c':Nat}(h:bD H p c)(a:c<=c')(b:c'<=100000):bD H p c':=by
 obtain⟨x,y,z,e,h1,h2,h3,h4,h5,h6⟩:=h.ex;exact⟨x,y,z,e,h1,h2,h3,h4,by lia,b⟩
theorem bD.keep {H H':Hp}{p:MY}{c:Nat}(h:bD H p c)(k:ah H H'):bD H' p c:=by
 obtain⟨x,y,z,e,r⟩:=h.ex;exact⟨x,y,z,k _ _ e,r⟩
theorem bD.at {H:Hp}{p:MY}{c:Nat}(h:bD H p c):∃xs,H p=some (.lst xs):=by
 obtain⟨x,y,z,e,r⟩:=h.ex;exact⟨_,e⟩
theorem bD.upd {H:Hp}{p q:MY}{c:Nat}{o:HO}(h:bD H p c)(n:p≠q):bD (L2.upd H q o) p c:=by
 obtain⟨x,y,z,e,r⟩:=h.ex;exact⟨x,y,z,by rw[aq n];exact e,r⟩
theorem bD.ne {H:Hp}{p q:MY}{c:Nat}(h:bD H p c)(n:H q=none):p≠q:=by
 obtain⟨xs,e⟩:=h.at;exact ao e n
theorem aN.FY {p:MY}{H H':Hp}{c:Nat}(s:aN p H H')(h:bD H p c){vs:List V}{r:List (Int×Int)}(x:dD H vs r):dD H' vs r:=by
 obtain⟨xs,e⟩:=h.at;exact x.keep (aN.bH s e)
theorem aN.put {p l:MY}{H H':Hp}{o:HO}(s:aN p H H')(h:H l=none):aN p H (upd H' l o):=fun b o' hb e=>by
 rw[aq (ao e h)];exact s b o' hb e
theorem dw{p l:MY}{H H':Hp}(s:aN p H H')(n:p≠l)(h:H' l=none):H l=none:=by
 cases e:H l with
 |none=>rfl
 |some o=>rw[s l o n.symm e]at h;cases h
theorem kF{ls:List Int}:∀{k:Nat},(ls.map V.int).eraseIdx k=(ls.eraseIdx k).map V.int:=by
 induction ls with
 |nil=>intro k;rfl
 |cons a t ih=>
  intro k
  cases k with
  |zero=>rfl
  |succ k=>
   rw[MA,List.eraseIdx_cons_succ,List.eraseIdx_cons_succ,MA,ih]
theorem ku{ns:List Int}{i:Nat}{x:V}(h:(ns.map V.int)[i]?=some x):∃z,x= .int z/\ns[i]?=some z:=by
 rw[Mv]at h
 cases e:ns[i]? with
 |none=>rw[e]at h;cases h
 |some z=>rw[e]at h;exact⟨z,(MV h).symm,rfl⟩
theorem eY{ns:List Int}{i:Int}{z:Int}(h0:0<=i)(h:ns[i.toNat]?=some z):uu (ns.map V.int) i=some (V.int z):=by
 have e:((i.toNat:Nat):Int)=i:=Int.toNat_of_nonneg h0;rw[←e];exact aZ (by rw[Mv,h];rfl)
theorem iW{ns:List Int}{k:Nat}(h:k<ns.length):∃z,ns[k]?=some z:=⟨_,Mx h⟩
theorem ph{n:Nat}{i:Int}(h0:0<=i)(h:i<n):Df n i=some i.toNat:=by
 unfold Df;rw[if_pos h0,if_pos h]
theorem xK{ns:List Int}{k:Nat}{z:Int}(h:ns[k]?=some z):(ns.map V.int)[k]?=some (V.int z):=by rw[Mv,h];rfl
def yQ:Sp:=fun vs H Q _=>∃(p:MY)(c:Nat)(n:Int),vs=[.ref p,.int n]/\bD H p c/\c<=90000/\1<=n/\n<=100/\
 ∀t xs H',H t=none->H' t=some (.tup (xs.map V.int))->Ord n xs->bD H' p (c+300)->aN p H H'->Q (.ref t) H'
inductive bX(H:Hp):List V->List (List Int)->Prop
 |nil:bX H [] []
 |cons {a:MY} {ns:List Int} {vs:List V} {r:List (List Int)}:H a=some (.lst (ns.map V.int))->bX H vs r->bX H (.ref a::vs) (ns::r)
theorem bX.length {H:Hp}:∀{vs:List V}{r:List (List Int)},bX H vs r->vs.length=r.length
 |_,_,.nil=>rfl
 |_,_,.cons _ x=>by rw[Mz,Mz,x.length]
theorem bX.keep {H H':Hp}(k:ah H H'):∀{vs:List V}{r:List (List Int)},bX H vs r->bX H' vs r
 |_,_,.nil=> .nil
 |_,_,.cons h x=> .cons (k _ _ h) (x.keep k)
theorem bX.append {H:Hp}:∀{vs ws:List V}{r q:List (List Int)},bX H vs r->bX H ws q->bX H (vs++ws) (r++q)
 |_,_,_,_,.nil,y=>y
 |_,_,_,_,.cons h x,y=> .cons h (x.append y)
theorem bX.snoc {H:Hp}{vs:List V}{r:List (List Int)}{a:MY}{ns:List Int}(x:bX H vs r)(h:H a=some (.lst (ns.map V.int))):bX H (vs++[.ref a]) (r++[ns]):=x.append (.cons h .nil)
theorem bX.get {H:Hp}:∀{vs:List V}{r:List (List Int)}{i:Nat}{x:V},bX H vs r->vs[i]?=some x->∃a ns,x= .ref a/\H a=some (.lst (ns.map V.int))/\r[i]?=some ns
 |_,_,_,_,.nil,e=>by simp at e
 |_,_,0,_,.cons h x,e=>by simp at e;subst e;exact⟨_,_,rfl,h,rfl⟩
 |_,_,i+1,_,.cons h x,e=>by
  obtain⟨t,a,e1,e2,e3⟩:=x.get (i:=i) (by simpa using e);exact⟨t,a,e1,e2,by simpa using e3⟩
theorem bX.mem {H:Hp}{vs:List V}{r:List (List Int)}(x:bX H vs r){a:MY}(h:V.ref a∈vs):∃ns,H a=some (.lst ns):=by
 obtain⟨i,hi,e⟩:=List.mem_iff_getElem.mp h;obtain⟨b,ns,e1,e2,_⟩:=x.get (i:=i) (by rw[Mx hi,e]);cases e1;exact⟨_,e2⟩
theorem bX.off {H:Hp}{a:MY}{o:HO}:∀{vs:List V}{r:List (List Int)},bX H vs r->V.ref a∉vs->bX (upd H a o) vs r
 |_,_,.nil,_=> .nil
 |_,_,.cons (a:=b) h x,n=>by
  refine .cons ?_ (x.off fun z=>n (MH _ z));rw[aq (by intro z;subst z;exact n MG)];exact h
def fB(H:Hp)(vs:List V):Prop:=vs.Nodup/\∀v∈vs,∃a,v= .ref a/\H a=none
theorem fB.nil {H:Hp}:fB H []:=⟨List.nodup_nil,fun v h=>by cases h⟩
theorem fB.snoc {H H':Hp}{vs:List V}{r:List (List Int)}{a:MY}(f:fB H vs)(x:bX H' vs r)(h':H' a=none)(h:H a=none):fB H (vs++[.ref a]):=by
 refine⟨List.nodup_append.mpr ⟨f.1,by simp,?_⟩,fun v hv=>?_⟩
 .intro y hy z hz e
  rw[List.mem_singleton.mp hz]at e;subst e;obtain⟨ns,e⟩:=x.mem hy;rw[h']at e;cases e
 .rcases List.mem_append.mp hv with z|z
  .exact f.2 v z
  .exact⟨a,List.mem_singleton.mp z,h⟩
theorem fB.sub {H:Hp}{vs ws:List V}(f:fB H vs)(s:ws.Sublist vs):fB H ws:=⟨f.1.sublist s,fun v h=>f.2 v (s.subset h)⟩
def Jo:Sp:=fun vs H Q _=>∃(t:MY)(n x:Int)(xs:List Int),vs=[.ref t,.int x]/\H t=some (.tup (xs.map V.int))/\Ord n xs/\n<=1000/\1<=x/\x<=n/\∀l H',H l=none->H' l=some (.lst ((cq xs x).map V.int))->ah H H'->Q (.ref l) H'
def fR:Sp:=fun vs H Q _=>∃(t:MY)(n:Int)(xs:List Int),vs=[.ref t]/\H t=some (.tup (xs.map V.int))/\Ord n xs/\n<=1000/\∀l ws H',H l=none->H' l=some (.lst ws)->bX H' ws (bT n xs)->fB H ws->V.ref l∉ws->ah H H'->Q (.ref l) H'
theorem lJ{A B:Prop}{b:Bool}(h:b=true)(x:A):if b=true then A else B:=by rw[if_pos h];exact x
theorem gG{A B:Prop}{b:Bool}(h:b=false)(x:B):if b=true then A else B:=by rw[h,if_neg MU];exact x
def Gm:Sp:=fun vs H Q _=>∃(t:MY)(n:Int)(xs:List Int),vs=[.ref t]/\H t=some (.tup (xs.map V.int))/\Ord n xs/\n<=1000/\∀l es H',H l=none->H' l=some (.lst es)->dD H' es (o4 xs)->ah H H'->Q (.ref l) H'
theorem bX.gM {H H':Hp}:∀{vs:List V}{r:List (List Int)},bX H vs r->(∀{b:MY}{zs:List V},V.ref b∈vs->H b=some (.lst zs)->H' b=some (.lst zs))->bX H' vs r
 |_,_,.nil,_=> .nil
 |_,_,.cons h x,k=> .cons (k MG h) (x.gM fun hb e=>k (MH _ hb) e)
theorem bX.eraseIdx {H:Hp}:∀{vs:List V}{r:List (List Int)}(k:Nat),bX H vs r->bX H (vs.eraseIdx k) (r.eraseIdx k)
 |_,_,_,.nil=> .nil
 |_,_,0,.cons h x=>x
 |_,_,k+1,.cons h x=> .cons h (x.eraseIdx k)
def JU:Sp:=fun vs H Q _=>∃x lo hi:Int,vs=[.int x,.int lo,.int hi]/\Q (.bl (decide (lo<=x/\x<=hi))) H
theorem sr{n:Int}{xs:List Int}(h:n<=50):(bT n xs).length<=50:=by
 unfold bT;rw[Mu];have:=List.length_filter_le (least xs) (bK 1 (n+1));rw[aB]at this;lia
theorem BA{n:Int}{xs r:List Int}(o:Ord n xs)(h:n<=50)(m:r∈bT n xs):r.length<=50:=by
 unfold bT at m;obtain⟨x,hx,rfl⟩:=List.mem_map.mp m;have hx:=bj.mp (List.mem_filter.mp hx).1;rw[hU];have:=wG o hx.1 (by lia);lia
def yV(K:W.Frag):Sp:=fun vs H Q _=>∃(a:MY)(ns:List Int),vs=[.ref a]/\aJ K H a (ns.map V.int)/\ns.length<=63/\∀H',Q (.bl true) H'
theorem ah.of {p:MY}{H0 H H':Hp}(a:ah H0 H)(n:H0 p=none)(b:aN p H H'):ah H0 H':=fun c o e=>b c o (ao e n) (a c o e)
theorem ah.put {l:MY}{H H':Hp}{o:HO}(s:ah H H')(h:H l=none):ah H (upd H' l o):=fun b o' e=>by
 rw[aq (ao e h)];exact s b o' e
def LO:PyData->Bool
 | .int _=>true
 |_=>false
def vH(lo hi:Int):PyData->Bool
 | .int i=>decide (lo<=i/\i<=hi)
 |_=>false
def Ly:PyData->PyData->Bool
 | .int a,.int b=>decide (a<b)
 |_,_=>false
def rH(n:Int):PyData->Bool
 | .tuple [x,y]=>(vH 1 n x&&vH 1 n y)&&Ly x y
 |_=>false
def uz(n:Int):PyData->Bool
 | .list ds=>decide (ds.length<=60)&&ds.all (rH n)
 |_=>false
def Gg:Sp:=fun vs H Q _=>∃(v:V)(P:MY->Prop)(d:PyData),vs=[v]/\DT H P v d/\Q (.bl (LO d)) H
def FD:Sp:=fun vs H Q _=>∃(v:V)(P:MY->Prop)(d:PyData)(lo hi:Int),vs=[v,.int lo,.int hi]/\DT H P v d/\Q (.bl (vH lo hi d)) H
def Bg:Sp:=fun vs H Q _=>∃(v:V)(P:MY->Prop)(d:PyData)(n:Int),vs=[.int n,v]/\DT H P v d/\∀H',ah H H'->Q (.bl (rH n d)) H'
def xH:Sp:=fun vs H Q _=>∃(v:V)(P:MY->Prop)(d:PyData)(n:Int),vs=[.int n,v]/\DT H P v d/\(∀ds,d= .list ds->ds.length<=1000)/\∀H',ah H H'->Q (.bl (uz n d)) H'
theorem DT.same {H H':Hp}{P:MY->Prop}{v:V}{d:PyData}(h:DT H P v d)(s:ah H H'):DT H' P v d:=h.keep fun b o _ e=>s b o e
theorem ui{α:Type}{q:α->Bool}{l:List α}{i:Nat}{x:α}(h:l[i]?=some x):(l.take (i+1)).map q=(l.take i).map q++[q x]:=by
 rw[MO,h,My];rfl
structure TD(P:M0)(w:M3)(K:W.Frag)(mg:Str->Option MX)(base:Nc):Prop extends T1 mg K where
 o3:FnAt P w K mg base "is_whole" 1 ["thing"] Gg
structure LM(P:M0)(w:M3)(K:W.Frag)(mg:Str->Option MX)(base:Nc):Prop extends T1 mg K where
 dW:FnAt P w K mg base "is_between" 2 ["thing","low","high"] FD
structure LJ(P:M0)(w:M3)(K:W.Frag)(mg:Str->Option MX)(base:Nc)(u:MX):Prop extends T1 mg K where
 cE:mg "MOST_EXCHANGES" =some u
 cG:RelV (.int 60) u
 jN:FnAt P w K mg base "is_exchange" 4 ["n","thing"] Bg
section
variable{n:Int}{xs:List Int}{a b:Int}
theorem A6(o:Ord n xs)(a1:1<=a)(a2:a<=n){i j:Nat}(hj:j<eE xs a)(hij:i<j):br (ld xs) i a≠br (ld xs) j a:=by
 intro e;have e2:br (ld xs) (i+(j-i)) a=br (ld xs) i (br (ld xs) (j-i) a):=jv _ _ _ _;rw[show i+(j-i)=j by lia,←e]at e2;have q:=bS o a1 a2 (j-i);have:=nZ o a1 a2 q.1 q.2 i e2;exact mv (by lia) (by lia) this.symm
theorem Bj(o:Ord n xs)(a1:1<=a)(a2:a<=n){i j:Nat}(hi:i<eE xs a)(hj:j<eE xs a)(h:i≠j):br (ld xs) i a≠br (ld xs) j a:=by
 rcases Nat.lt_or_gt_of_ne h with z|z
 .exact A6 o a1 a2 hj z
 .exact(A6 o a1 a2 hi z).symm
variable(o:Ord n xs)(ga:1<=a)(gab:a<b)(gb:b<=n){k:Nat}(hk0:0<k)(hk:k<eE xs a)(hb:br (ld xs) k a=b)
include o ga gab gb hk0 hk hb
theorem sP{x:Int}(h1:1<=x)(h2:x<=n):ld (xs.map (aQ · (a,b))) x=if ld xs x=a then b else if ld xs x=b then a else ld xs x:=by
 rw[wu o _ h1 h2];rfl
theorem FR{l:Nat}(hl:l<k):ld (xs.map (aQ · (a,b))) (br (ld xs) l a)=if l+1=k then a else br (ld xs) (l+1) a:=by
 have r:=bS o ga (by lia) l;rw[sP o ga gab gb hk0 hk hb r.1 r.2];show(if br (ld xs) (l+1) a=a then b else if br (ld xs) (l+1) a=b then a else br (ld xs) (l+1) a)=_;rw[if_neg (mv (by lia) (by lia))];by_cases e:l+1=k
 .rw[if_pos (by rw[e];exact hb),if_pos e]
 .rw[if_neg (by rw[←hb];exact Bj o ga (by lia) (by lia) hk (by lia)),if_neg e]
theorem F9{l:Nat}(hl:k<=l)(hl2:l<eE xs a):ld (xs.map (aQ · (a,b))) (br (ld xs) l a)=if l+1=eE xs a then b else br (ld xs) (l+1) a:=by
 have r:=bS o ga (by lia) l;rw[sP o ga gab gb hk0 hk hb r.1 r.2];show(if br (ld xs) (l+1) a=a then b else if br (ld xs) (l+1) a=b then a else br (ld xs) (l+1) a)=_;by_cases e:l+1=eE xs a
 .rw[if_pos (by rw[e];exact lN o ga (by lia)),if_pos e]
 .rw[if_neg (mv (by lia) (by lia)),if_neg (by rw[←hb];exact Bj o ga (by lia) (by lia) hk (by lia)),if_neg e]
theorem C7:∀j,∃l,l<k/\br (ld (xs.map (aQ · (a,b)))) j a=br (ld xs) l a
 |0=>⟨0,hk0,rfl⟩
 |j+1=>by
  obtain⟨l,hl,e⟩:=C7 j;show∃l,l<k/\ld _ (br _ j a)=_;rw[e,FR o ga gab gb hk0 hk hb hl];by_cases e2:l+1=k
  .rw[if_pos e2];exact⟨0,hk0,rfl⟩
  .rw[if_neg e2];exact⟨l+1,by lia,rfl⟩
theorem yK:∀l,l<k->br (ld (xs.map (aQ · (a,b)))) l a=br (ld xs) l a
 |0,_=>rfl
 |l+1,h=>by
  show ld _ (br _ l a)=_;rw[yK l (by lia),FR o ga gab gb hk0 hk hb (by lia),if_neg (by lia)]
theorem Bm:∀j,∃l,k<=l/\l<eE xs a/\br (ld (xs.map (aQ · (a,b)))) j b=br (ld xs) l a
 |0=>⟨k,MP _,hk,hb.symm⟩
 |j+1=>by
  obtain⟨l,hl,hl2,e⟩:=Bm j;show∃l,k<=l/\l<eE xs a/\ld _ (br _ j b)=_;rw[e,F9 o ga gab gb hk0 hk hb hl hl2];by_cases e2:l+1=eE xs a
  .rw[if_pos e2];exact⟨k,MP _,hk,hb.symm⟩
  .rw[if_neg e2];exact⟨l+1,by lia,by lia,rfl⟩
theorem yJ:∀l,k+l<eE xs a->br (ld (xs.map (aQ · (a,b)))) l b=br (ld xs) (k+l) a
 |0,_=>hb.symm
 |l+1,h=>by
  show ld _ (br _ l b)=_;rw[yJ l (by lia),F9 o ga gab gb hk0 hk hb (by lia) (by lia),if_neg (by lia)];rfl
theorem wY{x:Int}(h1:1<=x)(h2:x<=n)(hx:x∉cq xs a):∀j,br (ld (xs.map (aQ · (a,b)))) j x=br (ld xs) j x/\br (ld xs) j x∉cq xs a
 |0=>⟨rfl,hx⟩
 |j+1=>by
  obtain⟨e,no⟩:=wY h1 h2 hx j;have r:=bS o h1 h2 j;have r':=bS o h1 h2 (j+1);have no':br (ld xs) (j+1) x∉cq xs a:=fun z=>by
   have z1:br (ld xs) (j+1) x∈cq xs x:=(cK o h1 h2).mpr ⟨j+1,rfl⟩;have z2:=eB o ga (by lia) z;have z3:=fG o h1 h2 z1 z2;exact hx (eB o h1 h2 z3)
  refine⟨?_,no'⟩;show ld _ (br _ j x)=_;rw[e,sP o ga gab gb hk0 hk hb r.1 r.2];show(if br (ld xs) (j+1) x=a then b else if br (ld xs) (j+1) x=b then a else br (ld xs) (j+1) x)=_;rw[if_neg (fun z=>no' (by rw[z];exact dn a)),if_neg (fun z=>no' (by rw[z];exact(cK o ga (by lia)).mpr ⟨k,hb⟩))]
theorem DN:cnt n (xs.map (aQ · (a,b)))=cnt n xs+1:=by
 have gd:1<=((a,b):Int×Int).1/\((a,b):Int×Int).1<((a,b):Int×Int).2/\((a,b):Int×Int).2<=n:=⟨ga,gab,gb⟩;have o':=nF o gd;have a2:a<=n:=by lia
 have b1:1<=b:=by lia
 have pA:∀y,y∈cq (xs.map (aQ · (a,b))) a↔∃l,l<k/\br (ld xs) l a=y:=fun y=>by
  rw[cK o' ga a2];constructor
  .rintro⟨j,rfl⟩
   obtain⟨l,hl,e⟩:=C7 o ga gab gb hk0 hk hb j;exact⟨l,hl,e.symm⟩
  .rintro⟨l,hl,rfl⟩
   exact⟨l,yK o ga gab gb hk0 hk hb l hl⟩
 have pB:∀y,y∈cq (xs.map (aQ · (a,b))) b↔∃l,k<=l/\l<eE xs a/\br (ld xs) l a=y:=fun y=>by
  rw[cK o' b1 gb];constructor
  .rintro⟨j,rfl⟩
   obtain⟨l,hl,hl2,e⟩:=Bm o ga gab gb hk0 hk hb j;exact⟨l,hl,hl2,e.symm⟩
  .rintro⟨l,hl,hl2,rfl⟩
   exact⟨l-k,by rw[yJ o ga gab gb hk0 hk hb (l-k) (by lia),show k+(l-k)=l by lia]⟩
 have pO:∀y,y∈cq xs a↔y∈cq (xs.map (aQ · (a,b))) a\/y∈cq (xs.map (aQ · (a,b))) b:=fun y=>by
  rw[pA,pB,cK o ga a2];constructor
  .rintro⟨j,rfl⟩
   obtain⟨l,hl,e⟩:=sJ o ga a2 j;by_cases h:l<k
   .exact .inl ⟨l,h,e.symm⟩
   .exact .inr ⟨l,by lia,hl,e.symm⟩
  .rintro(⟨l,_,rfl⟩|⟨l,_,_,rfl⟩)
   .exact⟨l,rfl⟩
   .exact⟨l,rfl⟩
 have dis:∀y,y∈cq (xs.map (aQ · (a,b))) a->y∈cq (xs.map (aQ · (a,b))) b->False:=fun y ya yb=>by
  obtain⟨l,hl,e⟩:=(pA y).mp ya;obtain⟨l',hl',hl2,e'⟩:=(pB y).mp yb;exact Bj o ga a2 (by lia) hl2 (by lia) (e.trans e'.symm)
 have leastOf:∀{zs:List Int}(oz:Ord n zs){c x:Int},1<=c->c<=n->x∈cq zs c->(least zs x=true↔∀y∈cq zs c,x<=y):=fun{zs} oz{c x} c1 c2 hx=>by
  have hx':=iu oz c1 c2 hx;unfold least;rw[List.all_eq_true];constructor
  .intro h y hy
   exact of_decide_eq_true (h y (fG oz hx'.1 hx'.2 (eB oz c1 c2 hx) hy))
  .intro h y hy
   exact decide_eq_true (h y (fG oz c1 c2 hx hy))
 obtain⟨mA,mA1,mA2⟩:=iQ (l:=cq (xs.map (aQ · (a,b))) a) (List.ne_nil_of_mem (dn a));obtain⟨mB,mB1,mB2⟩:=iQ (l:=cq (xs.map (aQ · (a,b))) b) (List.ne_nil_of_mem (dn b));have ne:mA≠mB:=fun z=>dis mA mA1 (by rw[z];exact mB1);have iA:=iu o' ga a2 mA1;have iB:=iu o' b1 gb mB1;have off:∀x,1<=x->x<=n->x∉cq xs a->least xs x=least (xs.map (aQ · (a,b))) x:=fun x h1 h2 hx=>by
  rw[Bool.eq_iff_iff,eJ o h1 h2,eJ o' h1 h2];constructor
  .intro h j
   rw[(wY o ga gab gb hk0 hk hb h1 h2 hx j).1];exact h j
  .intro h j
   have:=h j;rwa [(wY o ga gab gb hk0 hk hb h1 h2 hx j).1]at this
 have go:∀g m,(g=mA/\m=mB\/g=mB/\m=mA)->m<g->cnt n (xs.map (aQ · (a,b)))=cnt n xs+1:=by
  intro g m hgm lt;have mO:m∈cq xs a:=(pO m).mpr (by rcases hgm with⟨_,rfl⟩|⟨_,rfl⟩;exact .inr mB1;exact .inl mA1);have gO:g∈cq xs a:=(pO g).mpr (by rcases hgm with⟨rfl,_⟩|⟨rfl,_⟩;exact .inl mA1;exact .inr mB1);have gi:=iu o ga a2 gO;have low:∀y∈cq xs a,m<=y:=fun y hy=>by
   rcases(pO y).mp hy with z|z
   .have:=mA2 y z
    rcases hgm with⟨rfl,rfl⟩|⟨rfl,rfl⟩<;>lia
   .have:=mB2 y z
    rcases hgm with⟨rfl,rfl⟩|⟨rfl,rfl⟩<;>lia
  have lA:∀x∈cq (xs.map (aQ · (a,b))) a,(least (xs.map (aQ · (a,b))) x=true↔x=mA):=fun x hx=>by
   rw[leastOf o' ga a2 hx];constructor
   .intro h
    exact Int.le_antisymm (h mA mA1) (mA2 x hx)
   .rintro rfl
    exact mA2
  have lB:∀x∈cq (xs.map (aQ · (a,b))) b,(least (xs.map (aQ · (a,b))) x=true↔x=mB):=fun x hx=>by
   rw[leastOf o' b1 gb hx];constructor
   .intro h
    exact Int.le_antisymm (h mB mB1) (mB2 x hx)
   .rintro rfl
    exact mB2
  have lO:∀x∈cq xs a,(least xs x=true↔x=m):=fun x hx=>by
   rw[leastOf o ga a2 hx];constructor
   .intro h
    exact Int.le_antisymm (h m mO) (low x hx)
   .rintro rfl
    exact low
  unfold cnt;refine jZ (g:=g) ?_ ?_ _ (bV _ _) (bj.mpr (by lia)) ?_
  .cases h:least xs g with
   |false=>rfl
   |true=>
    have:=(lO g gO).mp h;lia
  .rcases hgm with⟨rfl,_⟩|⟨rfl,_⟩
   .exact(lA g mA1).mpr rfl
   .exact(lB g mB1).mpr rfl
  .intro x hx hne
   have hx:=bj.mp hx;by_cases hxo:x∈cq xs a
   .rw[Bool.eq_iff_iff,lO x hxo]
    rcases(pO x).mp hxo with z|z
    .rw[lA x z]
     rcases hgm with⟨rfl,rfl⟩|⟨rfl,rfl⟩
     .constructor
      .intro e;subst e;exact(dis x z mB1).elim
      .intro e;exact absurd e hne
     .exact Iff.rfl
    .rw[lB x z]
     rcases hgm with⟨rfl,rfl⟩|⟨rfl,rfl⟩
     .exact Iff.rfl
     .constructor
      .intro e;subst e;exact(dis x mA1 z).elim
      .intro e;exact absurd e hne
   .exact off x hx.1 (by lia) hxo
 rcases Int.lt_or_gt_of_ne ne with z|z
 .exact go mB mA (.inr ⟨rfl,rfl⟩) z
 .exact go mA mB (.inl ⟨rfl,rfl⟩) z
end
def yR:Sp:=fun vs H Q _=>∃(n:Int),vs=[.int n]/\1<=n/\n<=1000/\∀t H',H t=none->H' t=some (.tup (((bK 1 (n+1)).map (fun x=>x%n+1)).map V.int))->ah H H'->Q (.ref t) H'
section
variable{P:M0}{w:M3}{K:W.Frag}{mg:Str->Option MX}{base:Nc}
theorem CU:aA ["n"] ["n"] (ar (top 22)):=⟨rfl,rfl,rfl,by decide+kernel,rfl,by decide+kernel,by decide+kernel⟩
theorem BB{f:MY}{fd:Nb}(F:dO K "great" "great" (top 22) f fd)(T:T1 mg K):aR P w K mg base gh 1 f fd ["n"] yR:=by
 refine F.ok CU (fun vs H Q E h=>?_) (fun cdv A outer s H vs Q E hr h=>?_)
 .obtain⟨n,rfl,_⟩:=h
  rfl
 .obtain⟨n,rfl,n1,n2,k⟩:=h
  refine⟨_,(aj (ay (aF (bo (K:=K) rfl) rfl T.cu (by decide+kernel) (aa (bw (N:=(["thing","n"]:List Str)) (ix:=([none,some 0]:List (Option Nat))) (aT rfl rfl) rfl (gQ rfl T.bQ (aa ai (aa (av aS (pv 0) ai) af))) (fun _ _ _ _=>(aw (i:=0) (show List.Nodup (["thing","n"]:List Str)from by decide+kernel) rfl (Or.inl rfl))) (fun _ _ _ _=>bc) (fun _ _ _ _=>(av aS (av gC (pv 0) (pv 1)) ai))) af)))),?_⟩;refine⟨_,rfl,_,_,rfl,rfl,1,n+1,rfl,⟨by decide,by decide,by lia,by lia⟩,t6 (k:=0) (fun i ys σ' H''=>ys=((bK 1 (n+1)).take i).map (fun x=>V.int (x%n+1))/\(∃v,σ'=[v,some (.int n)])/\H''=H) (by lia) ⟨rfl,⟨none,rfl⟩,rfl⟩ (fun i ys σ' H'' q=>by rw[q.1,Mu,MB];lia) ?_ ?_⟩
  .rintro i ys σ' H'' R hi ⟨rfl,⟨v,rfl⟩,rfl⟩ done
   have hx:(bK 1 (n+1))[i]?=some (1+(i:Int)):=bR (by lia);refine⟨_,rfl,_,rfl,_,_,rfl,rfl,n1,_,_,rfl,rfl,done _ _ _ ⟨?_,⟨_,rfl⟩,rfl⟩⟩;exact(bh (fun x=>V.int (x%n+1)) hx).symm
  .rintro ys σ' H'' p ⟨rfl,_,rfl⟩ hp
   refine⟨p,_,rfl,.inl ⟨aJ.of ae,fun r hr=>?_⟩⟩;have s1:=ah.new (o:= .lst (((bK 1 (n+1)).take (n+1-1).toNat).map (fun x=>V.int (x%n+1)))) hp;refine k r _ (s1.free hr) ?_ (s1.trans (ah.new hr));rw[ae,MI (by rw[aB];exact MP _),MD];rfl
end
theorem Cd{kvs:List (Key×V)}{j:Nat}{k:Key}{v:V}(nd:(kvs.map (·.1)).Nodup)(h:kvs[j]?=some (k,v)):cj kvs k=some v:=by
 induction kvs generalizing j with
 |nil=>simp at h
 |cons p r ih=>
  rw[MA,List.nodup_cons]at nd
  cases j with
  |zero=>
   have h:p=(k,v):=by simpa using h
   subst h;exact cQ rfl
  |succ j=>
   have h:r[j]?=some (k,v):=by simpa using h
   rw[cD (fun e=>nd.1 (by rw[e];exact List.mem_map_of_mem (f:=(·.1)) (MF h)))];exact ih nd.2 h
theorem ue{kvs:List (Key×V)}{k:Key}(h:k∉kvs.map (·.1)):cj kvs k=none:=by
 induction kvs with
 |nil=>rfl
 |cons p r ih=>
  rw[MA,MC,not_or]at h;rw[cD (fun e=>h.1 e.symm)];exact ih h.2
theorem Cp{kvs:List (Key×V)}{k:Key}{v:V}(h:k∉kvs.map (·.1)):putK kvs k v=kvs++[(k,v)]:=by
 unfold putK;rw[if_neg];rw[iR,ue h];exact MU
theorem snoc_ind{α:Type}{Pr:List α->Prop}(h0:Pr [])(hs:∀l x,Pr l->Pr (l++[x]))(l:List α):Pr l:=by
 have:∀r:List α,Pr r.reverse:=fun r=>by
  induction r with
  |nil=>exact h0
  |cons x r ih=>rw[List.reverse_cons];exact hs _ _ ih
 have q:=this l.reverse;rwa [List.reverse_reverse]at q
theorem Bs{n:Int}{fs:List Int}(h0:0<=n)(nd:fs.Nodup)(hm:∀y∈fs,1<=y/\y<=n):fs.length<=n.toNat:=by
 have:=List.Nodup.length_le_of_subset nd (l₂:=bK 1 (n+1)) fun y hy=>bj.mpr ⟨(hm y hy).1,by have:=(hm y hy).2;lia⟩;rw[aB]at this;lia
section
variable{n:Int}{xs:List Int}{a b:Int}
theorem AX(n:Int)(r:List (Int×Int))(e:Int×Int):bp n (r++[e])=(bp n r).map (aQ · e):=by
 unfold bp;rw[MD];refine List.map_congr_left fun x _=>?_;rw[fI];rfl
theorem zx{r q:List (Int×Int)}(g:Good n (r++q)):Good n r:=fun e he=>g e (MK _ he)
theorem yi(o:Ord n xs)(ga:1<=a)(gab:a<b)(gb:b<=n):Ord n (xs.map (aQ · (a,b))):=by
 have inv:∀x,aQ (aQ x (a,b)) (a,b)=x:=fun x=>gk x _;refine(List.perm_ext_iff_of_nodup ?_ (bV _ _)).mpr fun y=>?_
 .rw[List.Nodup,List.pairwise_map]
  exact o.nodup.imp fun h e=>h ((inv _).symm.trans ((congrArg (fun z=>aQ z (a,b)) e).trans (inv _)))
 .have sin:∀x,1<=x/\x<=n->1<=aQ x (a,b)/\aQ x (a,b)<=n:=fun x hx=>by
   unfold aQ
   split
   .exact⟨by show 1<=b;lia,gb⟩
   .split
    .exact⟨ga,by show a<=n;lia⟩
    .exact hx
  rw[List.mem_map,bj];constructor
  .rintro⟨x,hx,rfl⟩
   have:=sin x (o.mem.mp hx);lia
  .intro hy
   have:=sin y ⟨hy.1,by lia⟩;exact⟨aQ y (a,b),o.mem.mpr this,inv y⟩
theorem nM{row:List (Int×Int)}(g:Good n row):Ord n (bp n row):=by
 induction row using snoc_ind with
 |h0=>rw[oj];exact fF n
 |hs r e ih=>
  rw[AX];have ge:=g e (MJ _ (List.mem_singleton.mpr rfl));exact yi (ih (zx g)) ge.1 ge.2.1 ge.2.2
theorem HR(o:Ord n xs)(ga:1<=a)(gab:a<b)(gb:b<=n)(hb:b∈cq xs a):cnt n (xs.map (aQ · (a,b)))=cnt n xs+1:=by
 unfold cq at hb;obtain⟨k,hk,ek⟩:=List.mem_map.mp hb;have k0:0<k:=Nat.pos_of_ne_zero fun z=>by
  subst z;have:a=b:=ek;lia
 exact DN o ga gab gb k0 (List.mem_range.mp hk) ek
theorem cnt_nil(h:0<=n):cnt n (bp n [])=n.toNat:=by
 have e:=BX h (r:=[]) kR.nil;have:=zg h (nM (row:=[]) (fun e he=>by cases he));rw[e]at this;simpa using this
end
section
variable{n:Int}{xs ys:List Int}{a b:Int}
theorem BS(o:Ord n xs){x y:Int}(h1:1<=x)(h2:x<=n)(h:y∈cq xs x):ld xs y∈cq xs x:=by
 obtain⟨k,e⟩:=(cK o h1 h2).mp h;exact(cK o h1 h2).mpr ⟨k+1,by show ld xs (br (ld xs) k x)=_;rw[e]⟩
end
theorem sub_len:∀{l m:List Int},l.Nodup->(∀x∈l,x∈m)->l.length<=m.length
 |[],_,_,_=>MT _
 |x::l,m,nd,h=>by
  rw[List.nodup_cons]at nd;have hx:=h x MG;have:=sub_len (l:=l) (m:=m.erase x) nd.2 fun y hy=>by
   refine(List.mem_erase_of_ne ?_).mpr (h y (MH _ hy));intro z;subst z;exact nd.1 hy
  rw[List.length_erase_of_mem hx]at this;have:=List.length_pos_of_mem hx;rw[Mz];lia
structure zj(k:Nat)(d:PyData):Prop where
 lay:d.canLay0=true
 dp:d.depth<=k
theorem Jq{k:Nat}(i:Int):zj k (.int i):=⟨rfl,by unfold PyData.depth;lia⟩
theorem AF{k:Nat}{x:Str}(h:PyData.strOk x=true):zj k (.str x):=⟨h,by unfold PyData.depth;lia⟩
theorem gI(s:String):PyData.strOk (Mt s)=true:=by
 unfold PyData.strOk;rw[Str.ofString_eq_toList];rw[Array.all_eq_true_iff_forall_mem];intro c hc;have hc:c∈List.map Char.toNat s.toList:=by simpa using hc
 obtain⟨ch,_,rfl⟩:=List.mem_map.mp hc;have:=ch.valid;refine decide_eq_true ?_;show ch.val.toNat<1114112;rcases this with h|⟨_,h⟩
 .exact Nat.lt_trans h (by decide)
 .exact h
theorem vo{k:Nat}:∀{ds:List PyData},(∀d∈ds,zj k d)->PyData.canLayAll0 ds=true/\PyData.depthAll ds<=k
 |[],_=>⟨rfl,by unfold PyData.depthAll;lia⟩
 |d::ds,h=>by
  obtain⟨h1,h2⟩:=vo fun e he=>h e (MH _ he);have h0:=h d MG;refine⟨?_,?_⟩
  .unfold PyData.canLayAll0;rw[h1,h0.lay];rfl
  .unfold PyData.depthAll
   have:=h0.dp;lia
theorem zh{k:Nat}{ds:List PyData}(h:∀d∈ds,zj k d):zj (k+1) (.list ds):=by
 obtain⟨h1,h2⟩:=vo h;exact⟨by unfold PyData.canLay0;exact h1,by unfold PyData.depth;lia⟩
def up(es:List Int)(p:Int):Int:=if 0<p then es.getD (p-1).toNat 0 else p
def ups(es:List Int):Nat->Int->Int
 |0,p=>p
 |k+1,p=>up es (ups es k p)
section
variable{es come:List Int}{p x y:Int}
theorem Ew:up es 0=0:=by unfold up;rw[if_neg (by decide)]
theorem uN:∀k,ups es k 0=0
 |0=>rfl
 |k+1=>by show up es (ups es k 0)=0;rw[uN k,Ew]
theorem rE(k:Nat):∀j,ups es (j+k) p=ups es j (ups es k p)
 |0=>by rw[Nat.zero_add];rfl
 |j+1=>by
  rw[show j+1+k=(j+k)+1 by lia];show up es (ups es (j+k) p)=up es (ups es j (ups es k p));rw[rE k j]
theorem tX{k m:Nat}(h:ups es k p=0)(l:k<=m):ups es m p=0:=by
 rw[show m=(m-k)+k by lia,rE,h,uN]
theorem Ay(k:Nat):ups es (k+1) p=ups es k (up es p):=by rw[rE 1 k];rfl
structure CS(es come:List Int):Prop where
 z:come[0]?=some 0
 st:∀(j:Nat)(x:Int),1<=j->come[j]?=some x->1<=x/\∃(m:Nat)(y:Int),m<j/\come[m]?=some y/\es.getD (x-1).toNat 0=y
theorem CS.rB (g:CS es come):∀(j:Nat)(x:Int),come[j]?=some x->ups es j x=0:=by
 intro j
 induction j using Nat.strongRecOn with
 |_ j ih=>
  intro x hx;by_cases j0:j=0
  .subst j0
   rw[g.z]at hx;cases hx;rfl
  .obtain⟨x1,m,y,mj,hm,e⟩:=g.st j x (by lia) hx
   have:=ih m mj y hm;rw[show j=(j-1)+1 by lia,Ay];have eu:up es x=y:=by unfold up;rw[if_pos (by lia)];exact e
   rw[eu];exact tX this (by lia)
end
structure A2(n:Int)(es:List Int):Prop where
 len:es.length=n.toNat
 K8:∀e∈es,0<=e/\e<=n
 rB:∀p,1<=p->p<=n->ups es es.length p=0
def D4(e o:Int×Int):Int×Int:=(min (aQ e.1 o) (aQ e.2 o),max (aQ e.1 o) (aQ e.2 o))
theorem BJ{x y:Int}{e:Int×Int}(h:aQ x e=aQ y e):x=y:=by rw[←gk x e,h,gk]
theorem ux{n:Int}{s t:Int×Int}(hs:1<=s.1/\s.1<s.2/\s.2<=n)(ht:1<=t.1/\t.1<t.2/\t.2<=n):1<=(D4 s t).1/\(D4 s t).1<(D4 s t).2/\(D4 s t).2<=n:=by
 have a:=oN ht (x:=s.1) (by lia) (by lia);have b:=oN ht (x:=s.2) (by lia) (by lia);have ne:aQ s.1 t≠aQ s.2 t:=fun z=>by have:=BJ z;lia
 unfold D4;simp only;lia
def Eu(s t:Int×Int)(f:Bool):List (Int×Int):=if f=true then [t,D4 s t]else [D4 t s,s]
theorem E3(s t:Int×Int)(f:Bool):(Eu s t f).length=2:=by unfold Eu;split<;>rfl
def uB(row:List (Int×Int))(i:Nat)(f:Bool):List (Int×Int):=row.take i++Eu (row.getD i (0,0)) (row.getD (i+1) (0,0)) f++row.drop (i+2)
theorem qI{row:List (Int×Int)}{i:Nat}(h:i+1<row.length):∃A s t B,row=A++s::t::B/\A.length=i:=by
 refine⟨row.take i,row[i],row[i+1],row.drop (i+2),?_,by rw[MB];lia⟩;rw[List.getElem_cons_drop,List.getElem_cons_drop,List.take_append_drop]
theorem F5(A B:List (Int×Int))(s t:Int×Int)(f:Bool):uB (A++s::t::B) A.length f=A++Eu s t f++B:=by
 unfold uB;rw[List.take_left];have e1:(A++s::t::B).getD A.length (0,0)=s:=by
  rw[ME,List.getElem?_append_right (MP _),Nat.sub_self];rfl
 have e2:(A++s::t::B).getD (A.length+1) (0,0)=t:=by
  rw[ME,List.getElem?_append_right (by lia),show A.length+1-A.length=1 by lia];rfl
 have e3:(A++s::t::B).drop (A.length+2)=B:=by
  rw[List.drop_append,List.drop_eq_nil_of_le (by lia),show A.length+2-A.length=2 by lia];rfl
 rw[e1,e2,e3]
theorem Ig{row:List (Int×Int)}{i:Nat}(h:i+1<row.length)(f:Bool):(uB row i f).length=row.length:=by
 obtain⟨A,s,t,B,rfl,rfl⟩:=qI h;rw[F5,Mw,Mw,E3,Mw,Mz,Mz];lia
theorem EL{n:Int}{row:List (Int×Int)}{i:Nat}(g:Good n row)(h:i+1<row.length)(f:Bool):Good n (uB row i f):=by
 obtain⟨A,s,t,B,rfl,rfl⟩:=qI h;have gs:=g s (by simp);have gt:=g t (by simp);rw[F5];intro e he;rcases List.mem_append.mp he with he|he
 .rcases List.mem_append.mp he with he|he
  .exact g e (by simp[he])
  .unfold Eu at he
   split at he
   .rcases List.mem_cons.mp he with rfl|he
    .exact gt
    .rw[List.mem_singleton.mp he];exact ux gs gt
   .rcases List.mem_cons.mp he with rfl|he
    .exact ux gt gs
    .rw[List.mem_singleton.mp he];exact gs
 .exact g e (by simp[he])
def lG(n:Int):List Int:=(bK 1 (n+1)).map fun x=>x%n+1
def Aq(f:Int->Int)(e:Int×Int):Int×Int:=(min (f e.1) (f e.2),max (f e.1) (f e.2))
theorem A7(f:Int->Int)(a b:Int):Aq f (min a b,max a b)=Aq f (a,b):=by
 unfold Aq;rcases Int.le_total a b with h|h
 .rw[Int.min_eq_left h,Int.max_eq_right h]
 .rw[Int.min_eq_right h,Int.max_eq_left h]
  exact Prod.ext (Int.min_comm _ _) (Int.max_comm _ _)
def Inj(n:Int)(f:Int->Int):Prop:=∀x y,1<=x->x<=n->1<=y->y<=n->f x=f y->x=y
def el(es:List Int)(i:Nat):Int:=es.getD i 0
def uC(es:List Int):List (Int×Int):=(List.range es.length).map fun i=>(min (el es i+1) ((i:Int)+2),max (el es i+1) ((i:Int)+2))
section
variable{es:List Int}
theorem yk(t:A2 es.length es){i:Nat}(h:i<es.length):0<=el es i/\el es i<=es.length:=by
 unfold el;rw[ME,Mx h];exact t.K8 _ (List.getElem_mem h)
theorem JX{i:Nat}:up es ((i:Int)+1)=el es i:=by
 unfold up el;rw[if_pos (by lia),show((i:Int)+1-1).toNat=i by lia]
theorem CC(t:A2 es.length es){i:Nat}(h:i<es.length):el es i≠(i:Int)+1:=fun z=>by
 have st:∀k,ups es k ((i:Int)+1)=(i:Int)+1:=by
  intro k
  induction k with
  |zero=>rfl
  |succ k ih=>
   show up es (ups es k ((i:Int)+1))=_;rw[ih,JX,z]
 have:=t.rB ((i:Int)+1) (by lia) (by lia);rw[st]at this;lia
theorem vf:(uC es).length=es.length:=by unfold uC;rw[Mu,List.length_range]
theorem xV{i:Nat}(h:i<es.length):(uC es)[i]?=some (min (el es i+1) ((i:Int)+2),max (el es i+1) ((i:Int)+2)):=by
 unfold uC;rw[Mv,List.getElem?_range h];rfl
end
structure iM(es:List Int)(f:Int->Int)(row:List (Int×Int)):Prop where
 tree:A2 es.length es
 one:f 1=1
 inj:Inj ((es.length:Int)+1) f
 m6:∀x,1<=x->x<=(es.length:Int)+1->1<=f x/\f x<=(es.length:Int)+1
 row:row=(uC es).map (Aq f)
section
variable{es:List Int}{f:Int->Int}{row:List (Int×Int)}
theorem iM.len (t:iM es f row):row.length=es.length:=by rw[t.row,Mu,vf]
theorem iM.at (t:iM es f row){i:Nat}(h:i<es.length):row[i]?=some (Aq f (el es i+1,(i:Int)+2)):=by
 rw[t.row,Mv,xV h];show some _=_;rw[A7]
theorem iM.good (t:iM es f row):Good ((es.length:Int)+1) row:=by
 intro e he;obtain⟨i,hi,e1⟩:=List.mem_iff_getElem.mp he;rw[t.len]at hi;have h:=t.at hi;rw[Mx (by rw[t.len];exact hi),e1]at h;injection h with h
 rw[h];have h1:=yk t.tree hi;have h2:=CC t.tree hi;have r1:=t.m6 (el es i+1) (by lia) (by lia);have r2:=t.m6 ((i:Int)+2) (by lia) (by lia);have ne:f (el es i+1)≠f ((i:Int)+2):=fun z=>by
  have:=t.inj _ _ (by lia) (by lia) (by lia) (by lia) z;lia
 unfold Aq;dsimp only;lia
end
inductive cW(row:List (Int×Int)):List (Int×Int)->Prop
 |base:cW row [(1,0)]
 |step {L:List (Int×Int)} {x y j:Int} {i:Nat} {e:Int×Int}:cW row L->(y,j)∈L->row[i]?=some e->(e=(x,y)\/e=(y,x))->x∉L.map (·.1)->cW row (L++[(x,(i:Int)+1)])
section
variable{row:List (Int×Int)}{L:List (Int×Int)}
theorem cW.keys (g:cW row L):(L.map (·.1)).Nodup:=by
 induction g with
 |base=>simp
 | @step L x y j i e g hy hr he hx ih=>
  rw[My,List.nodup_append];refine⟨ih,by simp,fun a ha b hb=>?_⟩;have hb:b=x:=by simpa using hb
  rw[hb];exact fun z=>hx (z▸ha)
theorem cW.first (g:cW row L):(1,0)∈L:=by
 induction g with
 |base=>exact MG
 |step g hy hr he hx ih=>exact MK _ ih
theorem cW.ends (g:cW row L):∀x q,(x,q)∈L->q=0\/∃(i:Nat)(e:Int×Int),q=(i:Int)+1/\row[i]?=some e/\e.1∈L.map (·.1)/\e.2∈L.map (·.1):=by
 induction g with
 |base=>
  intro x q h;have h:(x,q)=(1,0):=List.mem_singleton.mp h;injection h with _ h
  exact .inl h
 | @step L x y j i e g hy hr he hx ih=>
  have hyk:y∈L.map (·.1):=List.mem_map.mpr ⟨_,hy,rfl⟩;intro x' q h;rcases List.mem_append.mp h with h|h
  .rcases ih x' q h with z|⟨i',e',a,b,c,d⟩
   .exact .inl z
   .refine .inr ⟨i',e',a,b,?_,?_⟩<;>rw[My]<;>exact MK _ (by assumption)
  .have h:(x',q)=(x,(i:Int)+1):=List.mem_singleton.mp h
   injection h with h1 h2
   refine .inr ⟨i,e,h2,hr,?_,?_⟩<;>rw[My]<;>rcases he with rfl|rfl
   .exact MJ _ (by simp)
   .exact MK _ hyk
   .exact MK _ hyk
   .exact MJ _ (by simp)
theorem cW.KW {n:Int}(g:cW row L)(n1:1<=n)(hg:Good n row):∀x∈L.map (·.1),1<=x/\x<=n:=by
 induction g with
 |base=>
  intro x h;have:x=1:=by simpa using h
  lia
 | @step L x y j i e g hy hr he hx ih=>
  intro x' h;rw[My]at h;rcases List.mem_append.mp h with h|h
  .exact ih x' h
  .have h:x'=x:=by simpa using h
   have ge:=hg e (MF hr);rw[h];rcases he with rfl|rfl<;>dsimp only at ge<;>lia
theorem cW.wb {n:Int}(g:cW row L)(n1:1<=n)(hg:Good n row):L.length<=n.toNat:=by
 have:=Bs (n:=n) (by lia) g.keys (g.KW n1 hg);rwa [Mu]at this
theorem cW.full {n:Int}(g:cW row L)(n1:1<=n)(hg:Good n row)(h:n.toNat<=L.length){x:Int}(x1:1<=x)(x2:x<=n):x∈L.map (·.1):=by
 have:=Classical.byContradiction fun(z:x∉L.map (·.1))=>by
  have nd:(x::L.map (·.1)).Nodup:=List.nodup_cons.mpr ⟨z,g.keys⟩;have:=Bs (n:=n) (by lia) nd (fun y hy=>by
   rcases List.mem_cons.mp hy with rfl|hy
   .exact⟨x1,x2⟩
   .exact g.KW n1 hg y hy)
  rw[Mz,Mu]at this;lia
 exact this
theorem BQ{n:Int}{S:Int->Prop}(n1:1<=n)(h1:S 1)(cl:∀e∈row,S e.1↔S e.2)(gr:bp n row=lG n):∀x,1<=x->x<=n->S x:=by
 have one:∀(r:List (Int×Int)),(∀e∈r,S e.1↔S e.2)->∀x,S x->S (go r x):=by
  intro r
  induction r with
  |nil=>intro _ x h;exact h
  |cons e r ih=>
   intro hc x h;refine ih (fun d hd=>hc d (MH _ hd)) (aQ x e) ?_;have:=hc e MG;unfold aQ
   split
   .rename_i z;exact this.mp (z▸h)
   .split
    .rename_i z;exact this.mpr (z▸h)
    .exact h
 have at_:∀x,1<=x->x<=n->go row x=x%n+1:=fun x x1 x2=>by
  rw[←rP (n:=n) x1 x2,gr];unfold ld lG;rw[ME,Mv,bR (by lia)];show(1+((x-1).toNat:Int))%n+1=_;rw[show 1+((x-1).toNat:Int)=x by lia]
 have key:∀k:Nat,(k:Int)+1<=n->S ((k:Int)+1):=by
  intro k
  induction k with
  |zero=>intro _;exact h1
  |succ k ih=>
   intro hk;have:=one row cl _ (ih (by lia));rw[at_ _ (by lia) (by lia),Int.emod_eq_of_lt (by lia) (by lia)]at this;exact_mod_cast this
 intro x x1 x2;have:=key (x-1).toNat (by lia);rwa [show((x-1).toNat:Int)+1=x by lia]at this
theorem iM.grow {es:List Int}{f:Int->Int}(t:iM es f row)(g:cW row L):∀x q,(x,q)∈L->0<=q/\q<=es.length/\x=f (q+1):=by
 induction g with
 |base=>
  intro x q h;have h:(x,q)=(1,0):=List.mem_singleton.mp h;injection h with h1 h2
  subst h1 h2;exact⟨Int.le_refl 0,by lia,t.one.symm⟩
 | @step L x y j i e g hy hr he hx ih=>
  intro x' q h;rcases List.mem_append.mp h with h|h
  .exact ih x' q h
  .have h:(x',q)=(x,(i:Int)+1):=List.mem_singleton.mp h
   injection h with h1 h2
   subst h1 h2;have hi:i<es.length:=by
    have:=(List.getElem?_eq_some_iff.mp hr).1;rw[t.len]at this;exact this
   refine⟨by lia,by lia,?_⟩;have ea:=t.at hi;rw[hr]at ea;injection ea with ea
   obtain⟨j0,j1,ey⟩:=ih y j hy;have h1:=yk t.tree hi;have hyk:∀z,f ((i:Int)+2)=y->x'∈L.map (·.1)\/x'=z:=fun z hz=>by
    have:j=(i:Int)+1:=by
     have:=t.inj _ _ (by lia) (by lia) (by lia) (by lia) (hz.trans ey);lia
    rcases g.ends y j hy with z|⟨i',e',a,b,c,d⟩
    .lia
    .have:i'=i:=by lia
     subst this;rw[hr]at b;injection b with b
     subst b;rcases he with rfl|rfl
     .exact .inl c
     .exact .inl d
   have e2:x'+y=f (el es i+1)+f ((i:Int)+2)/\(y=f (el es i+1)\/y=f ((i:Int)+2)):=by
    unfold Aq at ea;dsimp only at ea;rcases he with rfl|rfl<;>injection ea with ea1 ea2<;>lia
   rcases e2.2 with z|z
   .rw[show(i:Int)+1+1=(i:Int)+2 by lia]
    lia
   .rcases hyk 0 z.symm with z'|z'
    .exact absurd z' hx
    .rcases hyk 1 z.symm with z''|z''
     .exact absurd z'' hx
     .lia
theorem iM.place {es:List Int}{f:Int->Int}(t:iM es f row)(g:cW row L)(h:es.length+1<=L.length){q:Int}(q0:0<=q)(q1:q<=es.length):(f (q+1),q)∈L:=by
 have r:=t.m6 (q+1) (by lia) (by lia);have hm:=g.full (n:=(es.length:Int)+1) (by lia) t.good (by lia) r.1 r.2;obtain⟨⟨x,q'⟩,hp,e⟩:=List.mem_map.mp hm;dsimp only at e;obtain⟨a,b,c⟩:=t.grow g x q' hp;have:q'=q:=by
  have:=t.inj _ _ (by lia) (by lia) (by lia) (by lia) (c.symm.trans e);lia
 subst this;rw[←e];exact hp
end
def lF(L:List (Int×Int)):List (Key×V):=L.map fun p=>(Sum.inl p.1,V.int p.2)
theorem hZ(L:List (Int×Int)):(lF L).length=L.length:=by unfold lF;rw[Mu]
theorem xR{L:List (Int×Int)}{x:Int}:(Sum.inl x:Key)∈(lF L).map (·.1)↔x∈L.map (·.1):=by
 unfold lF;rw[MD];constructor
 .intro h
  obtain⟨p,hp,e⟩:=List.mem_map.mp h;have e:(Sum.inl p.1:Key)=Sum.inl x:=e;injection e with e
  exact List.mem_map.mpr ⟨p,hp,e⟩
 .intro h
  obtain⟨p,hp,e⟩:=List.mem_map.mp h;exact List.mem_map.mpr ⟨p,hp,by show(Sum.inl p.1:Key)=Sum.inl x;rw[e]⟩
theorem zL{L:List (Int×Int)}(h:(L.map (·.1)).Nodup):((lF L).map (·.1)).Nodup:=by
 unfold lF;rw[MD];have e:L.map ((fun x:Key×V=>x.1)∘fun p:Int×Int=>((Sum.inl p.1:Key),V.int p.2))=(L.map (·.1)).map fun x=>(Sum.inl x:Key):=by rw[MD];rfl
 rw[e];exact List.Pairwise.map _ (fun a b ne z=>ne (by injection z)) h
theorem wF{L:List (Int×Int)}(nd:(L.map (·.1)).Nodup){x q:Int}(h:(x,q)∈L):cj (lF L) (Sum.inl x:Key)=some (V.int q):=by
 obtain⟨j,hj⟩:=List.getElem?_of_mem h;refine Cd (j:=j) (zL nd) ?_;unfold lF;rw[Mv,hj];rfl
theorem Er{L:List (Int×Int)}{x:Int}(h:x∉L.map (·.1)):cj (lF L) (Sum.inl x:Key)=none:=ue fun z=>h (xR.mp z)
theorem yH{L:List (Int×Int)}{x q:Int}(h:x∉L.map (·.1)):putK (lF L) (Sum.inl x:Key) (V.int q)=lF (L++[(x,q)]):=by
 rw[Cp fun z=>h (xR.mp z)];unfold lF;rw[My];rfl
theorem eP{L:List (Int×Int)}(nd:(L.map (·.1)).Nodup)(x:Int):(cj (lF L) (Sum.inl x:Key)).isSome=decide (x∈L.map (·.1)):=by
 by_cases h:x∈L.map (·.1)
 .obtain⟨⟨a,q⟩,hp,e⟩:=List.mem_map.mp h
  dsimp only at e;subst e;rw[wF nd hp,decide_eq_true h];rfl
 .rw[Er h,decide_eq_false h]
  rfl
theorem sub_le:∀{as bs:List Int},as.Nodup->(∀x∈as,x∈bs)->as.length<=bs.length
 |[],_,_,_=>MT _
 |a::as,bs,nd,h=>by
  rw[List.nodup_cons]at nd;have hb:=h a MG;have le:=sub_le (bs:=bs.erase a) nd.2 fun x hx=>by
   have ne:x≠a:=fun z=>nd.1 (by rw[←z];exact hx);exact(List.mem_erase_of_ne ne).mpr (h x (MH _ hx))
  rw[List.length_erase_of_mem hb]at le;have:=List.length_pos_of_mem hb;rw[Mz];lia
theorem l7{n:Int}{row L:List (Int×Int)}(g:cW row L)(n1:1<=n)(gr:bp n row=lG n)(cl:∀(j:Nat)(e:Int×Int),row[j]?=some e->(e.1∈L.map (·.1)↔e.2∈L.map (·.1))):n.toNat<=L.length:=by
 have key:=BQ (S:=fun x=>x∈L.map (·.1)) n1 (List.mem_map.mpr ⟨_,g.first,rfl⟩) (fun e he=>by
  obtain⟨j,hj⟩:=List.getElem?_of_mem he;exact cl j e hj) gr
 have sub:(bK 1 (n+1)).length<=(L.map (·.1)).length:=sub_le (bV _ _) fun x hx=>by
  have:=bj.mp hx;exact key x (by lia) (by lia)
 rw[aB,Mu]at sub;lia
section
variable{row L:List (Int×Int)}{n:Int}
theorem cW.at (g:cW row L):L[0]?=some (1,0)/\∀(k:Nat)(x q:Int),1<=k->L[k]?=some (x,q)->∃(i:Nat)(e:Int×Int)(y j:Int)(k':Nat),k'<k/\L[k']?=some (y,j)/\q=(i:Int)+1/\row[i]?=some e/\(e=(x,y)\/e=(y,x)):=by
 induction g with
 |base=>
  refine⟨rfl,fun k x q h1 h=>?_⟩;have:=(List.getElem?_eq_some_iff.mp h).1;rw[List.length_singleton]at this;lia
 | @step L x y j i e g hy hr he hx ih=>
  have l0:0<L.length:=(List.getElem?_eq_some_iff.mp ih.1).1;refine⟨by rw[List.getElem?_append_left l0];exact ih.1,fun k x' q h1 h=>?_⟩;by_cases hk:k<L.length
  .rw[List.getElem?_append_left hk]at h
   obtain⟨i',e',y',j',k',a,b,c⟩:=ih.2 k x' q h1 h;exact⟨i',e',y',j',k',a,by rw[List.getElem?_append_left (by lia)];exact b,c⟩
  .have ek:k=L.length:=by
    have:=(List.getElem?_eq_some_iff.mp h).1;rw[Mw,List.length_singleton]at this;lia
   subst ek;rw[List.getElem?_append_right (MP _),Nat.sub_self]at h;have h:(x,(i:Int)+1)=(x',q):=MV h;injection h with h1' h2'
   subst h1' h2';obtain⟨k',hk'⟩:=List.getElem?_of_mem hy;have lk:=(List.getElem?_eq_some_iff.mp hk').1;exact⟨i,e,y,j,k',lk,by rw[List.getElem?_append_left lk];exact hk',rfl,hr,he⟩
theorem cW.places (g:cW row L):(L.map (·.2)).Nodup:=by
 induction g with
 |base=>simp
 | @step L x y j i e g hy hr he hx ih=>
  rw[My,List.nodup_append];refine⟨ih,by simp,fun a ha b hb=>?_⟩;have hb:b=(i:Int)+1:=by simpa using hb
  rw[hb];intro z;obtain⟨⟨x',q'⟩,hp,e1⟩:=List.mem_map.mp ha;dsimp only at e1;rcases g.ends x' q' hp with z0|⟨i',e',b1,b2,b3,b4⟩
  .lia
  .have:i'=i:=by lia
   subst this;rw[hr]at b2;have b2:=MV b2;subst b2;rcases he with rfl|rfl
   .exact hx b3
   .exact hx b4
theorem cW.pin (g:cW row L):∀q:Int,q∈L.map (·.2)->0<=q/\q<=(row.length:Int):=fun q hq=>by
 obtain⟨⟨x,q'⟩,hp,e⟩:=List.mem_map.mp hq;dsimp only at e;subst e;rcases g.ends x q' hp with z|⟨i,e,a,b,_⟩
 .lia
 .have:=(List.getElem?_eq_some_iff.mp b).1
  lia
theorem cW.Jr (g:cW row L)(h:row.length+1<=L.length){q:Int}(q0:0<=q)(q1:q<=row.length):q∈L.map (·.2):=by
 refine Classical.byContradiction fun z=>?_;have le:=sub_le (as:=q::L.map (·.2)) (bs:=bK 0 ((row.length:Int)+1)) (List.nodup_cons.mpr ⟨z,g.places⟩) (fun y hy=>by
  rw[bj];rcases List.mem_cons.mp hy with rfl|hy
  .lia
  .have:=g.pin y hy;lia)
 rw[Mz,Mu,aB]at le;lia
theorem CW(n1:1<=n)(gr:bp n row=lG n):∀(k:Nat),∃L,cW row L/\(k<=L.length\/n.toNat<=L.length)
 |0=>⟨_,.base,.inl (MT _)⟩
 |k+1=>by
  obtain⟨L,g,h⟩:=CW n1 gr k;by_cases c:n.toNat<=L.length
  .exact⟨L,g,.inr c⟩
  .have:∃(j:Nat)(e:Int×Int),row[j]?=some e/\¬(e.1∈L.map (·.1)↔e.2∈L.map (·.1)):=Classical.byContradiction fun z=>c (l7 g n1 gr fun j e hj=>Classical.byContradiction fun z'=>z ⟨j,e,hj,z'⟩)
   obtain⟨j,⟨a,b⟩,hj,ne⟩:=this;dsimp only at ne;by_cases ka:a∈L.map (·.1)
   .have kb:b∉L.map (·.1):=fun z=>ne ⟨fun _=>z,fun _=>ka⟩
    obtain⟨⟨a',q⟩,hp,e⟩:=List.mem_map.mp ka;dsimp only at e;subst e;exact⟨_,.step g hp hj (.inr rfl) kb,.inl (by rw[Mw,List.length_singleton];lia)⟩
   .have kb:b∈L.map (·.1):=Classical.byContradiction fun z=>ne ⟨fun h=>absurd h ka,fun h=>absurd h z⟩
    obtain⟨⟨b',q⟩,hp,e⟩:=List.mem_map.mp kb;dsimp only at e;subst e;exact⟨_,.step g hp hj (.inl rfl) ka,.inl (by rw[Mw,List.length_singleton];lia)⟩
theorem BK(n1:1<=n)(gr:bp n row=lG n):∃L,cW row L/\n.toNat<=L.length:=by
 obtain⟨L,g,h⟩:=CW n1 gr n.toNat;exact⟨L,g,by lia⟩
end
def Au(L:List (Int×Int))(q:Int):Int:=((L.find? fun p=>decide (p.2=q)).getD (0,0)).1
def II(L:List (Int×Int))(x:Int):Int:=((L.find? fun p=>decide (p.1=x)).getD (0,0)).2
theorem lY:∀{L:List (Int×Int)}{x q:Int},(L.map (·.2)).Nodup->(x,q)∈L->Au L q=x
 |[],_,_,_,h=>by cases h
 |(a,b)::L,x,q,nd,h=>by
  rw[MA,List.nodup_cons]at nd;unfold Au;by_cases e:b=q
  .rw[List.find?_cons_of_pos (by simpa using e)]
   rcases List.mem_cons.mp h with z|z
   .injection z with z1 _
    exact z1.symm
   .exact absurd (List.mem_map.mpr ⟨_,z,e.symm⟩) nd.1
  .rw[List.find?_cons_of_neg (by simpa using e)]
   rcases List.mem_cons.mp h with z|z
   .injection z with _ z2
    exact absurd z2.symm e
   .exact lY nd.2 z
theorem r9:∀{L:List (Int×Int)}{x q:Int},(L.map (·.1)).Nodup->(x,q)∈L->II L x=q
 |[],_,_,_,h=>by cases h
 |(a,b)::L,x,q,nd,h=>by
  rw[MA,List.nodup_cons]at nd;unfold II;by_cases e:a=x
  .rw[List.find?_cons_of_pos (by simpa using e)]
   rcases List.mem_cons.mp h with z|z
   .injection z with _ z1
    exact z1.symm
   .exact absurd (List.mem_map.mpr ⟨_,z,e.symm⟩) nd.1
  .rw[List.find?_cons_of_neg (by simpa using e)]
   rcases List.mem_cons.mp h with z|z
   .injection z with z2 _
    exact absurd z2.symm e
   .exact r9 nd.2 z
def F0(row L:List (Int×Int)):List Int:=(List.range row.length).map fun i=>II L ((row.getD i (0,0)).1+(row.getD i (0,0)).2-Au L ((i:Int)+1))
theorem Di(row L:List (Int×Int)):(F0 row L).length=row.length:=by unfold F0;rw[Mu,List.length_range]
section
variable{row:List (Int×Int)}
theorem wQ(hg:Good ((row.length:Int)+1) row)(gr:bp ((row.length:Int)+1) row=lG ((row.length:Int)+1)):∃es f,es.length=row.length/\iM es f row:=by
 obtain⟨L,g,hL⟩:=BK (n:=(row.length:Int)+1) (by lia) gr;have wb:=g.wb (n:=(row.length:Int)+1) (by lia) hg;have len:L.length=row.length+1:=by lia
 have ndx:=g.keys;have ndq:=g.places;have sl:=Di row L;have key:∀(k:Nat)(x q:Int),1<=k->L[k]?=some (x,q)->∃(i:Nat)(y j:Int)(k':Nat),q=(i:Int)+1/\i<row.length/\k'<k/\L[k']?=some (y,j)/\(row[i]?=some (x,y)\/row[i]?=some (y,x))/\el (F0 row L) i=j:=fun k x q k1 hk=>by
  obtain⟨i,e,y,j,k',a,b,c,d,he⟩:=g.at.2 k x q k1 hk;have hi:=(List.getElem?_eq_some_iff.mp d).1;refine⟨i,y,j,k',c,hi,a,b,by rcases he with rfl|rfl<;>simp[d],?_⟩;unfold el F0;rw[ME,Mv,List.getElem?_range hi];show II L ((row.getD i (0,0)).1+(row.getD i (0,0)).2-Au L ((i:Int)+1))=j;have hp:=MF hk;rw[c]at hp;rw[ME,d,lY ndq hp];have:e.1+e.2-x=y:=by rcases he with rfl|rfl<;>dsimp only<;>lia
  show II L (e.1+e.2-x)=j;rw[this];exact r9 ndx (MF b)
 have plx:∀q:Int,0<=q->q<=row.length->(Au L q,q)∈L:=fun q q0 q1=>by
  obtain⟨⟨x,q'⟩,hp,e⟩:=List.mem_map.mp (g.Jr (by lia) q0 q1);dsimp only at e;subst e;rw[lY ndq hp];exact hp
 have key2:∀i,i<row.length->∃(x y j:Int)(k k':Nat),L[k]?=some (x,(i:Int)+1)/\k'<k/\L[k']?=some (y,j)/\(row[i]?=some (x,y)\/row[i]?=some (y,x))/\el (F0 row L) i=j:=fun i hi=>by
  obtain⟨k,hk⟩:=List.getElem?_of_mem (plx ((i:Int)+1) (by lia) (by lia));have k1:1<=k:=by
   rcases Nat.eq_zero_or_pos k with z|z
   .subst z
    rw[g.at.1]at hk;injection hk with hk
    injection hk with _ hk
    lia
   .exact z
  obtain⟨i',y,j,k',a,b,c,d,e,f⟩:=key k _ _ k1 hk;have:i'=i:=by lia
  subst this;exact⟨_,y,j,k,k',hk,c,d,e,f⟩
 refine⟨F0 row L,fun x=>Au L (x-1),sl,⟨⟨by lia,fun e he=>?_,fun p p1 p2=>?_⟩,(show Au L (1-1)=1 from lY ndq g.first),fun x y x1 x2 y1 y2 e=>?_,fun x x1 x2=>?_,?_⟩⟩
 .obtain⟨i,hi,e1⟩:=List.mem_iff_getElem.mp he
  obtain⟨x,y,j,k,k',a,b,c,d,e2⟩:=key2 i (by lia);have:el (F0 row L) i=e:=by unfold el;rw[ME,Mx hi,e1];rfl
  have:=g.pin j (List.mem_map.mpr ⟨_,MF c,rfl⟩);lia
 .have gn:CS (F0 row L) (L.map (·.2)):=⟨by rw[Mv,g.at.1];rfl,fun j x j1 hx=>by
   rw[Mv]at hx;obtain⟨⟨x0,q⟩,hq,e⟩:=Option.map_eq_some_iff.mp hx;dsimp only at e;subst e;obtain⟨i,y,j',k',a,b,c,d,_,f⟩:=key j x0 q j1 hq;refine⟨by lia,k',j',c,by rw[Mv,d];rfl,?_⟩;rw[show(q-1).toNat=i by lia];exact f⟩
  obtain⟨k,hk⟩:=List.getElem?_of_mem (plx p (by lia) (by lia));have lk:=(List.getElem?_eq_some_iff.mp hk).1;exact tX (gn.rB k p (by rw[Mv,hk];rfl)) (by lia)
 .have h1:=plx (x-1) (by lia) (by lia)
  have h2:=plx (y-1) (by lia) (by lia);have e:Au L (x-1)=Au L (y-1):=e;rw[e]at h1;have a:=r9 ndx h1;rw[r9 ndx h2]at a;lia
 .have h1:=plx (x-1) (by lia) (by lia)
  have:=g.KW (n:=(row.length:Int)+1) (by lia) hg (Au L (x-1)) (List.mem_map.mpr ⟨_,h1,rfl⟩);show 1<=Au L (x-1)/\Au L (x-1)<=_;lia
 .refine List.ext_getElem? fun i=>?_
  rw[Mv];by_cases hi:i<row.length
  .rw[xV (by lia)]
   show row[i]?=some (Aq _ _);rw[A7];obtain⟨x,y,j,k,k',a,b,c,d,e2⟩:=key2 i hi;have hx:=lY ndq (MF a);have hy:=lY ndq (MF c);rw[e2];unfold Aq;dsimp only;rw[show j+1-1=j by lia,show(i:Int)+2-1=(i:Int)+1 by lia,hx,hy];rcases d with d|d<;>have gd:=hg _ (MF d)<;>dsimp only at gd<;>rw[d]<;>congr 1
   .exact Prod.ext (by show x=min y x;lia) (by show y=max y x;lia)
   .exact Prod.ext (by show y=min y x;lia) (by show x=max y x;lia)
  .rw[List.getElem?_eq_none (by lia),List.getElem?_eq_none (by rw[vf];lia)]
   rfl
end
theorem GN{n m:Nat}{a:Int}(h0:0<=a):HT.oR n m (some a)=min a.toNat n:=by
 show(if a<0 then(a+(n:Int)).toNat else min a.toNat n)=_;rw[if_neg (by lia)]
theorem FP{xs:List V}{a:Int}(h0:0<=a)(h:a<=xs.length):fg xs none (some a)=xs.take a.toNat:=by
 have e:HT.oR xs.length 0 none=0:=rfl;unfold fg;rw[e,GN h0,List.drop_zero,Nat.sub_zero,Nat.min_eq_left (by lia)]
section
variable{n:Int}
theorem Ep{xs D:List Int}(h0:0<=n)(nd:D.Nodup)(h:∀x∈D,1<=x/\x<=n/\∃y∈cq xs x,y<x):cnt n xs+D.length<=n.toNat:=by
 unfold cnt;rw[←Mw];have:=sub_len (l:=(bK 1 (n+1)).filter (least xs)++D) (m:=bK 1 (n+1)) ?_ ?_
 .rw[aB]at this;lia
 .rw[List.nodup_append]
  refine⟨(bV _ _).sublist List.filter_sublist,nd,fun x hx y hy e=>?_⟩;subst e;obtain⟨_,_,z,hz,lt⟩:=h x hy;have:=(List.mem_filter.mp hx).2;unfold least at this;have:=of_decide_eq_true (List.all_eq_true.mp this z hz);lia
 .intro x hx
  rcases List.mem_append.mp hx with z|z
  .exact(List.mem_filter.mp z).1
  .have:=h x z
   exact bj.mpr ⟨by lia,by lia⟩
theorem Ck{row:List (Int×Int)}(gr:bp n row=lG n){x:Int}(x1:1<=x)(x2:x<=n):go row x=x%n+1:=by
 rw[←rP (n:=n) x1 x2,gr];unfold ld lG;rw[ME,Mv,bR (by lia)];show(1+((x-1).toNat:Int))%n+1=_;rw[show 1+((x-1).toNat:Int)=x by lia]
theorem zZ{row:List (Int×Int)}(n1:1<=n)(g:Good n row)(gr:bp n row=lG n):cnt n (bp n row)<=1:=by
 have o:=nM g;have:=Ep (n:=n) (xs:=bp n row) (D:=bK 2 (n+1)) (by lia) (bV _ _) fun x hx=>by
  have hx:=bj.mp hx;refine⟨by lia,by lia,1,?_,by lia⟩;have step:∀y,1<=y->y<=n->y∈cq (bp n row) x->y%n+1∈cq (bp n row) x:=fun y y1 y2 hy=>by
   have:=BS o (by lia) (by lia) hy;rwa [rP y1 y2,Ck gr y1 y2]at this
  have up:∀j:Nat,x+j<=n->x+j∈cq (bp n row) x:=by
   intro j
   induction j with
   |zero=>intro _;rw[show x+((0:Nat):Int)=x by lia];exact dn x
   |succ j ih=>
    intro hj;have:=step (x+j) (by lia) (by lia) (ih (by lia));rw[Int.emod_eq_of_lt (by lia) (by lia)]at this;rwa [show x+((j+1:Nat):Int)=x+(j:Int)+1 by lia]
  have hn:=up (n-x).toNat (by lia);rw[show x+(((n-x).toNat:Nat):Int)=n by lia]at hn;have:=step n (by lia) (by lia) hn;rwa [Int.emod_self]at this
 rw[aB]at this;lia
end
def tf:Sp:=fun vs H Q _=>∃(n:Int)(l:MY)(es:List V)(row:List (Int×Int)),vs=[.int n,.ref l]/\0<=n/\n<=1000/\H l=some (.lst es)/\dD H es row/\∀t H',H t=none->H' t=some (.tup ((bp n row).map V.int))->ah H H'->Q (.ref t) H'
def nW(C:MY):Sp:=fun vs H Q E=>∃(l:MY)(es:List V)(row:List (Int×Int)),vs=[.ref l]/\H l=some (.lst es)/\dD H es row/\row.length<=500/\(bp ((row.length:Int)+1) row=lG ((row.length:Int)+1)->∀H',ah H H'->Q .de H')/\(bp ((row.length:Int)+1) row≠lG ((row.length:Int)+1)->∀H',ah H H'->E (.ref C) none H')
structure T2(P:M0)(w:M3)(K:W.Frag)(mg:Str->Option MX)(base:Nc):Prop extends T1 mg K where
 xZ:FnAt P w K mg base "plain" 1 ["n"] yd
 eU:FnAt P w K mg base "exchanged" 1 ["exchange","thing"] G0
structure JA(P:M0)(w:M3)(K:W.Frag)(mg:Str->Option MX)(base:Nc)(C:MY):Prop extends T1 mg K where
 u4:FnAt P w K mg base "led" 3 ["n","row"] tf
 yz:FnAt P w K mg base "great" 1 ["n"] yR
 cL:mg "NotGreat" =some (.ref C)
 fP:j4 K C
section
variable{P:M0}{w:M3}{K:W.Frag}{mg:Str->Option MX}{base:Nc}{C:MY}
theorem rn:aA ["n","row","leads","exchange"] ["n","row"] (ar (top 33)):=⟨rfl,rfl,rfl,by decide+kernel,rfl,by decide+kernel,by decide+kernel⟩
theorem El{f:MY}{fd:Nb}(F:dO K "led" "led" (top 33) f fd)(T:T2 P w K mg base):aR P w K mg base gh 3 f fd ["n","row"] tf:=by
 refine F.ok rn (fun vs H Q E h=>?_) (fun cdv A outer s H vs Q E hr h=>?_)
 .obtain⟨n,l,es,row,rfl,_⟩:=h
  rfl
 .obtain⟨n,l0,es,row,rfl,hn0,hn1,hl0,hx,k⟩:=h
  refine⟨_,(ag (aC (i:=2) rn.nd rfl (Or.inl rfl) (aF (jO (K:=K) rfl) rfl T.o7 (by decide+kernel) (aa (au T.xZ (hr.mono (by first|decide|lia)) rfl (aa (pv 0) af)) af)))
   (ag (fi PassesOwn.never rfl (a6 (K:=K) rfl (pv 1)) (aw (i:=3) rn.nd rfl (Or.inr rfl)) (aj (gX (i:=2) rn.nd rfl rfl (N:=(["thing","exchange"]:List Str)) (ix:=([none,some 3]:List (Option Nat))) (aT rfl rfl) rfl (a6 (K:=K) rfl (pv 2)) (fun _ _ _ _=>(aw (i:=0) (show List.Nodup (["thing","exchange"]:List Str)from by decide+kernel) rfl (Or.inl rfl))) (fun _ _ _ _=>bc) (fun _ _ _ _=>(au T.eU (hr.mono (by first|decide|lia)) rfl (aa (pv 1) (aa (pv 0) af)))))))
   (aj (ay (aF (bo (K:=K) rfl) rfl T.cu (by decide+kernel) (aa (pv 2) af)))))),?_⟩
  refine⟨_,rfl,n,rfl,hn0,hn1,fun t H1 ht ht1 s1=>⟨t,_,rfl,.inr (dI.of ht1),fun l hl=>?_⟩⟩;have s2:ah H (upd H1 l (.lst ((bK 1 (n+1)).map V.int))):=s1.trans (ah.new hl);refine⟨_,rfl,l0,rfl,⟨_,aJ.of (s2 _ _ hl0)⟩,lz (K:=K) (a:=l0) (xs:=es) (fun i σ H'=>∃(l:MY)(v3:Option V),σ=[some (.int n),some (.ref l0),some (.ref l),v3]/\ah H H'/\H' l=some (.lst (((bK 1 (n+1)).map (go (row.take i))).map V.int)))
   ⟨l,none,rfl,s2,by rw[ae,List.take_zero];rw[show(bK 1 (n+1)).map (go [])=bK 1 (n+1)from oj n]⟩ (fun i σ H' _ ⟨_,_,_,s3,_⟩=>aJ.of (s3 _ _ hl0)) ?_ ?_⟩
  .rintro i y σ H' hi ⟨l,v3,rfl,s3,hl⟩
   obtain⟨te,a,b,rfl,hte,hrow⟩:=hx.get hi;have hte':=s3 _ _ hte;refine⟨_,rfl,l,rfl,⟨_,aJ.of hl⟩,zm (K:=K) (xs:=((bK 1 (n+1)).map (go (row.take i))).map V.int) (k:=0)
    (fun j ys σ' H''=>ys=((((bK 1 (n+1)).map (go (row.take i))).take j).map fun x=>V.int (aQ x (a,b)))/\(∃v,σ'=[v,some (.ref te)])/\H''=H') ?_ ⟨rfl,⟨none,rfl⟩,rfl⟩
    (fun j ys σ' H'' _ p=>by rw[p.2.2];exact aJ.of hl) (fun j ys σ' H'' p=>by rw[p.1,Mu,MB];lia) ?_ ?_ ?_⟩
   .rw[Mu,Mu,aB];lia
   .rintro j ys σ' H'' x hj ⟨rfl,⟨v,rfl⟩,rfl⟩
    rw[Mv]at hj
    cases hz:((bK 1 (n+1)).map (go (row.take i)))[j]? with
    |none=>rw[hz]at hj;cases hj
    |some z=>
     rw[hz]at hj;cases hj;refine⟨_,rfl,_,rfl,te,a,b,z,rfl,hte',?_,⟨_,rfl⟩,rfl⟩;exact(bh (fun x=>V.int (aQ x (a,b))) hz).symm
   .intro σ' H'' R R' m q
    obtain⟨v,e1,v',e2,t,a,b,x,e3,e4,q⟩:=q;exact⟨v,e1,v',e2,t,a,b,x,e3,e4,m _ _ q⟩
   .rintro ys σ' H'' p ⟨rfl,_,rfl⟩ hp
    refine⟨p,_,rfl,s3.trans (ah.new hp),?_⟩;rw[ae,MI (by simp),MD,MD];congr 2;apply List.map_congr_left;intro x _;show V.int (aQ (go (row.take i) x) (a,b))=V.int (go (row.take (i+1)) x);rw[xD hrow]
  .rintro σ H' ⟨l,v3,rfl,s3,hl⟩
   rw[hx.length,List.take_length]at hl;refine⟨_,rfl,l,_,rfl,.inl ⟨aJ.of hl,fun t ht=>?_⟩⟩;exact k t _ (s3.free ht) ae (s3.trans (ah.new ht))
theorem i6:aA ["row","n"] ["row"] (ar (top 37)):=⟨rfl,rfl,rfl,by decide+kernel,rfl,by decide+kernel,by decide+kernel⟩
theorem Bp{f:MY}{fd:Nb}(F:dO K "check_great" "check_great" (top 37) f fd)(T:JA P w K mg base C):aR P w K mg base (i3 P w) 4 f fd ["row"] (nW C):=by
 refine F.Aa i6 (fun vs H Q E h=>?_) (fun cdv A outer s H vs Q E hr h=>?_)
 .obtain⟨l,es,row,rfl,_⟩:=h
  rfl
 .obtain⟨l,es,row,rfl,hl,hx,h100,kQ,kE⟩:=h
  refine⟨_,(ag (aC (i:=1) i6.nd rfl (Or.inl rfl) (av aS (ak (aL (K:=K) rfl) rfl T.bE (by decide+kernel) (aa (pv 0) af)) ai))
   (aj (a8 (ax (we hr.units) (au T.u4 (hr.mono (by first|decide|lia)) rfl (aa (pv 1) (aa (pv 0) af))) (au T.yz (hr.mono (by first|decide|lia)) rfl (aa (pv 1) af)) (aG _)) (aj (dP pU T.fP rfl rfl T.cL (aa aK af))) aE))),?_⟩
  have el:=hx.length;refine⟨_,rfl,l,_,rfl,.inl (aJ.of hl),_,_,rfl,rfl,?_⟩;rw[el];refine⟨_,rfl,_,rfl,_,l,es,row,rfl,by lia,by lia,hl,hx,fun t H1 ft ht s1=>?_⟩;refine⟨_,rfl,_,rfl,by lia,by lia,fun t2 H2 ft2 ht2 s2=>?_⟩;by_cases hgr:bp ((row.length:Int)+1) row=lG ((row.length:Int)+1)
  .refine eqT (s2 _ _ ht) ht2 ⟨_,rfl,gG ?_ (kQ hgr H2 (s1.trans s2))⟩
   rw[hgr];unfold lG;rw[decide_eq_true rfl];rfl
  .refine eqT (s2 _ _ ht) ht2 ⟨_,rfl,lJ ?_ ⟨(by show 1<=M5;decide),kE hgr H2 (s1.trans s2)⟩⟩
   unfold lG at hgr;rw[decide_eq_false hgr];rfl
end
def Jx(r:List Int):List (Int×Int):=r.tail.map fun y=>(r.headD 0,y)
def AN(n:Int)(xs:List Int):List (Int×Int):=((bT n xs).map Jx).flatten
end Sw
namespace L2
open PySem PySem.Spec PyProof.Rows PySem.SeqAt
inductive mZ(pr:Params):List DictEntry->List (Str×Str)->Prop
 |nil:mZ pr [] []
 |cons {x y:Str} {t u:Tok} {es:List DictEntry} {ps:List (Str×Str)}:mZ pr es ps->mZ pr ({hash:=PyData.keyHash pr x,key:= .str x t,val:= .str y u}::es) ((x,y)::ps)
structure AV(K:W.Frag)(pr:Params)(a:MY)(ps:List (Str×Str)):Prop where
 sys:(a==sysModules)=false
 nd:(ps.map (·.1)).Nodup
 ex:∃(es:List DictEntry)(ep:Nat),K.lookup a=some {cls:= .type "dict",data:= .dict es.toArray ep}/\mZ pr es ps
def DD(ps:List (Str×Str)):List (Key×V):=ps.map fun p=>(Sum.inr p.1,V.str p.2)
section
variable{X:Cx}{K:W.Frag}
theorem mZ.go {pr:Params}{P:M0}{w:M3}(hp:w.params=pr):∀{es:List DictEntry}{ps:List (Str×Str)},mZ pr es ps->∃vs:List (Key×MX),KV (DD ps) vs/\(∀e∈es,∃k,(aW P w).is k e.key=true/\e.hash=(aW P w).hash k)/\Pairs (aW P w) es vs/\vs.map (·.1)=ps.map fun p=>Sum.inr p.1
 |_,_,.nil=>⟨[],.nil,by simp,.nil,rfl⟩
 |_,_,.cons (x:=x) (y:=y) (t:=t) (u:=u) r=>by
  obtain⟨vs,h1,h2,h3,h4⟩:=mZ.go (P:=P) hp r;have hi:(aW P w).is (Sum.inr x) (MX.str x t)=true:=by
   show MX.isStrOf x (MX.str x t)=true;simp[MX.isStrOf]
  refine⟨(Sum.inr x,.str y u)::vs,?_,?_,.cons hi rfl h3,by rw[MA,h4];rfl⟩
  .exact Paired.cons ⟨rfl,⟨u,rfl⟩⟩ h1
  .intro e he
   rcases List.mem_cons.mp he with rfl|he
   .refine⟨Sum.inr x,hi,?_⟩
    subst hp;rfl
   .exact h2 e he
theorem AV.dict {pins:List (MY×Obj)}{σ:St}{H:Hp}{s:MZ}{a:MY}{ps:List (Str×Str)}(k:AV X.K X.w.params a ps)(I:Inv X pins σ H s):∃vs:List (Key×MX),KV (DD ps) vs/\s.heap.DictOf (aW X.prog X.w) a vs:=by
 obtain⟨es,ep,hl,ht⟩:=k.ex;obtain⟨vs,h1,h2,h3,h4⟩:=mZ.go (P:=X.prog) (w:=X.w) rfl ht;refine⟨vs,h1,_,es.toArray,ep,I.jr a _ hl,⟨rfl,rfl,rfl⟩,rfl,fun e he=>h2 e (by simpa using he),by simpa using h3,?_⟩;rw[h4];have:=k.nd;rw[show(ps.map fun p=>(Sum.inr p.1:Key))=(ps.map (·.1)).map Sum.inr by rw[MD];rfl];exact this.map _ fun x y h e=>h (Sum.inr.inj e)
theorem DV(ps:List (Str×Str))(k:Str):(cj (DD ps) (Sum.inr k:Key)).isSome=decide (k∈ps.map (·.1)):=by
 unfold DD cj
 induction ps with
 |nil=>rfl
 |cons p t ih=>
  rw[MA,List.find?_cons];by_cases h:p.1=k
  .have:decide ((Sum.inr p.1:Key)=Sum.inr k)=true:=decide_eq_true (by rw[h])
   simp only[this];simp[h]
  .have:decide ((Sum.inr p.1:Key)=Sum.inr k)=false:=decide_eq_false fun z=>h (Sum.inr.inj z)
   simp only[this];rw[ih,MA,Bool.eq_iff_iff,decide_eq_true_eq,decide_eq_true_eq,MC];exact⟨.inr,fun z=>z.resolve_left fun z=>h z.symm⟩
def DY(a:MY)(ps:List (Str×Str))(ty td:TE):TE:=fun σ H Q=>ty σ H fun y H1=>td σ H1 fun x H2=>∃k,x= .ref a/\y= .str k/\Q (.bl (!decide (k∈ps.map (·.1)))) H2
theorem zQ{i o:Expr}{ty td:TE}{a:MY}{ps:List (Str×Str)}(kt:AV X.K X.w.params a ps)(hi:PE X i ty)(ho:PE X o td):PC X .NotIn i o (DY a ps ty td):=by
 intro pins s σ H Q I h;refine aY (hi pins s σ H _ I h) fun iv s1 ⟨y,H1,I1,ry,q1⟩=>aY (ho pins s1 σ H1 _ I1 q1) fun u s2 ⟨x,H2,I2,rx,k,ex,ey,q2⟩=>?_;subst ex;subst ey;obtain rfl:u=MX.ref a:=rx;obtain⟨vs,rel,dd⟩:=kt.dict I2;refine wpAny_notIn_of (iC (k:=Sum.inr k) ry) kt.sys dd.mapOf ?_;rw[←(rel.val (Sum.inr k)).dH,DV];exact⟨.bl _,H2,I2.tok _,rfl,q2⟩
end
section
variable{X:Cx}{K:W.Frag}
def FL(f:Str->Bool):V->List V->Hp->VK->Prop:=fun x vs H Q=>∃z,x= .str z/\vs=[]/\Q (.bl (f z)) H
theorem wV:Aw X "str.isascii" (FL Txt.isascii):=by
 intro pins s σ H x vs v us Q I rx rv h;obtain⟨z,rfl,rfl,q⟩:=h;obtain⟨t,rfl⟩:=rx;cases rv;exact SC.isascii ⟨.bl _,H,I,rfl,q⟩
theorem vN:Aw X "str.isdigit" (FL Txt.isdigit):=by
 intro pins s σ H x vs v us Q I rx rv h;obtain⟨z,rfl,rfl,q⟩:=h;obtain⟨t,rfl⟩:=rx;cases rv;exact SC.isdigit ⟨.bl _,H,I,rfl,q⟩
def DF:V->List V->Hp->VK->Prop:=fun x vs H Q=>∃z y,x= .str z/\vs=[.str y]/\Q (.bl (Txt.startswith z y)) H
theorem z5:Aw X "str.startswith" DF:=by
 intro pins s σ H x vs v us Q I rx rv h;obtain⟨z,y,rfl,rfl,q⟩:=h;obtain⟨t,rfl⟩:=rx;obtain⟨u,rfl,t',rfl⟩:=rv.one;exact SC.startswith ⟨.bl _,H,I,rfl,q⟩
theorem qU:∀{ts:List Str}{us:List MX},Vals (ts.map V.str) us->∃l:List (Str×Tok),us=strValues l/\l.map (·.1)=ts
 |[],_,.nil=>⟨[],rfl,rfl⟩
 |x::r,_,.cons h t=>by
  obtain⟨tk,rfl⟩:=h;obtain⟨l,e1,e2⟩:=qU t;exact⟨(x,tk)::l,by rw[e1];rfl,by rw[MA,e2]⟩
theorem qx:∀(l:List (Str×Tok)),Vals ((l.map (·.1)).map V.str) (strValues l)
 |[]=> .nil
 |(x,t)::l=> .cons ⟨t,rfl⟩ (qx l)
def rJoin(K:W.Frag):V->List V->Hp->VK->Prop:=fun x vs H Q=>∃(z:Str)(p:MY)(ts:List Str),x= .str z/\vs=[.ref p]/\aJ K H p (ts.map V.str)/\JoinOk z ts=true/\Q (.str (Str.join z ts)) H
theorem ic(hK:X.K=K):Aw X "str.join" (rJoin K):=by
 subst hK;intro pins s σ H x vs v us Q I rx rv h;obtain⟨z,p,ts,rfl,rfl,hp,hj,q⟩:=h;obtain⟨t,rfl⟩:=rx;obtain⟨u,rfl,ru⟩:=rv.one;cases ru;obtain⟨its,r,pl,_⟩:=I.list hp;obtain⟨l,rfl,e⟩:=qU r;refine SC.join pl.isList e hj fun t' k=>⟨.str _,H,I.tok _,⟨t',rfl⟩,?_⟩;rw[show Txt.join z ts=Str.join z ts from StrLaws.glued_eq_join z ts];exact q
theorem zM(x y:Str):(Ni.Str.partsBetween x (Ni.Str.occurrences x y 0 x.length (x.length+1)) y.length).length<=x.length+2:=by
 have h:=StrLaws.occ_length_le x y 0 x.length (x.length+1);unfold Ni.Str.partsBetween;rw[Mu,List.length_zip,Mz,Mu,Mw,List.length_singleton];lia
def HN:V->List V->Hp->VK->Prop:=fun x vs H Q=>∃(z y:Str),x= .str z/\vs=[.str y]/\(y.length==0)=false/\z.length<=1000000/\∀l,H l=none->Q (.ref l) (upd H l (.lst ((Txt.split z y).map V.str)))
theorem oP:Aw X "str.split" HN:=by
 intro pins s σ H x vs v us Q I rx rv h;obtain⟨z,y,rfl,rfl,hy,hz,q⟩:=h;obtain⟨t,rfl⟩:=rx;obtain⟨u,rfl,t',rfl⟩:=rv.one;have big:(10000000:Nat)<=M5:=by decide
 have one:1<=M5:=by decide
 have key:∀(l:List (Str×Tok))(tk:Nat),l.map (·.1)=Txt.split z y->l.length<=M5->EP X pins σ Q (.ref s.heap.objs.size) {s with toks:=tk,heap:=s.heap.push {cls:= .type "list",data:= .seq (strValues l).toArray}}:=fun l tk e hl=>by
  have v:=qx l;rw[e]at v;have vl:=v.length;refine⟨.ref s.heap.objs.size,_,I.laid (o:= .lst ((Txt.split z y).map V.str)) (fun b o e=>Nc.get?_push_of_some _ e) (MP _) ⟨?_,strValues l,0,v,Nc.get?_push_size _ rfl⟩,rfl,q _ (I.aX.fresh (MP _))⟩;rw[vl];unfold strValues;rw[Mu];exact hl
 cases h1:(decide (z.length<y.length)||decide (Ni.Str.strKind z<Ni.Str.strKind y))with
 |true=>
  refine call_meets F.slot_str_split (typeIs_str _ _ _) F.entry_str_split (F.args_str_split_2 _ _) (meets_str_split_cannot_occur z y t t' h1) ?_;exact key [(z,t)] s.toks (by unfold Txt.split;rw[if_pos h1];rfl) one
 |false=>
  cases hf:(Ni.Str.occurrences z y 0 z.length (z.length+1)).isEmpty with
  |true=>
   refine call_meets F.slot_str_split (typeIs_str _ _ _) F.entry_str_split (F.args_str_split_2 _ _) (meets_str_split_not_found z y t t' h1 hy hf) ?_;exact key [(z,t)] s.toks (by unfold Txt.split;rw[if_neg (by rw[h1];exact MU),if_pos hf];rfl) one
  |false=>
   have wb:=zM z y;refine call_meets F.slot_str_split (typeIs_str _ _ _) F.entry_str_split (F.args_str_split_2 _ _) (meets_str_split_sep z y t t' h1 hy hf (by lia) (by lia)) ?_;have k:=key (numbered s.toks (Ni.Str.partsBetween z (Ni.Str.occurrences z y 0 z.length (z.length+1)) y.length)) (s.toks+(Ni.Str.partsBetween z (Ni.Str.occurrences z y 0 z.length (z.length+1)) y.length).length)
    ((numbered_texts _ _).trans (by unfold Txt.split;rw[if_neg (by rw[h1];exact MU),if_neg (by rw[hf];exact MU)])) (by
     have:=congrArg List.length (numbered_texts s.toks (Ni.Str.partsBetween z (Ni.Str.occurrences z y 0 z.length (z.length+1)) y.length));rw[Mu]at this;lia)
   rw[←strsFrom_eq]at k;exact k
def Gf:List V->Hp->VK->Prop:=fun xs H Q=>∃z n,xs=[.str z]/\PySem.intText? z=some n/\z.length<=640/\Q (.int n) H
theorem pK:bY X (.type "int") Gf:=by
 intro pins s σ H xs us Q I r h;obtain⟨z,n,rfl,hn,hl,q⟩:=h;obtain⟨u,rfl,t,rfl⟩:=vals1 r;exact W.KIN.call_text hn hl ⟨.int n,H,I.tok _,⟨_,rfl⟩,q⟩
end
theorem xc{K:W.Frag}{ix:List (Option Nat)}{g:TG}{te:TE}{σ:St}{Q:VK}{H:Hp}{a:MY}{xs:List V}(Pv:Nat->List V->St->Hp->Prop)(hn:xs.length<=1000000)(h0:Pv 0 [] (dJ ix σ) H)
  (hl:∀i ys σ H,i<=xs.length->Pv i ys σ H->aJ K H a xs) (hlen:∀i ys σ H,Pv i ys σ H->ys.length<=i)
  (hs:∀i ys σ H x(R:St->List V->Hp->Prop),xs[i]?=some x->Pv i ys σ H->(∀σ2 ys2 H5,Pv (i+1) ys2 σ2 H5->R σ2 ys2 H5)->g x σ H fun σ2 H3=>te σ2 H3 fun v H5=>R σ2 (ys++[v]) H5)
  (hd:∀ys σ' H' p,Pv xs.length ys σ' H'->H' p=none->Q (.ref p) (upd H' p (.lst ys))):fz ix g dS te σ Q (Dd K a) H:=by
 refine fZ Pv hn h0 (fun i ys σ H hi p=>⟨xs,xs[i],hl i ys σ H (Nat.le_of_lt hi) p,by simp[hi]⟩) (fun ys σ H p=>⟨xs,hl _ ys σ H (MP _) p,MP _⟩) hlen (fun i ys σ H x H2 R hi p y r=>?_) hd;obtain⟨rfl,y⟩:=y;unfold dS;simp only[if_true];exact hs i ys σ _ x R (y xs (hl i ys σ _ (Nat.le_of_lt hi) p)) p r
open AutoSeq1 (wpAny_loadPart')
theorem sQ(l:MY)(items:Array MX)(n:Nat)(t:Tok)(dd:Option MY)(sl:Array (Option MX)):
  Meets (Ni.«enumerate.__new__» ⟨[.type "enumerate",.ref l],[(Mt "start",.int 1 t)]⟩) (fun _ R s=>s.heap.get? l=some {cls:= .type "list",dict:=dd,data:= .seq items n,slots:=sl}/\
   R (.ok (.ret (.ref (s.heap.push {cls:= .type "list_iterator",data:= .fields #[.ref l,.int 0 0]}).objs.size)))
    {s with heap:=(s.heap.push {cls:= .type "list_iterator",data:= .fields #[.ref l,.int 0 0]}).push {cls:= .type "enumerate",data:= .fields #[.none,.bool false,.ref s.heap.objs.size,rawInt 1,.none,.none]}}):=
 .of_wp fun prog w A R s h=>by
  obtain⟨hp,g,d,tk,os⟩:=s;obtain⟨hl,h⟩:=h;have hsub:=sub_enumerate;have hL:Nc.IsList (MZ.heap ⟨hp,g,d,tk,os⟩) l items:=⟨_,hl,rfl,n,rfl⟩
  wp_walk using wpAny_loadPart' hl
  refine wpAny_stack_any fun st=>M8 ?_
  split
  .rename_i c' _ _ _ _ _
   cases(c'==MX.type "enumerate")
   .wp_walk using wpAny_loadPart' hl,wpAny_pyIter_list hL
    exact⟨_,rfl,h⟩
   .wp_walk using wpAny_loadPart' hl,wpAny_pyIter_list hL
    exact⟨_,rfl,h⟩
  .wp_walk using wpAny_loadPart' hl,wpAny_pyIter_list hL
   exact⟨_,rfl,h⟩
section
variable{prog:M0}{w:M3}{A:M4}{E:MX->MZ->Prop}{s:MZ}
theorem vc{l:MY}{items:Array MX}{n:Nat}{t:Tok}{dd:Option MY}{sl:Array (Option MX)}{Q:MX->MZ->Prop}(hl:s.heap.get? l=some {cls:= .type "list",dict:=dd,data:= .seq items n,slots:=sl})
  (hQ:Q (.ref (s.heap.push {cls:= .type "list_iterator",data:= .fields #[.ref l,.int 0 0]}).objs.size)
    {s with heap:=(s.heap.push {cls:= .type "list_iterator",data:= .fields #[.ref l,.int 0 0]}).push {cls:= .type "enumerate",data:= .fields #[.none,.bool false,.ref s.heap.objs.size,rawInt 1,.none,.none]}}):
  Nf (model prog w) A (call (.type "enumerate") [.ref l] [(Mt "start",.int 1 t)]) Q E s:=by
 have ft:=F.called_enumerate;obtain⟨c,tl,hmro⟩:=ft.mro;have hmade:=ft.made;have hsub:=ft.sub;have hct:=lV (.ref l) (.int 1 t);refine wpAny_call (codeAny_of_tree ?_);show Nf _ _ (callAny (.type "enumerate") _) _ _ _;refine M8 ⟨Code.quiet_builtin _ (by decide+kernel),codeAny_builtin F.entry_type_call ?_⟩;rw[M4.under_plain (weight_type_call_type "enumerate" [.ref l] _) (units_type_call_type "enumerate" [.ref l] _)];have h1:=ft.notType;have h2:=ft.canCreate
 repeat(any_goals(first|assumption|wp_step))
 refine codeAny_mono (codeAny_call_builtin (R:=wants (fun obj s₁=>s₁.TypeIs obj "enumerate"/\Q obj s₁) E) ft.plain F.entry_enumerate_new (wpAny_of_eq (nv _ _) (sQ l items n t dd sl prog w A.in1 _ s ⟨hl,⟨_,Nc.get?_push_size _ rfl,rfl⟩,hQ⟩))) fun r s₁ hr=>?_
 cases r with
 |error e=>exact hr
 |ok fl=>
  cases fl with
  |ret obj=>
   obtain⟨hT,hq⟩:=hr;have hli:=ft.init.lookup;have hbi:=ft.init.bind obj
   repeat(any_goals(first|assumption|wp_step))
   refine codeAny_mono (codeAny_call_builtin (R:=wants (fun r s₂=>r= .none/\Q obj s₂) E) ft.init.plain F.entry_object_init (ft.init.check _ _ _ _ _ _ _ _ hT (rR _ _ _) (pT ft.init.lookup ft.made (by decide) prog w A.in1 _ s₁ ⟨hT,rfl,hq⟩))) fun r₂ s₂ hr₂=>?_
   cases r₂ with
   |error e=>exact hr₂
   |ok fl₂=>
    cases fl₂ with
    |ret r=>
     obtain⟨rfl,hq⟩:=hr₂
     repeat(any_goals(first|assumption|wp_step))
    |_=>exact hr₂.elim
  |_=>exact hr.elim
end
theorem m9{prog:M0}{w:M3}{A:M4}(hh:A.handled=none)(it t:MY)(hne:t≠it)(items:Array MX)(c:Nat):
  Draws prog w A it [it,t] (items.size+c) (fun j v=>∃i,j=i+c/\items[i]?=some v) (fun j h=>∃i,j=i+c/\h.IsListIter it t i/\h.IsList t items)where
 live:=fun j h ⟨i,_,⟨o,e,_⟩,_⟩=>⟨o,e⟩
 frame:=fun j h h' ⟨i,e,a,b⟩ k=>⟨i,e,a.at fun o q=>k it (by simp) o q,b.at fun o q=>k t (by simp) o q⟩
 item:=fun j s Q E hj ⟨i,e,a,b⟩ hQ=>by
  subst e;have hi:i<items.size:=by lia
  refine wpAny_nextOf_list_item a b (x:=items[i]) (by simp[hi]) fun h' a' sb=>?_;exact hQ _ h' s.toks ⟨i,rfl,by simp[hi]⟩ ⟨i+1,by lia,a',b.extBut sb.extBut hne⟩ sb
 done:=fun s Q E ⟨i,e,a,b⟩ hE=>by
  have e:i=items.size:=by lia
  subst e;exact wpAny_nextOf_list_end hh a b (by simp) hE
def zp(K:W.Frag)(c:Nat)(a:MY)(xs:List V):It:=
 ⟨fun i H=>i<xs.length/\aJ K H a xs,fun i H x H'=>∃t v,H t=none/\x= .ref t/\xs[i]?=some v/\H'=upd H t (.tup [.int ((i:Int)+c),v]),fun i H=>i=xs.length/\aJ K H a xs⟩
theorem vU{P:M0}{w:M3}{K:W.Frag}{elts:List Expr}{k:Nat}{pos:Pos}(c:Nat)(a e it:MY)(xs:List V)(hei:e≠it)(hae:a≠e)(hai:a≠it):
  Turn P w K (.Tuple elts k pos) (zp K c a xs) [e,it] e (fun i h=>(∃old,IsEnum h e it (((i+c:Nat):Int)) old)/\h.IsListIter it a i)where
 mem:=by simp
 obj:=fun i h st b hb=>by
  obtain⟨⟨old,he⟩,⟨o,e2,c',d⟩⟩:=st;rcases List.mem_cons.mp hb with z|z
  .subst z
   exact⟨_,he,fun v z=>by cases z⟩
  .have z:b=it:=by simpa using z
   subst z;exact⟨o,e2,fun v z=>by rw[d]at z;cases z⟩
 keep:=fun i h h' st kk=>⟨by obtain⟨⟨old,he⟩,_⟩:=st;exact⟨old,kk e (by simp) _ he⟩,st.2.at fun o q=>kk it (by simp) o q⟩
 item:=by
  intro X hP hw hK hc i pins s σ H E I hf st hg;subst hP hw hK;obtain⟨hi,hq⟩:=hg;obtain⟨its,rv,ht,hz⟩:=I.list hq;have hl:=rv.length;obtain⟨⟨old,he⟩,hit⟩:=st;have W:=WalksT.enumerateD (A:=X.A) (m9 (prog:=X.prog) (w:=X.w) (A:=X.A.in1) (show X.A.in1.handled=none from I.ok.hd hc) it a hai its.toArray c) e hei (by simp;exact⟨hei,hae.symm⟩) (by simp);refine W.item (i+c) s _ _ (by simp;lia) ⟨⟨old,he⟩,i,rfl,hit,ht.isList⟩ fun T vals h' tk hPt hsz hT hMid hk=>?_;obtain⟨t,x,⟨i',ei,hx⟩,rfl⟩:=hPt;have ei:i'=i:=by lia
  subst ei;obtain⟨v,hv,rvx⟩:∃v,xs[i']?=some v/\RelV v x:=by
   rw[Mx hi];obtain⟨u,hu,ru⟩:=rv.get (Mx hi);have:its[i']?=some x:=by simpa using hx
   rw[this]at hu;cases hu;exact⟨_,rfl,ru⟩
  refine⟨.ref T,rfl,W.go elts k pos (i'+c) T _ _ _ hMid fun h'' hSt hk''=>?_⟩;have hTe:=hMid.2.2.1;have hTi:=hMid.2.2.2;have I1:Inv X pins σ H {s with heap:=h'',toks:=tk}:=I.nP (fp:=[e,it]) (fun b o hb q=>hk'' b o hb (hk b o hb q)) hf;have fT:iK X pins H T:=I.sV hsz (I.aX.fresh hsz);have hT':IsTup h'' T #[.int ((i'+c:Nat):Int) t,x]:=by
   obtain⟨o,e1,e2,e3⟩:=hT;exact⟨o,hk'' T o (by simp;exact⟨hTe,hTi⟩) e1,e2,e3⟩
  obtain⟨⟨old',he'⟩,i2,ei2,hit2,_⟩:=hSt;have ei2:i2=i'+1:=by lia
  subst ei2;refine⟨.ref T,upd H T (.tup [.int ((i':Int)+c),v]),I1.xU fT ⟨(by show 2<=M5;decide),[.int ((i'+c:Nat):Int) t,x],.cons ⟨t,by simp⟩ (.cons rvx .nil),hT'⟩,rfl,⟨T,v,fT.1,rfl,hv,rfl⟩,⟨⟨old',by rw[show i'+1+c=i'+c+1 by lia];exact he'⟩,hit2⟩,fun b hb=>?_⟩;have hbT:b≠T:=by
   rcases List.mem_cons.mp hb with z|z
   .rw[z];exact hTe.symm
   .have z:b=it:=by simpa using z
    rw[z];exact hTi.symm
  rw[aq hbT];exact(hf b hb).1
 done:=by
  intro X hP hw hK hc i pins s σ H E I hf st hg;subst hP hw hK;obtain⟨hi,hq⟩:=hg;obtain⟨its,rv,ht,hz⟩:=I.list hq;have hl:=rv.length;obtain⟨⟨old,he⟩,hit⟩:=st;have W:=WalksT.enumerateD (A:=X.A) (m9 (prog:=X.prog) (w:=X.w) (A:=X.A.in1) (show X.A.in1.handled=none from I.ok.hd hc) it a hai its.toArray c) e hei (by simp;exact⟨hei,hae.symm⟩) (by simp);have en:i+c=its.toArray.size+c:=by simp;lia
  refine W.done s _ _ ⟨⟨old,by rw[←en];exact he⟩,i,by lia,hit,ht.isList⟩ fun h' tk hk=>⟨rfl,I.nP (fp:=[e,it]) (fun b o hb q=>hk b o hb q) hf⟩
 self:=fun A i s Q E st hQ=>by
  obtain⟨⟨old,he⟩,_⟩:=st;exact wpAny_pyIter_enum he hQ
def HG(K:W.Frag)(c:Nat)(ta:TA):TI:=fun σ H R=>ta σ H fun vs H1=>∃(a:MY)(xs:List V),vs=[.ref a]/\aJ K H1 a xs/\R (zp K c a xs) H1
theorem qi{X:Cx}{K:W.Frag}{e:Expr}{ta:TA}{p pos kpos cp:Pos}{j kk:Nat}{elts:List Expr}{tp:Pos}(hK:X.K=K)(hg:Gl X "enumerate")(hm:X.mg "enumerate" =none)(ha:PA X [e] ta)
  (hs:Na [e] X.env=[(false,eval e X.env)]:=by rfl):
  PI X (.Tuple elts kk tp) (.Call (.Name "enumerate" p) [e] [⟨some "start",.Constant (.int 1) j cp,kpos⟩] pos) (HG K 1 ta):=by
 subst hK;intro pins s σ H R I h;refine wpAny_Call_Name_kw (j8 I hg hm (by decide+kernel:bootBuiltins "enumerate" =some (.type "enumerate")) ?_ (by decide+kernel) (by decide+kernel));refine mq (by rw[hs];rfl) (by rfl) ?_;have hb:Nd pos (Na [e] X.env)=(false,eval e X.env)::[]:=by rw[hs];rfl
 have run:=ha pos pins s σ H _ I h;rw[hb]at run⊢;refine evalArgs_kwB (by rfl) (aY run fun us s1 ⟨vs,H1,I1,r1,a,xs,e1,hq,hR⟩=>?_);subst e1;obtain⟨u,rfl,ru⟩:=vals1 r1;cases ru;have kw:PK X [⟨some "start",.Constant (.int 1) j cp,kpos⟩] (dN (tC (.int 1)) iO):=EC ai Ip;refine aY (kw pos pins s1 σ H1 (fun vs H2=>vs=[.int 1]/\H2=H1) I1 ⟨rfl,rfl⟩) fun ws s2 ⟨zs,H2,I2,r2,e2,e3⟩=>?_;subst e2 e3;obtain⟨u,rfl,t,rfl⟩:=vals1 r2;obtain⟨its,rv,⟨o,n,ho,hc,hdd,hd⟩,hz⟩:=I2.list hq;obtain⟨cls,dd,data,sl⟩:=o;simp only at hc hd hdd;subst hc hd hdd;refine vc (items:=its.toArray) (n:=n) (dd:=none) (sl:=sl) ho ?_;generalize hh1:s2.heap.push {cls:= .type "list_iterator",data:= .fields #[.ref a,.int 0 0]}=g1;have z1:g1.objs.size=s2.heap.objs.size+1:=by rw[←hh1,Nc.size_push]
 have e0:IsEnum (g1.push {cls:= .type "enumerate",data:= .fields #[.none,.bool false,.ref s2.heap.objs.size,rawInt 1,.none,.none]}) g1.objs.size s2.heap.objs.size 1 .none:=Nc.get?_push_size _ rfl;have it0:g1.get? s2.heap.objs.size=some {cls:= .type "list_iterator",data:= .fields #[.ref a,.int 0 0]}:=by rw[←hh1];exact Nc.get?_push_size _ rfl
 have k0:∀b o,s2.heap.get? b=some o->(g1.push {cls:= .type "enumerate",data:= .fields #[.none,.bool false,.ref s2.heap.objs.size,rawInt 1,.none,.none]}).get? b=some o:=fun b o q=>Nc.get?_push_of_some _ (by rw[←hh1];exact Nc.get?_push_of_some _ q);have lta: @LT.lt Nat _ a s2.heap.objs.size:=Nc.lt_size ho;have n1:g1.objs.size≠s2.heap.objs.size:=by rw[z1];exact Nat.succ_ne_self _
 refine wpAny_pyIter_enum e0 ?_;refine⟨g1.objs.size,[g1.objs.size,s2.heap.objs.size],_,_,H2,rfl,I2.kept (t':=s2.toks) k0,vU 1 a g1.objs.size s2.heap.objs.size xs n1 (MR (by rw[z1];exact Nat.lt_succ_of_lt lta)) (MR lta),⟨⟨.none,e0⟩,⟨_,Nc.get?_push_of_some _ it0,rfl,rfl⟩⟩,fun b hb=>?_,hR⟩;rcases List.mem_cons.mp hb with z|z
 .rw[z];exact I2.sV (by rw[z1];exact Nat.le_succ _) (I2.aX.fresh (by rw[z1];exact Nat.le_succ _))
 .have z:b=s2.heap.objs.size:=by simpa using z
  rw[z];exact I2.sV (MP _) (I2.aX.fresh (MP _))
theorem Af{K:W.Frag}{c:Nat}{a:MY}{xs:List V}{g:TG}{tb:TS}{D:Ends}{σ:St}{H:Hp}(Pv:Nat->St->Hp->Prop)(h0:Pv 0 σ H)(hl:∀i σ H,i<=xs.length->Pv i σ H->aJ K H a xs)
  (hs:∀i σ H t v,xs[i]?=some v->Pv i σ H->H t=none->g (.ref t) σ (upd H t (.tup [.int ((i:Int)+c),v])) fun σ2 H2=>tb {D with nx:=Pv (i+1),ct:=Pv (i+1),bk:=D.nx} σ2 H2) (hd:∀σ H,Pv xs.length σ H->D.nx σ H):
  ∃W:Nat->Nat->St->Hp->Prop,(∃m,W 0 m σ H)/\∀i m σ H,W i m σ H->
   ((zp K c a xs).stop i H/\D.nx σ H)\/((zp K c a xs).go i H/\∃N:St->Hp->Prop,(∀σ' H',N σ' H'->∃m',m'<m/\W (i+1) m' σ' H')/\∀x H',(zp K c a xs).FU i H x H'->g x σ H' fun σ2 H2=>tb {D with nx:=N,ct:=N,bk:=D.nx} σ2 H2):=by
 refine⟨fun i m σ H=>m=xs.length-i/\i<=xs.length/\Pv i σ H,⟨xs.length,by simp,MT _,h0⟩,?_⟩;rintro i m σ H ⟨rfl,hi,p⟩;by_cases hlt:i<xs.length
 .refine .inr ⟨⟨hlt,hl i σ H hi p⟩,Pv (i+1),fun σ' H' p'=>⟨xs.length-(i+1),by lia,rfl,hlt,p'⟩,fun x H' y=>?_⟩
  obtain⟨t,v,ht,rfl,hv,rfl⟩:=y;exact hs i σ H t v hv p ht
 .have e:i=xs.length:=by lia
  subst e;exact .inl ⟨⟨rfl,hl _ σ H (MP _) p⟩,hd σ H p⟩
theorem GC{K:W.Frag}{c:Nat}{ix:List (Option Nat)}{g:TG}{te:TE}{σ:St}{Q:VK}{H:Hp}{a:MY}{xs:List V}(Pv:Nat->List V->St->Hp->Prop)(hn:xs.length<=1000000)(h0:Pv 0 [] (dJ ix σ) H)
  (hl:∀i ys σ H,i<=xs.length->Pv i ys σ H->aJ K H a xs) (hlen:∀i ys σ H,Pv i ys σ H->ys.length<=i)
  (hs:∀i ys σ H t v(R:St->List V->Hp->Prop),xs[i]?=some v->Pv i ys σ H->H t=none->(∀σ2 ys2 H5,Pv (i+1) ys2 σ2 H5->R σ2 ys2 H5)->g (.ref t) σ (upd H t (.tup [.int ((i:Int)+c),v])) fun σ2 H3=>te σ2 H3 fun v H5=>R σ2 (ys++[v]) H5)
  (hd:∀ys σ' H' p,Pv xs.length ys σ' H'->H' p=none->Q (.ref p) (upd H' p (.lst ys))):fz ix g dS te σ Q (zp K c a xs) H:=by
 refine fZ Pv hn h0 (fun i ys σ H hi p=>⟨hi,hl i ys σ H (Nat.le_of_lt hi) p⟩) (fun ys σ H p=>⟨rfl,hl _ ys σ H (MP _) p⟩) hlen (fun i ys σ H x H2 R hi p y r=>?_) hd;obtain⟨t,v,ht,rfl,hv,rfl⟩:=y;unfold dS;simp only[if_true];exact hs i ys σ H t v R hv p ht r
end L2
namespace Sw
open PySem L2
def qk(C:MY):Sp:=fun vs H Q E=>∃(l:MY)(ws:List V)(row:List (Int×Int)),vs=[.ref l]/\H l=some (.lst ws)/\dD H ws row/\row.length<=500/\(bp ((row.length:Int)+1) row=lG ((row.length:Int)+1)->∃(es:List Int)(f:Int->Int),iM es f row/\es.length=row.length/\∀(l':MY)(H':Hp),H l'=none->H' l'=some (.lst (es.map V.int))->ah H H'->Q (.ref l') H')/\(bp ((row.length:Int)+1) row≠lG ((row.length:Int)+1)->∀H',ah H H'->E (.ref C) none H')
structure JC(P:M0)(w:M3)(K:W.Frag)(mg:Str->Option MX)(base:Nc)(C:MY):Prop extends T1 mg K where
 i5:mg "enumerate" =none
 cS:eV P w K mg base "check_great" 4 ["row"] (nW C)
section
variable{P:M0}{w:M3}{K:W.Frag}{mg:Str->Option MX}{base:Nc}{C:MY}
theorem fO:aA ["row","far_of","place","a","b"] ["row"] (ar (top 87)):=⟨rfl,rfl,rfl,by decide+kernel,rfl,by decide+kernel,by decide+kernel⟩
theorem wm{f:MY}{fd:Nb}(F:dO K "tree_of" "tree_of" (top 87) f fd)(T:JC P w K mg base C):aR P w K mg base (i3 P w) 5 f fd ["row"] (qk C):=by
 refine F.Aa fO (fun vs H Q E h=>?_) (fun cdv A outer s H vs Q E hr h=>?_)
 .obtain⟨l,ws,row,rfl,_⟩:=h
  rfl
 .obtain⟨l,ws,row,rfl,hl,hx,h100,kQ,kE⟩:=h
  have hu:=kJ hr;refine⟨_,(ag (cZ (bG T.cS eT (hr.mono (by decide)) rfl (aa (pv 0) af)))
   (ag (aC (i:=1) fO.nd rfl (Or.inr rfl) (fY (bW ai ai gj) rfl rfl (by simp) (by decide)))
   (ag (iU Ja (ax t8 (ak qB rfl T.bE (by decide+kernel) (aa (pv 1) af)) (ak (aL (K:=K) rfl) rfl T.bE (by decide+kernel) (aa (pv 0) af)) (aG _)) (aj (fi Ja rfl (qi (K:=K) rfl rfl T.i5 (aa (pv 0) af)) (cx (K:=K) (n:=2) rfl rfl (aO (aw (i:=2) fO.nd rfl (Or.inl rfl)) (aO (cx (K:=K) (n:=2) rfl rfl (aO (aw (i:=3) fO.nd rfl (Or.inl rfl)) (aO (aw (i:=4) fO.nd rfl (Or.inl rfl)) cy))) cy))) (aj (a8 (PW.pt (mL (iS (o9 hu (pv 3) (pv 1))) (jx (iS (my hu (pv 4) (pv 1)))))) (aj (lq hu (pv 1) (pv 4) (pv 2) rfl)) (aj (a8 (PW.pt (mL (iS (o9 hu (pv 4) (pv 1))) (jx (iS (my hu (pv 3) (pv 1)))))) (aj (lq hu (pv 1) (pv 3) (pv 2) rfl)) aE)))))))
   (aj (ay (bw (N:=(["place","a","b","far_of"]:List Str)) (ix:=([none,none,none,some 1]:List (Option Nat))) (aT rfl rfl) rfl (qi (K:=K) rfl rfl T.i5 (aa (pv 0) af)) (fun _ _ _ _=>(cx (K:=K) (n:=2) rfl rfl (aO (aw (i:=0) (show List.Nodup (["place","a","b","far_of"]:List Str)from by decide+kernel) rfl (Or.inl rfl)) (aO (cx (K:=K) (n:=2) rfl rfl (aO (aw (i:=1) (show List.Nodup (["place","a","b","far_of"]:List Str)from by decide+kernel) rfl (Or.inl rfl)) (aO (aw (i:=2) (show List.Nodup (["place","a","b","far_of"]:List Str)from by decide+kernel) rfl (Or.inl rfl)) cy))) cy)))) (fun _ _ _ _=>bc) (fun _ _ _ _=>(kO (ax cR (jt hu (pv 3) (pv 2) (fun _ _=>rfl)) (pv 0) (aG _)) (jt hu (pv 3) (pv 1) (fun _ _=>rfl)) (jt hu (pv 3) (pv 2) (fun _ _=>rfl)))))))))),?_⟩
  have big:(10000000:Nat)<=M5:=by decide
  have wl:=hx.length;refine⟨_,rfl,l,ws,row,rfl,hl,hx,h100,fun hgr0 H1 s1=>?_,kE⟩;obtain⟨es,f,ht,el0,k⟩:=kQ hgr0;have rl:=ht.len;have hgr:bp ((es.length:Int)+1) row=lG ((es.length:Int)+1):=by rw[el0];exact hgr0
  have hl1:=s1 _ _ hl;have x1:=hx.keep (ah.bH s1);have n1:(1:Int)<=(es.length:Int)+1:=by lia
  refine fun d fd0=>?_;refine⟨ae,[(Sum.inl 1,.int 0)],rfl,by show 1<=15;decide,?_⟩;have fdH:H d=none:=s1.free fd0;have s2:ah H (upd (upd H1 d (.dK [])) d (.dK (cb [] [(Sum.inl 1,.int 0)]))):=ah.put (ah.put s1 fdH) fdH;have h2:upd (upd H1 d (.dK [])) d (.dK (cb [] [(Sum.inl 1,.int 0)])) d=some (.dK (lF [(1,0)])):=ae;generalize upd (upd H1 d (.dK [])) d (.dK (cb [] [(Sum.inl 1,.int 0)]))=H2 at s2 h2⊢;refine⟨fun m σ H'=>∃L,m=es.length+1-L.length/\(∃v2 v3 v4,σ=[some (.ref l),some (.ref d),v2,v3,v4])/\ah H H'/\H' d=some (.dK (lF L))/\cW row L,⟨_,[(1,0)],rfl,⟨_,_,_,rfl⟩,s2,h2,.base⟩,?_⟩;rintro m σ H3 ⟨L,rfl,⟨v2,v3,v4,rfl⟩,s3,h3,g3⟩;have wb:=g3.wb n1 ht.good;have hl3:=s3 _ _ hl;refine⟨_,rfl,d,_,rfl,h3,_,rfl,l,_,rfl,.inl (aJ.of hl3),_,_,rfl,rfl,_,rfl,cN (fun c=>?_) (fun c=>?_)⟩
  .have c:L.length<=es.length:=by
    have:=of_decide_eq_true c;rw[hZ]at this;lia
   refine⟨fun σ H'=>∃L',L.length<L'.length/\(∃v2 v3 v4,σ=[some (.ref l),some (.ref d),v2,v3,v4])/\ah H H'/\H' d=some (.dK (lF L'))/\cW row L',fun σ H'=>?_,?_⟩
   .rintro⟨L',lt,hσ,s4,h4,g4⟩
    have:=g4.wb n1 ht.good;exact⟨es.length+1-L'.length,by lia,L',rfl,hσ,s4,h4,g4⟩
   refine⟨_,rfl,l,ws,rfl,aJ.of hl3,Af (K:=K) (a:=l) (xs:=ws) (fun i σ H'=>∃L',(∃v2 v3 v4,σ=[some (.ref l),some (.ref d),v2,v3,v4])/\ah H H'/\H' d=some (.dK (lF L'))/\cW row L'/\L.length<=L'.length/\(L'.length=L.length->L'=L/\∀(j:Nat)(e:Int×Int),j<i->row[j]?=some e->(e.1∈L.map (·.1)↔e.2∈L.map (·.1)))) ⟨L,⟨_,_,_,rfl⟩,s3,h3,g3,MP _,fun _=>⟨rfl,fun j e hj=>absurd hj (Nat.not_lt_zero _)⟩⟩ (fun i σ H' _ q=>by obtain⟨_,_,s,_⟩:=q;exact aJ.of (s _ _ hl)) ?_ ?_⟩
   .rintro i σ H4 t v hv ⟨L',⟨w2,w3,w4,rfl⟩,s4,h4,g4,le4,cl4⟩ ftt
    obtain⟨t',a,b,rfl,ht',hr'⟩:=hx.get hv;have s5:ah H4 (upd H4 t (.tup [.int ((i:Int)+1),.ref t'])):=ah.new ftt;have hh:upd H4 t (.tup [.int ((i:Int)+1),.ref t']) t=some (.tup [.int ((i:Int)+1),.ref t']):=ae;have ht4:=s5 _ _ (s4 _ _ ht');have h5:=s5 _ _ h4;have a5:=s4.trans s5;generalize upd H4 t (.tup [.int ((i:Int)+1),.ref t'])=H5 at s5 hh ht4 h5 a5⊢;refine⟨t,_,rfl,dI.of hh,rfl,_,_,rfl,_,_,rfl,t',_,rfl,dI.of ht4,rfl,_,_,rfl,_,_,rfl,rfl,rfl,?_⟩;have nd4:=g4.keys;have g4l:=g4.wb n1 ht.good;have put:∀(x y:Int),x∉L'.map (·.1)->y∈L'.map (·.1)->((a,b)=(x,y)\/(a,b)=(y,x))->∃L'',H5 d=some (.dK (lF L'))/\putK (lF L') (Sum.inl x:Key) (V.int ((i:Int)+1))=lF L''/\cW row L''/\L'.length<L''.length:=fun x y hx' hy he=>by
     obtain⟨⟨y',j⟩,hp,e⟩:=List.mem_map.mp hy;dsimp only at e;subst e;exact⟨L'++[(x,(i:Int)+1)],h5,yH hx',.step g4 hp hr' he hx',by rw[Mw];exact Nat.lt_succ_self _⟩
    have keep:(a∈L'.map (·.1)↔b∈L'.map (·.1))->L'.length=L.length->L'=L/\∀(j:Nat)(e:Int×Int),j<i+1->row[j]?=some e->(e.1∈L.map (·.1)↔e.2∈L.map (·.1)):=fun hab le=>by
     obtain⟨e1,e2⟩:=cl4 le;subst e1;refine⟨rfl,fun j e hj hje=>?_⟩;by_cases hji:j=i
     .subst hji
      rw[hr']at hje;injection hje with hje
      subst hje;exact hab
     .exact e2 j e (by lia) hje
    refine⟨_,rfl,_,rfl,d,_,rfl,dg.k (k:=Sum.inl a) h5,_,rfl,?_⟩;rw[eP nd4 a];by_cases ka:a∈L'.map (·.1)
    .refine lJ (decide_eq_true ka) ⟨_,rfl,_,rfl,d,_,rfl,dg.k (k:=Sum.inl b) h5,_,rfl,?_⟩
     rw[eP nd4 b];by_cases kb:b∈L'.map (·.1)
     .refine gG (by rw[decide_eq_true kb];rfl) ⟨_,rfl,_,rfl,d,_,rfl,dg.k (k:=Sum.inl b) h5,_,rfl,?_⟩
      rw[eP nd4 b];refine lJ (decide_eq_true kb) ⟨_,rfl,_,rfl,d,_,rfl,dg.k (k:=Sum.inl a) h5,_,rfl,?_⟩;rw[eP nd4 a];refine gG (by rw[decide_eq_true ka];rfl) ?_;exact⟨L',⟨_,_,_,rfl⟩,a5,h5,g4,le4,keep ⟨fun _=>kb,fun _=>ka⟩⟩
     .refine lJ (by rw[decide_eq_false kb];rfl) ?_
      obtain⟨L'',e1,e2,e3,e4⟩:=put b a kb ka (.inr rfl);refine⟨_,rfl,_,rfl,_,rfl,d,_,rfl,rM.k (k:=Sum.inl b) e1 (by rw[hZ];lia),?_⟩;rw[e2];exact⟨L'',⟨_,_,_,rfl⟩,ah.put a5 fdH,ae,e3,by lia,fun z=>by lia⟩
    .refine gG (decide_eq_false ka) ⟨_,rfl,_,rfl,d,_,rfl,dg.k (k:=Sum.inl b) h5,_,rfl,?_⟩
     rw[eP nd4 b];by_cases kb:b∈L'.map (·.1)
     .refine lJ (decide_eq_true kb) ⟨_,rfl,_,rfl,d,_,rfl,dg.k (k:=Sum.inl a) h5,_,rfl,?_⟩
      rw[eP nd4 a];refine lJ (by rw[decide_eq_false ka];rfl) ?_;obtain⟨L'',e1,e2,e3,e4⟩:=put a b ka kb (.inl rfl);refine⟨_,rfl,_,rfl,_,rfl,d,_,rfl,rM.k (k:=Sum.inl a) e1 (by rw[hZ];lia),?_⟩;rw[e2];exact⟨L'',⟨_,_,_,rfl⟩,ah.put a5 fdH,ae,e3,by lia,fun z=>by lia⟩
     .refine gG (decide_eq_false kb) ?_
      exact⟨L',⟨_,_,_,rfl⟩,a5,h5,g4,le4,keep ⟨fun z=>absurd z ka,fun z=>absurd z kb⟩⟩
   .rintro σ H4 ⟨L',hσ,s4,h4,g4,le4,cl4⟩
    refine⟨L',?_,hσ,s4,h4,g4⟩;rcases Nat.lt_or_ge L.length L'.length with z|z
    .exact z
    .obtain⟨e1,e2⟩:=cl4 (by lia)
     have:=l7 g3 n1 hgr fun j e hje=>e2 j e (by have:=(List.getElem?_eq_some_iff.mp hje).1;lia) hje;lia
  .have c:es.length+1<=L.length:=by
    have c:ws.length<(lF L).length:=by simpa using c
    rw[hZ]at c;lia
   have nd3:=g3.keys;refine⟨_,rfl,l,ws,rfl,aJ.of hl3,GC (K:=K) (a:=l) (xs:=ws) (fun i ys σ' H'=>ys=(es.take i).map V.int/\(∃v0 v1 v2,σ'=[v0,v1,v2,some (.ref d)])/\ah H3 H') (by lia) ⟨rfl,⟨none,none,none,rfl⟩,ah.refl _⟩ (fun i ys σ' H' _ q=>aJ.of (q.2.2 _ _ hl3)) (fun i ys σ' H' q=>by rw[q.1,Mu,MB];lia) ?_ ?_⟩
   .rintro i ys σ' H4 t v R hv ⟨rfl,⟨w0,w1,w2,rfl⟩,s4⟩ ftt done
    obtain⟨t',a,b,rfl,ht',hr'⟩:=hx.get hv;have hi:i<es.length:=by have:=(List.getElem?_eq_some_iff.mp hr').1;lia
    have s5:ah H4 (upd H4 t (.tup [.int ((i:Int)+1),.ref t'])):=ah.new ftt;have hh:upd H4 t (.tup [.int ((i:Int)+1),.ref t']) t=some (.tup [.int ((i:Int)+1),.ref t']):=ae;have ht4:=s5 _ _ (s4 _ _ (s3 _ _ ht'));have h5:=s5 _ _ (s4 _ _ h3);generalize upd H4 t (.tup [.int ((i:Int)+1),.ref t'])=H5 at s5 hh ht4 h5⊢;refine⟨t,_,rfl,dI.of hh,rfl,_,_,rfl,_,_,rfl,t',_,rfl,dI.of ht4,rfl,_,_,rfl,_,_,rfl,rfl,rfl,?_⟩;have ei:=yk ht.tree hi;have en:=CC ht.tree hi;have va:=ht.place g3 c (q:=el es i) ei.1 ei.2;have vb:=ht.place g3 c (q:=(i:Int)+1) (by lia) (by lia);rw[show(i:Int)+1+1=(i:Int)+2 by lia]at vb;have ea:=ht.at hi;rw[hr']at ea;injection ea with ea
    unfold Aq at ea;injection ea with ea1 ea2
    dsimp only at ea1 ea2;have fin:(es.take i).map V.int++[V.int (el es i)]=(es.take (i+1)).map V.int:=by
     have:es[i]?=some (el es i):=by unfold el;rw[ME,Mx hi];rfl
     rw[bh V.int this]
    have gA:∀{x q:Int},(x,q)∈L->dg H5 d (.int x) (some (.int q)):=fun{x q} h=>by
     have:=dg.k (k:=Sum.inl x) h5;rw[wF nd3 h]at this;exact this
    rcases Int.le_total (f (el es i+1)) (f ((i:Int)+2))with o|o
    .rw[Int.min_eq_left o]at ea1
     rw[Int.max_eq_right o]at ea2;subst ea1 ea2;refine⟨_,rfl,_,rfl,d,_,rfl,gA vb,_,rfl,rfl,_,rfl,lJ (decide_eq_true rfl) ?_⟩;exact⟨_,rfl,_,rfl,d,_,rfl,gA va,done _ _ _ ⟨fin,⟨_,_,_,rfl⟩,s4.trans s5⟩⟩
    .rw[Int.min_eq_right o]at ea1
     rw[Int.max_eq_left o]at ea2;subst ea1 ea2;refine⟨_,rfl,_,rfl,d,_,rfl,gA va,_,rfl,rfl,_,rfl,gG (decide_eq_false (by intro z;injection z with z;exact en z)) ?_⟩;exact⟨_,rfl,_,rfl,d,_,rfl,gA va,done _ _ _ ⟨fin,⟨_,_,_,rfl⟩,s4.trans s5⟩⟩
   .rintro ys σ' H4 q ⟨rfl,_,s4⟩ fq
    rw[MI (by lia)];exact k q _ ((s3.trans s4).free fq) ae (s3.trans (s4.trans (ah.new fq)))
end
def Jb(n:Int)(rs:List (List Int)):Prop:=(∀r∈rs,r≠[]/\∀x∈r,1<=x/\x<=n)/\rs.flatten.Nodup
instance{n:Int}{rs:List (List Int)}:Decidable (Jb n rs):=by unfold Jb;infer_instance
section
variable{n:Int}{rs:List (List Int)}{r:List Int}{i j:Nat}{z:Int}
theorem take_snoc{α:Type}{l:List α}{i:Nat}{x:α}(h:l[i]?=some x):l.take (i+1)=l.take i++[x]:=by rw[MO,h];rfl
end
end Sw
namespace L2
open PySem PySem.Spec PyProof.Rows PySem.SeqAt
open PySem.AutoSeq1 (wpAny_loadPart')
open PySem.MeetsSeq PySem.MeetsSeq2 PySem.MeetsSeq3
theorem CH(l b:MY)(xs ys:Array MX)(n m:Nat)(a c:Int)(t u:Tok)(h1:xs[0]?=some (.int a t))(h2:ys[0]?=some (.int c u))(hne:a≠c):
  Meets (Ni.«list.__eq__.loop» ⟨[.ref l,.ref b,rawInt 0,rawInt 0],[]⟩)
   (fun _ R s=>s.heap.get? l=some {cls:= .type "list",data:= .seq xs n}/\s.heap.get? b=some {cls:= .type "list",data:= .seq ys m}/\R (.ok (.ret (.bool (decide (a<c))))) s):=by
 intro prog w A R s h;obtain⟨hp,g,d,tk,os⟩:=s;obtain⟨hl,hb,h⟩:=h
 wp_walk using wpAny_loadPart' hl,wpAny_loadPart' hb
 have e1:xs[Int.toNat 0]?=some (.int a t):=h1;have e2:ys[Int.toNat 0]?=some (.int c u):=h2;rw[e1,e2];have q:=EqAt.int_int (A:=A.in1) (s:=⟨hp,g,d,tk,os⟩) a t c u;rw[show(a==c)=false from by simpa using hne]at q;refine M7 (q prog w _ _ ?_);have lt:=HT.BW A.in1 ⟨hp,g,d,tk,os⟩ a t c u prog w
 wp_walk using wpAny_loadPart' hl,wpAny_loadPart' hb
 rw[e1,e2]
 wp_walk using lt
 exact h
theorem zY(l b:MY)(xs ys:Array MX)(n m:Nat)(a c:Int)(t u:Tok)(h1:xs[0]?=some (.int a t))(h2:ys[0]?=some (.int c u))(hne:a≠c):
  Meets (Ni.«list.__lt__» ⟨[.ref l,.ref b],[]⟩)
   (fun _ R s=>s.heap.get? l=some {cls:= .type "list",data:= .seq xs n}/\s.heap.get? b=some {cls:= .type "list",data:= .seq ys m}/\R (.ok (.ret (.bool (decide (a<c))))) s):=by
 intro prog w A R s h;obtain⟨hp,g,d,tk,os⟩:=s;obtain⟨hl,hb,h⟩:=h;have sub:isSubtype (.type "list") (.type "list")=pure true:=by rw[isSubtype_type];kernel_rfl
 wp_walk using wpAny_loadPart' hl,wpAny_loadPart' hb
 refine⟨plainId_quiet plain_eq_loop _,codeAny_builtin entry_eq_loop ?_⟩;rw[M4.under_plainId plain_eq_loop _];exact CH l b xs ys n m a c t u h1 h2 hne prog w A R _ ⟨hl,hb,h⟩
def uK(h:Nc)(v:MX)(a:Int):Prop:=∃(l:MY)(xs:Array MX)(n:Nat)(t:Tok),v= .ref l/\h.get? l=some {cls:= .type "list",data:= .seq xs n}/\xs[0]?=some (.int a t)
structure kg(h:Nc)(vs:List MX)(hs:List Int):Prop where
 len:hs.length=vs.length
 up:∀(i:Nat)(a c:Int),hs[i]?=some a->hs[i+1]?=some c->a<c
 head:∀(i:Nat)(v:MX)(a:Int),vs[i]?=some v->hs[i]?=some a->uK h v a
theorem uK.keep {h h':Nc}{v:MX}{a:Int}(x:uK h v a)(k:∀b o,h.get? b=some o->h'.get? b=some o):uK h' v a:=by
 obtain⟨l,xs,n,t,e1,e2,e3⟩:=x;exact⟨l,xs,n,t,e1,k _ _ e2,e3⟩
theorem kg.keep {h h':Nc}{vs:List MX}{hs:List Int}(x:kg h vs hs)(k:∀b o,h.get? b=some o->h'.get? b=some o):kg h' vs hs:=⟨x.len,x.up,fun i v a e1 e2=>(x.head i v a e1 e2).keep k⟩
section
variable{prog:M0}{w:M3}{A:M4}{E:MX->MZ->Prop}{s:MZ}
theorem u7{x y:MX}{a c:Int}{Q:Bool->MZ->Prop}(hx:uK s.heap x a)(hy:uK s.heap y c)(hne:a≠c)(hu:A.units<cLine)(q:Q (decide (a<c)) s):Nf (model prog w) A (oneLt' true x y) Q E s:=by
 obtain⟨l,xs,n,t,rfl,e1,f1⟩:=hx;obtain⟨b,ys,m,u,rfl,e2,f2⟩:=hy;rw[oneLt'_eq,if_pos rfl];refine M7 (wpAny_cRoomFor hu ?_);refine M7 (wpAny_callSpecialIfBound?_slot ⟨_,e1,rfl⟩ F.slot_list_lt (call_meets F.slot_list_lt ⟨_,e1,rfl⟩ F.entry_list_lt (F.args_list_lt_2 _ _) (zY l b xs ys n m a c t u f1 f2 hne) ⟨e1,e2,?_⟩));exact wpAny_truthy_bool q
theorem wU{st:SortSt}{i j:Nat}{x y p r:MX}{a c:Int}{Q:Option Bool->SortSt->Prop}(hk:kindOf st=oneType')(hi:(arrOf st)[i]?=some (x,p))(hj:(arrOf st)[j]?=some (y,r))
  (hx:uK s.heap x a) (hy:uK s.heap y c) (hne:a≠c) (hu:A.units<cLine) (q:Q (some (decide (a<c))) st):wpS (model prog w) A E s (ltAt' i j) Q st:=by
 rw[ltAt'_eq];refine wpS_bind (wpS_get ?_);show wpS _ _ _ _ (elem' (arrOf st) i>>=fun x=>elem' (arrOf st) j>>=fun y=>lt' x y) Q st;rw[elem'_eq,hi];refine wpS_bind (wpS_pure ?_);rw[elem'_eq,hj];refine wpS_bind (wpS_pure ?_);rw[lt'_eq];refine wpS_bind (wpS_get ?_);rw[hk];refine wpS_bind (wpS_lift (wpAny_attempt (show Nf (model prog w) A (oneLt' true x y) _ _ s from u7 hx hy hne hu ⟨rfl,?_⟩)));exact wpS_pure q
def sW(prog:M0)(w:M3)(A:M4)(E:MX->MZ->Prop)(s:MZ)(n:Nat)(st:SortSt):Prop:=∀(x:Nat)(Q:Option Bool->SortSt->Prop),1<=x->x<n->Q (some false) st->wpS (model prog w) A E s (ltAt' x (x-1)) Q st
theorem zv{st:SortSt}{n:Nat}{Q:AscSt->SortSt->Prop}(hn:1<=n)(h:sW prog w A E s n st)(q:Q (none,n) st):wpS (model prog w) A E s (ascLoop 1 n) Q st:=by
 unfold ascLoop;refine wpS_forRange (I:=fun x c z=>z=st/\c=(none,x)) (fun x c z h1 h2 hI=>?_) (fun c z hI=>?_) ⟨rfl,rfl⟩
 .obtain⟨rfl,rfl⟩:=hI
  exact wpS_bind (h x _ h1 h2 (wpS_pure ⟨rfl,rfl⟩))
 .obtain⟨rfl,rfl⟩:=hI
  rw[Nat.max_eq_right hn];exact q
theorem z8{st:SortSt}{n:Nat}{Q:Option Nat->SortSt->Prop}(hn:1<=n)(h:sW prog w A E s n st)(q:Q (some n) st):wpS (model prog w) A E s (countRun' 0 n) Q st:=by
 rw[countRun0_eq];refine wpS_bind (zv hn h ?_);show wpS _ _ _ _ (if(n==n)=true then pure (some n)else _) Q st;rw[if_pos (beq_self_eq_true n)];exact wpS_pure q
theorem wq{st:SortSt}{n:Nat}{Q:Unit->SortSt->Prop}(hn:2<=n)(h64:n<64)(hz:(arrOf st).size=n)(hp:pendingOf st= #[])(h:sW prog w A E s n st)(q:Q () (setPending st #[(0,n,0)])):wpS (model prog w) A E s sortRuns' Q st:=by
 rw[sortRuns'_eq];refine wpS_bind (wpS_get ?_);dsimp only;have hm:minRun' n n 0=n:=by
  obtain⟨f,rfl⟩:∃f,n=f+1:=⟨n-1,by lia⟩;rw[minRun'_succ,if_pos h64]
 rw[hz,hm];refine wpS_bind (wpS_mono (wpS_forRange (I:=fun x c z=>(x=0/\c=(none,0)/\z=st)\/(c=(none,n)/\z=setPending st #[(0,n,0)])) (Q:=fun c z=>c=(none,n)/\z=setPending st #[(0,n,0)]) (fun x c z h1 h2 hI=>?_) (fun c z hI=>?_) (.inl ⟨rfl,rfl,rfl⟩)) fun c z hI=>?_)
 .rcases hI with⟨rfl,rfl,rfl⟩|⟨rfl,rfl⟩
  .dsimp only
   rw[if_neg (by lia)];simp only[Nat.sub_zero];refine wpS_bind (z8 (by lia) h ?_);dsimp only;rw[if_neg (Nat.lt_irrefl n)];refine wpS_bind (wpS_get ?_);have hb:(pendingOf z).back?=none:=by rw[hp];rfl
   rw[hb];dsimp only;refine wpS_bind (wpS_modify (wpS_pure (.inr ⟨by rw[Nat.zero_add],?_⟩)));rw[hp];rfl
  .dsimp only
   rw[if_pos (MP n)];exact wpS_pure ⟨rfl,rfl⟩
 .rcases hI with⟨hx,_,_⟩|hI
  .lia
  .exact hI
 .obtain⟨rfl,rfl⟩:=hI
  dsimp only;refine wpS_bind (wpS_mono (wpS_forRange (I:=fun _ c z=>c=(none,())/\z=setPending st #[(0,n,0)]) (Q:=fun c z=>c=(none,())/\z=setPending st #[(0,n,0)]) (fun x c z _ _ hI=>?_) (fun _ _ hI=>hI) ⟨rfl,rfl⟩) fun c z hI=>?_)
  .obtain⟨rfl,rfl⟩:=hI
   refine wpS_bind (wpS_get ?_);rw[if_pos (show(pendingOf (setPending st #[(0,n,0)])).size<=1 from MP 1)];exact wpS_pure ⟨rfl,rfl⟩
  .obtain⟨rfl,rfl⟩:=hI
   exact wpS_pure q
theorem m8{Q:List (Option MX)->MZ->Prop}:∀{vs:List MX},(∀v∈vs,s.TypeIs v "list")->Q (vs.map fun _=>none) s->Nf (model prog w) A (vs.mapM firstOfTuple') Q E s
 |[],_,q=>by rw[List.mapM_nil];exact M8 q
 |v::vs,h,q=>by
  rw[List.mapM_cons];refine M7 (M7 (wpAny_typeOf (h v MG) ?_));rw[if_pos (by decide)];exact M8 (M7 (aY (m8 (Q:=fun r z=>Q (none::r) z) (fun u hu=>h u (MH _ hu)) q) fun r s' z'=>M8 z'))
theorem oA{Q:List MX->MZ->Prop}:∀{vs:List MX},(∀v∈vs,s.TypeIs v "list")->Q (vs.map fun _=>MX.type "list") s->Nf (model prog w) A (vs.mapM typeOf) Q E s
 |[],_,q=>by rw[List.mapM_nil];exact M8 q
 |v::vs,h,q=>by
  rw[List.mapM_cons];refine M7 (wpAny_typeOf (h v MG) ?_);exact M7 (aY (oA (Q:=fun r z=>Q (.type "list" ::r) z) (fun u hu=>h u (MH _ hu)) q) fun r s' z'=>M8 z')
theorem wD{vs:List MX}{Q:SortKind->MZ->Prop}(h0:vs≠[])(h:∀v∈vs,s.TypeIs v "list")(q:Q oneType' s):Nf (model prog w) A (keyKind' vs.toArray) Q E s:=by
 obtain⟨v,r,rfl⟩:∃v r,vs=v::r:=by
  cases vs with
  |nil=>exact absurd rfl h0
  |cons v r=>exact⟨v,r,rfl⟩
 rw[keyKind'_eq,List.mapM_toArray];simp only[map_eq_pure_bind,bind_assoc,pure_bind];refine M7 (m8 h ?_);rw[if_neg (by simp),if_neg (by simp),oneTypeOnly'_eq,List.mapM_toArray];simp only[map_eq_pure_bind,bind_assoc,pure_bind];refine M7 (oA h ?_);have e:((List.map (fun _=>MX.type "list") (v::r)).toArray.all fun x=>x==MX.type "list")=true:=by
  rw[List.all_toArray,List.all_map,List.all_eq_true];exact fun _ _=>rfl
 simp only[MA,List.getElem?_toArray,List.getElem?_cons_zero]at e⊢;rw[if_pos e];exact M8 q
theorem zip_get{vs:List MX}{i:Nat}{v:MX}(h:vs[i]?=some v):(vs.toArray.zip vs.toArray)[i]?=some (v,v):=by
 have:vs.toArray.zip vs.toArray=(vs.zip vs).toArray:=by simp
 rw[this,List.getElem?_toArray,List.getElem?_zip_eq_some];exact⟨h,h⟩
theorem yn{vs:List MX}:(vs.toArray.zip vs.toArray).map (·.2)=vs.toArray:=by
 apply Array.toList_inj.mp;rw[Array.toList_map,Array.toList_zip];simp[List.map_snd_zip]
theorem ug{a:MY}{vs:List MX}{hs:List Int}{n:Nat}{P:Fin->MZ->Prop}(ho:s.heap.get? a=some (seqObj "list" vs.toArray n))(h64:vs.length<64)(hu:A.units<cLine)
  (hr:∀h',(∀b o,b≠a->s.heap.get? b=some o->h'.get? b=some o)->kg h' vs hs) (q:P (.done (.ret .none)) {s with heap:=sortedHeap s.heap a vs vs.toArray}):
  Nf (model prog w) A (Ni.«list.sort» ⟨[.ref a],[]⟩) P E s:=by
 rw[list_sort_plain];have la:a<s.heap.objs.size:=Nc.lt_size ho;obtain⟨k,hk⟩:∃k,(s.heap.update a (Obj.mapSeq fun _=> #[])).get? a=some (seqObj "list" #[] k):=⟨_,get?_update_seq ho (fun _=> #[])⟩;refine M7 (listItems_at ho rfl (M7 (listUpdate_at ho rfl (M7 (seqEpoch_at hk rfl (M7 (wpAny_newTuple (M7 (wpAny_newList (wpAny_holding ?_))))))))));have h6:(((s.heap.update a (Obj.mapSeq fun _=> #[])).push (seqObj "tuple" vs.toArray 0)).push (seqObj "list" #[] 0)).get? a=some (seqObj "list" #[] k):=Nc.get?_push_of_some _ (Nc.get?_push_of_some _ hk);have R:=hr (((s.heap.update a (Obj.mapSeq fun _=> #[])).push (seqObj "tuple" vs.toArray 0)).push (seqObj "list" #[] 0)) fun b o hb e=>Nc.get?_push_of_some _ (Nc.get?_push_of_some _ ((Nc.get?_update_other _ _ (Ne.symm hb)).trans e));show Nf (model prog w) A _ P E {s with heap:=((s.heap.update a (Obj.mapSeq fun _=> #[])).push (seqObj "tuple" vs.toArray 0)).push (seqObj "list" #[] 0)};generalize eS:({s with heap:=((s.heap.update a (Obj.mapSeq fun _=> #[])).push (seqObj "tuple" vs.toArray 0)).push (seqObj "list" #[] 0)}:MZ)=S;have h6':S.heap.get? a=some (seqObj "list" #[] k):=by rw[←eS];exact h6
 have R':kg S.heap vs hs:=by rw[←eS];exact R
 have q':P (.done (.ret .none)) {S with heap:=S.heap.update a (Obj.mapSeq fun _=>vs.toArray)}:=by rw[←eS];exact q
 dsimp only;have vz:vs.toArray.size=vs.length:=ML;have big:(10000000:Nat)<=M5:=by decide
 have fin:∀st:SortSt,(arrOf st).map (·.2)=vs.toArray->failedOf st=none->Nf (model prog w) A (do
   let touched:=(←seqEpoch a) !=k
   Ni.List.listUpdate (.ref a) fun _=>(arrOf st).map (·.2)
   if let some e:=failedOf st then rule "list.sort.comparison-raised";throw e
   if touched then rule "list.sort.modified";raiseError "ValueError" "list modified during sort"
   ret .none) P E S:=fun st e1 e2=>by
  rw[e1,e2];refine M7 (seqEpoch_at h6' rfl ?_);refine M7 (listUpdate_at h6' rfl ?_ (hsz2:=by rw[vz];lia));simp only[bne_self_eq_false,Bool.false_eq_true,if_false];exact M8 q'
 by_cases h2:vs.toArray.size<2
 .rw[if_pos h2,if_pos h2]
  refine M7 (M8 ?_);rw[StateT.run_pure];refine M7 (M8 ?_);exact fin (SortSt.mk' general' (vs.toArray.zip vs.toArray) #[] 7 none) yn rfl
 .rw[if_neg h2,if_neg h2]
  have ty:∀v∈vs,S.TypeIs v "list" :=fun v hv=>by
   obtain⟨i,hi,e⟩:=List.mem_iff_getElem.mp hv;obtain⟨l,xs,m,t,rfl,e1,_⟩:=R'.head i v (hs[i]'(by rw[R'.len];exact hi)) (by rw[Mx hi,e]) (Mx (by rw[R'.len];exact hi));exact⟨_,e1,rfl⟩
  refine M7 (wD (by intro z;subst z;simp at h2) ty ?_);have nl:sW prog w A E S vs.length (SortSt.mk' oneType' (vs.toArray.zip vs.toArray) #[] 7 none):=fun x Q h1 hx hq=>by
   have i1:x<hs.length:=by rw[R'.len];exact hx
   have g1:hs[x]?=some hs[x]:=Mx i1;have g2:hs[x-1]?=some (hs[x-1]'(by lia)):=Mx (by lia);have up:=R'.up (x-1) _ _ g2 (by rw[show x-1+1=x by lia];exact g1);have v1:vs[x]?=some vs[x]:=Mx hx;have v2:vs[x-1]?=some (vs[x-1]'(by lia)):=Mx (by lia);refine wU rfl (zip_get v1) (zip_get v2) (R'.head _ _ _ v1 g1) (R'.head _ _ _ v2 g2) (by lia) hu ?_;rw[decide_eq_false (by lia)];exact hq
  refine M7 (M9 (wq (n:=vs.length) (st:=SortSt.mk' oneType' (vs.toArray.zip vs.toArray) #[] 7 none) (Q:=fun _ z=>z=setPending (SortSt.mk' oneType' (vs.toArray.zip vs.toArray) #[] 7 none) #[(0,vs.length,0)]) (by lia) h64 (by show(vs.toArray.zip vs.toArray).size=vs.length;simp) rfl nl rfl) ?_ fun _ _ e=>e);rintro⟨⟨⟩,st⟩ s' ⟨rfl,rfl⟩;exact fin (setPending (SortSt.mk' oneType' (vs.toArray.zip vs.toArray) #[] 7 none) #[(0,vs.length,0)]) yn rfl
end
structure Kv(H:Hp)(vs:List V)(hs:List Int):Prop where
 len:hs.length=vs.length
 up:∀(i:Nat)(a c:Int),hs[i]?=some a->hs[i+1]?=some c->a<c
 head:∀(i:Nat)(v:V)(a:Int),vs[i]?=some v->hs[i]?=some a->∃(b:MY)(ns:List Int),v= .ref b/\H b=some (.lst (ns.map V.int))/\ns[0]?=some a
section
variable{X:Cx}{K:W.Frag}{pins:List (MY×Obj)}{σ:St}{H:Hp}{s:MZ}
theorem Kv.rising {vs:List V}{us:List MX}{hs:List Int}(I:Inv X pins σ H s)(r:Vals vs us)(h:Kv H vs hs):kg s.heap us hs:=by
 have len:=r.length;refine⟨by rw[h.len,len],h.up,fun i u a hu ha=>?_⟩;have iv:i<vs.length:=by
  have:=(List.getElem?_eq_some_iff.mp hu).1;lia
 obtain⟨b,ns,e1,e2,e3⟩:=h.head i vs[i] a (Mx iv) ha;obtain⟨u',hu',ru⟩:=r.get (i:=i) (x:=vs[i]) (Mx iv);rw[hu]at hu';cases hu';rw[e1]at ru;cases ru;obtain⟨z,its,n,rv,hl,e⟩:=I.o5 e2;obtain⟨w',hw,rw'⟩:=rv.get (i:=0) (x:= .int a) (by rw[Mv,e3];rfl);obtain⟨t,rfl⟩:=rw';exact⟨b,its.toArray,n,t,rfl,e,by rw[List.getElem?_toArray];exact hw⟩
theorem vn{β:Type}{A:M4}{E:MX->MZ->Prop}{prog:M0}{w:M3}{S:MZ}{us:List MX}{hs:List Int}{Q:β->MZ->Prop}{k:MX->Sem β}(hu:A.in1.units<cLine)(h64:us.length<64)(hr:kg S.heap us hs)
  (q:∀h' n,(∀b o,S.heap.get? b=some o->h'.get? b=some o)->h'.get? S.heap.objs.size=some {cls:= .type "list",data:= .seq us.toArray n}->Nf (model prog w) A (k (.ref S.heap.objs.size)) Q E {S with heap:=h'}):
  Nf (model prog w) A (newList us>>=fun l=>holding [l] (call (.builtin "list.sort") [l])>>=fun _=>k l) Q E S:=by
 have hL:(S.heap.push (seqObj "list" us.toArray 0)).get? S.heap.objs.size=some (seqObj "list" us.toArray 0):=Nc.get?_push_size _ rfl;refine M7 (wpAny_newList ?_);refine M7 (wpAny_holding (wpAny_call_entry slot_list_sort ⟨_,hL,rfl⟩ entry_list_sort (ug (s:={S with heap:=S.heap.push (seqObj "list" us.toArray 0)}) (hs:=hs) hL h64 hu (fun h' k=>?_) ⟨_,rfl,?_⟩) (args_list_sort _)))
 .exact hr.keep fun b o e=>k b o (MR (Nc.lt_size e)) (Nc.get?_push_of_some _ e)
 .obtain⟨e,he⟩:=sortedHeap_at (vs:=us) (out:=us.toArray) (n:=0) hL
  refine q _ e (fun b o hb=>?_) he;have hlt:=Nc.lt_size hb;rw[sortedHeap_old (MR hlt) (by rw[size_push'];exact Nat.lt_succ_of_lt hlt)];exact Nc.get?_push_of_some _ hb
def HZ(K:W.Frag):List V->Hp->VK->Prop:=fun xs H Q=>∃(p:MY)(vs:List V)(hs:List Int),xs=[.ref p]/\aJ K H p vs/\vs.length<64/\Kv H vs hs/\∀l,H l=none->Q (.ref l) (upd H l (.lst vs))
theorem kZ(hK:X.K=K)(hu:X.A.units+64<cLine):bY X (.builtin "sorted") (HZ K):=by
 subst hK;intro pins s σ H xs us Q I r h;obtain⟨p,vs,hs,rfl,hp,hz,hd,q⟩:=h;obtain⟨u,rfl,ru⟩:=vals1 r;cases ru;obtain⟨its,rv,pl,_⟩:=I.list hp;have len:=rv.length;have ris:=hd.rising I rv;have big:(10000000:Nat)<=M5:=by decide
 refine Calls.call_function_entry kind_sorted plain_sorted entry_sorted (args_sorted1 _) ?_;unfold Ni.«sorted»;refine M7 (m:=checkCount "sorted" 1 1 _) (M8 ?_);have kp:∀b o,s.heap.get? b=some o->((s.heap.push (seqObj "list" #[] 0)).update s.heap.objs.size (Obj.mapSeq (·++its.toArray))).get? b=some o:=fun b o e=>(Nc.get?_update_other _ _ (Ne.symm (MR (Nc.lt_size e)))).trans (Nc.get?_push_of_some _ e);refine M7 (collect_list pl.isList ?_ (by lia));refine vn (S:={s with heap:=(s.heap.push (seqObj "list" #[] 0)).update s.heap.objs.size (Obj.mapSeq (·++its.toArray))}) (hs:=hs) ?_ (by lia) (ris.keep kp) fun h' n k1 k2=>?_
 .have:X.A.in1.in1.units<=X.A.units+2:=by show _<=_;first|exact MP _|exact Nat.le_succ _|lia
  lia
 .refine M8 ⟨_,rfl,?_⟩
  have le:s.heap.objs.size<=((s.heap.push (seqObj "list" #[] 0)).update s.heap.objs.size (Obj.mapSeq (·++its.toArray))).objs.size:=by rw[Nc.size_update,size_push'];exact Nat.le_succ _
  exact⟨.ref _,_,I.laid (o:= .lst vs) (fun b o e=>k1 _ _ (kp b o e)) le ⟨by lia,its,n,rv,k2⟩,rfl,q _ (I.aX.fresh le)⟩
end
end L2
namespace Sw
open PySem L2
theorem wK(n:Int):(bK 1 (n+1)).Nodup:=(fF n).nodup
theorem uI{n x:Int}:x∈bK 1 (n+1)↔1<=x/\x<=n:=(fF n).mem
end Sw
namespace L2
open PySem PySem.Spec PyProof.Rows
section
variable{prog:M0}{w:M3}{A:M4}{E:MX->MZ->Prop}{s:MZ}{W:MY->List Int->Prop}
theorem Paired.at' {α β:Type}{F:α->β->Prop}:∀{l:List α}{m:List β}(i:Nat),Paired F l m->(∃a b,l[i]?=some a/\m[i]?=some b/\F a b)\/(l[i]?=none/\m[i]?=none)
 |_,_,i,.nil=> .inr ⟨by simp,by simp⟩
 |_,_,0,.cons r _=> .inl ⟨_,_,rfl,rfl,r⟩
 |_,_,i+1,.cons _ t=>by simpa using Paired.at' i t
theorem Paired.En {α β:Type}{F:α->β->Prop}:∀{l l':List α}{m m':List β},Paired F l m->Paired F l' m'->Paired F (l++l') (m++m')
 |_,_,_,_,.nil,y=>y
 |_,_,_,_,.cons r t,y=> .cons r (Paired.En t y)
end
theorem Paired.EU {α β:Type}{F:α->β->Prop}:∀{l:List α}{m:List β},Paired F l m->l.length=m.length
 |_,_,.nil=>rfl
 |_,_,.cons _ t=>by rw[Mz,Mz,Paired.EU t]
def zE(x:Int):List Int->List Int
 |[]=>[x]
 |y::l=>if x≥y then x::y::l else y::zE x l
def qW:List Int->List Int
 |[]=>[]
 |x::l=>zE x (qW l)
theorem lX(x:Int):∀l:List Int,(zE x l).Perm (x::l)
 |[]=> .refl _
 |y::l=>by
  unfold zE
  split
  .exact .refl _
  .exact((lX x l).cons y).trans (List.Perm.swap _ _ _)
theorem j9:∀l:List Int,(qW l).Perm l
 |[]=> .refl _
 |x::l=>(lX x _).trans ((j9 l).cons x)
theorem qm(x:Int):∀{l:List Int},l.Pairwise (·≥·)->(zE x l).Pairwise (·≥·)
 |[],_=>List.pairwise_singleton _ _
 |y::l,h=>by
  unfold zE;obtain⟨h1,h2⟩:=List.pairwise_cons.mp h
  split
  .rename_i c
   exact List.pairwise_cons.mpr ⟨fun z hz=>by rcases List.mem_cons.mp hz with rfl|hz;exact c;have:=h1 z hz;lia,h⟩
  .rename_i c
   refine List.pairwise_cons.mpr ⟨fun z hz=>?_,qm x h2⟩;rcases List.mem_cons.mp ((lX x l).mem_iff.mp hz)with rfl|hz
   .lia
   .exact h1 z hz
theorem j6:∀l:List Int,(qW l).Pairwise (·≥·)
 |[]=> .nil
 |x::l=>qm x (j6 l)
theorem BY{l m:List Int}(p:m.Perm l)(h:m.Pairwise (·≥·)):m=qW l:=
 List.Perm.eq_of_pairwise (le:=(·≥·)) (fun a b _ _ x y=>by lia) h (j6 l) (p.trans (j9 l).symm)
end L2
namespace Sw
open PySem L2
def fN(f:Bool):Str:=if f=true then Mt "forth"else Mt "back"
theorem CA{f g:Bool}(h:fN f=fN g):f=g:=by
 cases f<;>cases g<;>first|rfl|exact absurd h (by decide)
def signs(x:Str):List Nat:=x.cps.toList
theorem dz{x y:Str}(h:signs x=signs y):x=y:=Str.ext' (Array.toList_inj.mp h)
theorem cV(x y:Str):signs (x++y)=signs x++signs y:=by
 show(x.cps++y.cps).toList=_;rw[Array.toList_append];rfl
theorem fJ(x:Str):(signs x).length=x.length:=Array.length_toList
def glue(c:Nat):List (List Nat)->List Nat
 |[]=>[]
 |[x]=>x
 |x::y::r=>x++c::glue c (y::r)
theorem cf(c:Nat):∀ts:List Str,signs (Str.join ⟨#[c]⟩ ts)=glue c (ts.map signs)
 |[]=>rfl
 |[x]=>rfl
 |x::y::r=>by
  show signs (x++(⟨#[c]⟩:Str)++Str.join ⟨#[c]⟩ (y::r))=signs x++c::glue c ((y::r).map signs);rw[cV,cV,cf c (y::r),List.append_assoc];rfl
theorem xF{c:Nat}:∀{p q r s:List Nat},c∉p->c∉q->p++c::r=q++c::s->p=q/\r=s
 |[],[],r,s,_,_,h=>by
  injection h with _ h
  exact⟨rfl,h⟩
 |[],b::q,r,s,_,hq,h=>by
  injection h with h _
  exact absurd MG (h▸hq)
 |a::p,[],r,s,hp,_,h=>by
  injection h with h _
  exact absurd MG (h▸hp)
 |a::p,b::q,r,s,hp,hq,h=>by
  injection h with h1 h2
  obtain⟨e1,e2⟩:=xF (fun z=>hp (MH _ z)) (fun z=>hq (MH _ z)) h2;exact⟨by rw[h1,e1],e2⟩
theorem uV{c:Nat}:∀{ps qs:List (List Nat)},ps≠[]->qs≠[]->(∀p∈ps,c∉p)->(∀q∈qs,c∉q)->glue c ps=glue c qs->ps=qs
 |[],_,h,_,_,_,_=>absurd rfl h
 |_,[],_,h,_,_,_=>absurd rfl h
 |[x],[y],_,_,_,_,h=>by rw[show x=y from h]
 |[x],y::z::r,_,_,h1,_,h=>by
  have h:x=y++c::glue c (z::r):=h;exact absurd (by rw[h];exact MJ _ MG) (h1 x MG)
 |x::z::r,[y],_,_,_,h2,h=>by
  have h:x++c::glue c (z::r)=y:=h;exact absurd (by rw[←h];exact MJ _ MG) (h2 y MG)
 |x::y::r,z::w::s,_,_,h1,h2,h=>by
  obtain⟨e1,e2⟩:=xF (h1 x MG) (h2 z MG) (show x++c::glue c (y::r)=z++c::glue c (w::s)from h);rw[e1,uV (by simp) (by simp) (fun p hp=>h1 p (MH _ hp)) (fun p hp=>h2 p (MH _ hp)) e2]
theorem uj(x y:Str):Txt.split x y≠[]:=by
 unfold Txt.split
 split
 .simp
 .split
  .simp
  .rw[StrLaws.partsBetween_eq]
   obtain⟨p,r,e⟩:=StrLaws.partsFrom_ne x y.length 0 (Ni.Str.occurrences x y 0 x.length (x.length+1));rw[e];simp
theorem jJ:∀{a b:List Str},a.map signs=b.map signs->a=b
 |[],[],_=>rfl
 |[],_::_,h=>by simp at h
 |_::_,[],h=>by simp at h
 |x::a,y::b,h=>by
  rw[MA,MA]at h;injection h with h1 h2
  rw[dz h1,jJ h2]
theorem gc{c:Nat}{ts:List Str}(ne:ts≠[])(free:∀p∈ts,c∉signs p):Txt.split (Str.join ⟨#[c]⟩ ts) ⟨#[c]⟩=ts:=by
 have e:=StrLaws.join_split (Str.join ⟨#[c]⟩ ts) ⟨#[c]⟩;have f:=StrLaws.split_free (Str.join ⟨#[c]⟩ ts) c;have e2:glue c ((Txt.split (Str.join ⟨#[c]⟩ ts) ⟨#[c]⟩).map signs)=glue c (ts.map signs):=by
  rw[←cf,←cf,e]
 refine jJ (uV (by simpa using uj _ _) (by simpa using ne) ?_ ?_ e2)
 .intro p hp
  obtain⟨q,hq,rfl⟩:=List.mem_map.mp hp;exact f q hq
 .intro p hp
  obtain⟨q,hq,rfl⟩:=List.mem_map.mp hp;exact free q hq
def aH(i:Int):Str:=Mt (toString i)
theorem lL(m:Nat):signs (aH (m:Int))=(Nat.toDigits 10 m).map Char.toNat:=W.KIN.signs_num m
theorem gL{i:Int}(h:0<=i):∀c∈signs (aH i),48<=c/\c<=57:=by
 obtain⟨m,rfl⟩:=Int.eq_ofNat_of_zero_le h;intro c hc;rw[lL]at hc;obtain⟨ch,hch,e⟩:=List.mem_map.mp hc;rw[←e];exact PyProof.Rows.digit_range (Nat.isDigit_of_mem_toDigits (by decide) (by decide) hch)
theorem iZ{i:Int}(h:0<=i){c:Nat}(hc:c<48\/57<c):c∉signs (aH i):=fun z=>by
 have:=gL h c z;lia
theorem sC{i:Int}(h:0<=i):0<(aH i).length:=by
 obtain⟨m,rfl⟩:=Int.eq_ofNat_of_zero_le h;rw[←fJ,lL,Mu];exact PySem.toDigits_len_ge 10 m
theorem zO{i:Int}(h:0<=i):Txt.isascii (aH i)=true:=by
 unfold Txt.isascii;rw[Array.all_eq_true'];intro c hc;have:=gL h c (by simpa [signs]using hc);exact decide_eq_true (by lia)
theorem Ds:∀c,48<=c->c<=57->Unicode.isDigit c=true:=by
 intro c h1 h2;have:c=48\/c=49\/c=50\/c=51\/c=52\/c=53\/c=54\/c=55\/c=56\/c=57:=by lia
 rcases this with rfl|rfl|rfl|rfl|rfl|rfl|rfl|rfl|rfl|rfl<;>decide+kernel
theorem tZ{i:Int}(h:0<=i):Txt.isdigit (aH i)=true:=by
 unfold Txt.isdigit;rw[Bool.and_eq_true];refine⟨decide_eq_true (sC h),?_⟩;rw[Array.all_eq_true'];intro c hc;have:=gL h c (by simpa [signs]using hc);exact Ds c this.1 this.2
theorem dC{i:Int}(h:0<=i)(h9:i<10^9):(aH i).length<=9:=PyProof.Rows.toString_length_le h (by decide) h9
theorem sM{i:Int}(h:0<=i)(h9:i<10^10):PySem.intText? (aH i)=some i:=W.KIN.num_reads h h9
theorem BD(m:Nat)(hm:0<m):∃d r,(Nat.toDigits 10 m).map Char.toNat=d::r/\d≠48:=by
 induction m using Nat.strongRecOn with
 |_ m ih=>
  by_cases h:m<10
  .rw[Nat.toDigits_of_lt_base h]
   have:m=1\/m=2\/m=3\/m=4\/m=5\/m=6\/m=7\/m=8\/m=9:=by lia
   rcases this with rfl|rfl|rfl|rfl|rfl|rfl|rfl|rfl|rfl<;>exact⟨_,_,rfl,by decide⟩
  .have hm:m%10<10:=Nat.mod_lt m (by decide)
   have t:Nat.toDigits 10 (m/10)++Nat.toDigits 10 (m%10)=Nat.toDigits 10 (10*(m/10)+m%10):=Nat.toDigits_append_toDigits (by decide) (by lia) hm;rw[Nat.div_add_mod]at t;obtain⟨d,r,e,hd⟩:=ih (m/10) (by lia) (by lia);rw[←t,My,e];exact⟨d,_,rfl,hd⟩
theorem wB(x:Str)(c:Nat):Txt.startswith x ⟨#[c]⟩=true↔∃r,signs x=c::r:=by
 have h:=StrLaws.subAt_one x c 0;unfold Txt.startswith;rw[Bool.and_eq_true,decide_eq_true_eq];rw[h];show(signs x)[0]?=some c↔_
 cases e:signs x with
 |nil=>simp
 |cons a r=>simp[eq_comm]
theorem wJ{i:Int}(h:0<i):Txt.startswith (aH i) ⟨#[48]⟩=false:=by
 rw[Bool.eq_false_iff];intro z;obtain⟨r,e⟩:=(wB _ _).mp z;obtain⟨m,rfl⟩:=Int.eq_ofNat_of_zero_le (Int.le_of_lt h);obtain⟨d,r',e',hd⟩:=BD m (by lia);rw[lL,e']at e;injection e with e _
 exact hd e
def jd(e:Int×Int):Str:=aH e.1++Mt "-" ++aH e.2
def kU(row:List (Int×Int)):Str:=if row.length=0 then Mt "none"else Str.join (Mt " ") (row.map jd)
theorem Cn(a b:Int):jd (a,b)=Str.join ⟨#[45]⟩ [aH a,aH b]:=rfl
theorem AK{a b:Int}(ha:0<=a)(hb:0<=b):Txt.split (jd (a,b)) (Mt "-")=[aH a,aH b]:=by
 rw[Cn];refine gc (c:=45) (by simp) fun p hp=>?_;rcases List.mem_cons.mp hp with rfl|hp
 .exact iZ ha (by lia)
 .rw[List.mem_singleton.mp hp]
  exact iZ hb (by lia)
theorem ex_free{a b:Int}(ha:0<=a)(hb:0<=b):∀c∈signs (jd (a,b)),c=45\/(48<=c/\c<=57):=by
 intro c hc;unfold jd at hc;rw[cV,cV]at hc;rcases List.mem_append.mp hc with hc|hc
 .rcases List.mem_append.mp hc with hc|hc
  .exact .inr (gL ha c hc)
  .left
   have:signs (Mt "-")=[45]:=by decide+kernel
   rw[this]at hc;exact List.mem_singleton.mp hc
 .exact .inr (gL hb c hc)
theorem hG{row:List (Int×Int)}(ne:row≠[])(h:∀e∈row,0<=e.1/\0<=e.2):Txt.split (kU row) (Mt " ")=row.map jd:=by
 unfold kU;rw[if_neg (by intro z;exact ne (List.length_eq_zero_iff.mp z))];refine gc (c:=32) (by simpa using ne) fun p hp=>?_;obtain⟨e,he,rfl⟩:=List.mem_map.mp hp;obtain⟨a,b⟩:=e;have:=h _ he;intro z;have:=ex_free this.1 this.2 32 z;lia
theorem iV{row:List (Int×Int)}(ne:row≠[])(h:∀e∈row,0<=e.1/\0<=e.2):kU row≠Mt "none" :=by
 intro z;have s:=hG ne h;rw[z]at s;have e1:Txt.split (Mt "none") (Mt " ")=[Mt "none"]:=by
  have:=gc (c:=32) (ts:=[Mt "none"]) (by simp) (by decide+kernel);exact this
 rw[e1]at s
 cases row with
 |nil=>exact ne rfl
 |cons e r=>
  rw[MA]at s;injection s with s _
  have:=ex_free (h e MG).1 (h e MG).2 110 (by rw[←s];decide+kernel);lia
theorem rY{a b:Int}(ha:0<=a)(hb:0<=b)(ha9:a<10^9)(hb9:b<10^9):(jd (a,b)).length<=19:=by
 unfold jd;rw[Str.length_append,Str.length_append];have:=dC ha ha9;have:=dC hb hb9;show(aH a).length+(Mt "-").length+(aH b).length<=19;have:(Mt "-").length=1:=by decide+kernel
 lia
theorem cO{z:Str}{ts:List Str}{B:Nat}(hz:z.length<=10)(hB:∀y∈ts,y.length<=B)(hb:B<=10000)(h:ts.length<=100):JoinOk z ts=true:=by
 unfold JoinOk;rw[Bool.not_eq_true'];refine StrLaws.joinFits hB ?_;have h1:ts.length*B<=100*10000:=Nat.mul_le_mul h hb;have h2:ts.length*z.length<=100*10:=Nat.mul_le_mul h hz;lia
theorem B8{row:List (Int×Int)}(h60:row.length<=60)(h:∀e∈row,0<=e.1/\0<=e.2/\e.1<10^9/\e.2<10^9):(kU row).length<=2000:=by
 unfold kU
 split
 .decide+kernel
 .have h1:=StrLaws.join_length_le (Mt " ") (row.map jd)
  have h2:=StrLaws.sumLen_le (B:=19) (row.map jd) (fun y hy=>by
   obtain⟨⟨a,b⟩,he,rfl⟩:=List.mem_map.mp hy;obtain⟨a0,b0,a9,b9⟩:=h _ he;exact rY a0 b0 a9 b9)
  have h3:(Mt " ").length=1:=by decide+kernel
  rw[Mu]at h1 h2;rw[h3]at h1;lia
def zk(r:List Int):Str:=Str.join (Mt " ") (r.map aH)
def LZ(r:List Int):Str:=Mt "(" ++zk r++Mt ")"
def KY(rs:List (List Int)):Str:=Str.join (Mt "") (rs.map LZ)
theorem xP{r:List Int}(hp:∀x∈r,0<=x/\x<10^9):(zk r).length<=r.length*10:=by
 have h1:=StrLaws.join_length_le (Mt " ") (r.map aH);have h2:=StrLaws.sumLen_le (B:=9) (r.map aH) (fun y hy=>by
  obtain⟨x,hx,rfl⟩:=List.mem_map.mp hy;exact dC (hp x hx).1 (hp x hx).2)
 rw[Mu]at h1 h2;have h3:(Mt " ").length=1:=by decide+kernel
 rw[h3]at h1;unfold zk;lia
theorem je{rs:List (List Int)}{r:List Int}(h:r∈rs):r.length<=rs.flatten.length:=by
 induction rs with
 |nil=>cases h
 |cons a rs ih=>
  rw[List.flatten_cons,Mw];rcases List.mem_cons.mp h with rfl|h
  .lia
  .have:=ih h;lia
theorem ji{rs:List (List Int)}(h:∀r∈rs,r≠[]):rs.length<=rs.flatten.length:=by
 induction rs with
 |nil=>exact MP _
 |cons a rs ih=>
  rw[List.flatten_cons,Mw,Mz];have:=ih fun r hr=>h r (MH _ hr);have:=List.length_pos_iff.mpr (h a MG);lia
theorem gN{n:Int}{xs:List Int}(o:Ord n xs):(bT n xs).flatten.length=n.toNat/\(∀r∈bT n xs,r≠[]/\r.length<=n.toNat/\∀x∈r,1<=x/\x<=n)/\(bT n xs).length<=n.toNat:=by
 have c:∀r∈bT n xs,r≠[]/\∀x∈r,1<=x/\x<=n:=fun r hr=>by
  obtain⟨c1,c2⟩:=DI o hr;refine⟨c1,fun x hx=>?_⟩;obtain⟨i,hi⟩:=List.getElem?_of_mem hx;obtain⟨a,b,_⟩:=c2 i x hi;exact⟨a,b⟩
 have fl:(bT n xs).flatten.length=n.toNat:=by
  have pm:(bT n xs).flatten.Perm (bK 1 (n+1)):=by
   refine(List.perm_ext_iff_of_nodup (qE o) (bV _ _)).mpr fun x=>?_;rw[bj];constructor
   .intro h
    obtain⟨r,hr,hx⟩:=List.mem_flatten.mp h;have:=(c r hr).2 x hx;lia
   .intro h
    exact yN o (by lia) (by lia)
  rw[pm.length_eq,aB];congr 1;lia
 refine⟨fl,fun r hr=>⟨(c r hr).1,?_,(c r hr).2⟩,?_⟩
 .rw[←fl];exact je hr
 .rw[←fl];exact ji fun r hr=>(c r hr).1
def pN(r:List Int):List Int:=(qW r).reverse
theorem dF(r:List Int):(pN r).Perm r:=(List.reverse_perm _).trans (j9 r)
theorem xC(r:List Int):(pN r).Pairwise (·<=·):=List.pairwise_reverse.mpr (j6 r)
theorem yT{l m:List Int}(p:m.Perm l)(h:m.Pairwise (·<=·)):m=pN l:=by
 have e:m.reverse=qW l:=BY ((List.reverse_perm m).trans p) (List.pairwise_reverse.mpr h);unfold pN;rw[←e,List.reverse_reverse]
theorem Eb{r:List Int}(nd:r.Nodup):(pN r).Pairwise (·<·):=by
 have h1:=xC r;have h2:(pN r).Nodup:=(dF r).nodup_iff.mpr nd;exact(h1.and h2).imp fun⟨a,b⟩=>by lia
def jT(n:Int)(xs:List Int):List (List Int):=(bT n xs).map pN
theorem Ae(a b:Int):(bK a b).Pairwise (·<·):=by
 unfold bK;refine List.pairwise_map.mpr (List.Pairwise.imp (fun h=>?_) List.pairwise_lt_range);lia
structure Lx(n:Int)(Ls:List (List Int))(hs:List Int):Prop where
 ne:∀L∈Ls,L≠[]
 rise:∀L∈Ls,L.Pairwise (·<·)
 hl:hs.length=Ls.length
 Mi:hs.Pairwise (·<·)
 head:∀(i:Nat)(L:List Int)(a:Int),Ls[i]?=some L->hs[i]?=some a->L[0]?=some a
 Mr:Ls.flatten.Perm (bK 1 (n+1))
theorem vg{n:Int}{xs:List Int}(o:Ord n xs):Lx n (jT n xs) ((bK 1 (n+1)).filter (least xs)):=by
 have rb:∀m∈(bK 1 (n+1)).filter (least xs),1<=m/\m<=n:=fun m hm=>uI.mp (List.mem_filter.mp hm).1;have key:∀L∈jT n xs,∃m,(1<=m/\m<=n)/\least xs m=true/\L=pN (cq xs m):=fun L hL=>by
  unfold jT bT at hL;obtain⟨r,hr,rfl⟩:=List.mem_map.mp hL;obtain⟨m,hm,rfl⟩:=List.mem_map.mp hr;exact⟨m,rb m hm,(List.mem_filter.mp hm).2,rfl⟩
 refine⟨fun L hL=>?_,fun L hL=>?_,?_,?_,fun i L a h1 h2=>?_,?_⟩
 .obtain⟨m,hb,_,rfl⟩:=key L hL
  intro z;have:=(dF (cq xs m)).mem_iff.mpr (dn m);rw[z]at this;cases this
 .obtain⟨m,hb,_,rfl⟩:=key L hL
  exact Eb (mx o hb.1 hb.2)
 .unfold jT bT;rw[Mu,Mu]
 .refine List.Pairwise.filter _ ?_
  exact Ae 1 (n+1)
 .unfold jT bT at h1
  rw[Mv,Mv,h2]at h1;have e:pN (cq xs a)=L:=MV h1;have am:=MF h2;have la:=(List.mem_filter.mp am).2;have mem:=(dF (cq xs a)).mem_iff.mpr (dn (xs:=xs) a);have le:=xC (cq xs a);rw[e]at mem le
  cases L with
  |nil=>cases mem
  |cons y r=>
   show some y=some a;have hy:y∈cq xs a:=(dF (cq xs a)).mem_iff.mp (by rw[e];exact MG);have h3:a<=y:=of_decide_eq_true (List.all_eq_true.mp la y hy);have h4:y<=a:=by
    rcases List.mem_cons.mp mem with z|z
    .lia
    .exact(List.pairwise_cons.mp le).1 a z
   have:y=a:=by lia
   rw[this]
 .have nd:=qE o
  have p1:∀rs:List (List Int),(rs.map pN).flatten.Perm rs.flatten:=by
   intro rs
   induction rs with
   |nil=>exact .refl _
   |cons r rs ih=>
    rw[MA,List.flatten_cons,List.flatten_cons];exact(dF r).append ih
  refine(p1 _).trans ((List.perm_ext_iff_of_nodup nd (wK n)).mpr fun x=>?_);rw[uI];constructor
  .intro h
   obtain⟨r,hr,hx⟩:=List.mem_flatten.mp h;exact((gN o).2.1 r hr).2.2 x hx
  .rintro⟨h1,h2⟩
   exact yN o h1 h2
def LU(H H':Hp)(q:MY)(S:List (List Int)):Prop:=∃ws,H q=none/\H' q=some (.lst ws)/\bX H' ws S/\fB H ws/\V.ref q∉ws
def FC:Sp:=fun vs H Q _=>∃(t:MY)(n:Int)(xs:List Int),vs=[.ref t]/\H t=some (.tup (xs.map V.int))/\Ord n xs/\n<=12/\∀q H',LU H H' q (jT n xs)->ah H H'->Q (.ref q) H'
theorem Bx{H:Hp}{vs:List V}{n:Int}{Ls:List (List Int)}{hs:List Int}(x:bX H vs Ls)(s:Lx n Ls hs):Kv H vs hs:=by
 have wl:=x.length;refine⟨by rw[s.hl,wl],fun i a c h1 h2=>?_,fun i v a hv ha=>?_⟩
 .obtain⟨l1,e1⟩:=List.getElem?_eq_some_iff.mp h1
  obtain⟨l2,e2⟩:=List.getElem?_eq_some_iff.mp h2;have:=List.pairwise_iff_getElem.mp s.Mi i (i+1) l1 l2 (by lia);rw[e1,e2]at this;exact this
 .obtain⟨b,ns,rfl,hb,hn⟩:=x.get hv
  exact⟨b,ns,rfl,hb,s.head i ns a hn ha⟩
structure KC(P:M0)(w:M3)(K:W.Frag)(mg:Str->Option MX)(base:Nc):Prop extends T1 mg K where
 cB:mg "sorted" =none
 tQ:FnAt P w K mg base "rounds" 3 ["order"] fR
section
variable{P:M0}{w:M3}{K:W.Frag}{mg:Str->Option MX}{base:Nc}
theorem sY:aA ["order"] ["order"] (ar (top 72)):=⟨rfl,rfl,rfl,by decide+kernel,rfl,by decide+kernel,by decide+kernel⟩
theorem Hv{f:MY}{fd:Nb}(F:dO K "shared_by" "shared_by" (top 72) f fd)(T:KC P w K mg base):aR P w K mg base gh 4 f fd ["order"] FC:=by
 refine F.ok sY (fun vs H Q E h=>?_) (fun cdv A outer s H vs Q E hr h=>?_)
 .obtain⟨t,n,xs,rfl,_⟩:=h
  rfl
 .obtain⟨t,n,xs,rfl,ht,o,n12,k⟩:=h
  refine⟨_,(aj (ay (ak (kZ (K:=K) rfl hr.units) rfl T.cB (by decide+kernel) (aa (bw (N:=(["found"]:List Str)) (ix:=([none]:List (Option Nat))) (aT rfl rfl) rfl (a6 (K:=K) rfl (au T.tQ (hr.mono (by first|decide|lia)) rfl (aa (pv 0) af))) (fun _ _ _ _=>(aw (i:=0) (show List.Nodup (["found"]:List Str)from by decide+kernel) rfl (Or.inl rfl))) (fun _ _ _ _=>bc) (fun _ _ _ _=>(ak (jg (K:=K) rfl) rfl T.cB (by decide+kernel) (aa (pv 0) af)))) af)))),?_⟩;have rf:=gN o;have sf:=vg o;refine⟨_,rfl,t,n,xs,rfl,ht,o,by lia,fun l ws H1 fl hl xl frl nl s1=>?_⟩;have wl:=xl.length;have rl:=rf.2.2;refine⟨l,rfl,⟨_,aJ.of hl⟩,jU (K:=K) (a:=l) (xs:=ws) (k:=0) (fun i ys σ' H'=>(∃v,σ'=[v])/\bX H' ys ((jT n xs).take i)/\fB H ys/\ah H1 H') (by lia) ⟨⟨none,rfl⟩,.nil,fB.nil,ah.refl _⟩ (fun i ys σ' H' _ z=>aJ.of (z.2.2.2 _ _ hl)) (fun i ys σ' H' z=>by have:=z.2.1.length;rw[MB]at this;lia) ?_ ?_⟩
  .rintro i ys σ' H2 x R hx ⟨⟨v,rfl⟩,xy,fy,s2⟩ done
   obtain⟨b,r,rfl,hb,hr2⟩:=(xl.keep s2).get hx;have rb:=(rf.2.1 r (MF hr2)).2.1;refine⟨_,rfl,b,r,rfl,aJ.of hb,by lia,fun lc r' flc pm pw=>done _ _ _ ⟨⟨_,rfl⟩,?_,fy.snoc xy flc ((s1.trans s2).free flc),s2.trans (ah.new flc)⟩⟩;have e:=yT pm pw;have ht:(jT n xs)[i]?=some r':=by unfold jT;rw[Mv,hr2,e];rfl
   rw[take_snoc ht];exact(xy.keep (ah.new flc)).snoc ae
  .rintro ys σ' H2 q ⟨_,xy,fy,s2⟩ fq
   have sl:(jT n xs).length=(bT n xs).length:=by unfold jT;rw[Mu]
   rw[MI (by lia)]at xy;have yl:=xy.length;have s3:ah H2 (upd H2 q (.lst ys)):=ah.new fq;have h3:upd H2 q (.lst ys) q=some (.lst ys):=ae;generalize upd H2 q (.lst ys)=H3 at s3 h3⊢;have xy3:=xy.keep s3;refine⟨q,ys,_,rfl,aJ.of h3,by lia,Bx xy3 sf,fun l2 f2=>?_⟩;have S:=s1.trans (s2.trans s3);refine k l2 _ ⟨ys,S.free f2,ae,xy3.keep (ah.new f2),fy,fun z=>?_⟩ (S.trans (ah.new f2));obtain⟨o',e⟩:=xy3.mem z;rw[f2]at e;cases e
end
section
variable{P:M0}{w:M3}{K:W.Frag}{mg:Str->Option MX}{base:Nc}
theorem uY:aA ["thing"] ["thing"] (ar (top 15)):=⟨rfl,rfl,rfl,by decide+kernel,rfl,by decide+kernel,by decide+kernel⟩
theorem Ie{f:MY}{fd:Nb}(F:dO K "is_whole" "is_whole" (top 15) f fd)(T:T1 mg K):aR P w K mg base gh 1 f fd ["thing"] Gg:=by
 refine F.ok uY (fun vs H Q E h=>?_) (fun cdv A outer s H vs Q E hr h=>?_)
 .obtain⟨v,P,d,rfl,_⟩:=h
  rfl
 .obtain⟨v,P,d,rfl,hd,k⟩:=h
  refine⟨_,(aj (ay (xj (ak (gH (K:=K) rfl) rfl T.aM (by decide+kernel) (aa (pv 0) (aa (jy (v:= .ty "int") rfl T.yP (by decide+kernel) rfl) af))) (rC (Ih (ak (gH (K:=K) rfl) rfl T.aM (by decide+kernel) (aa (pv 0) (aa (jy (v:= .ty "bool") rfl T.Cv (by decide+kernel) rfl) af)))))))),?_⟩;refine⟨_,rfl,_,_,"int",_,rfl,hd.ty,E1 K hd,_,rfl,cN (fun c=>?_) (fun c=>?_)⟩
  .refine⟨_,rfl,_,_,"bool",_,rfl,hd.ty,BP K hd,_,rfl,?_⟩
   cases hd<;>first|exact k|exact absurd c MU
  .cases hd<;>first|exact k|exact absurd rfl c
theorem pJ:aA ["thing","low","high"] ["thing","low","high"] (ar (top 16)):=⟨rfl,rfl,rfl,by decide+kernel,rfl,by decide+kernel,by decide+kernel⟩
theorem Bz{f:MY}{fd:Nb}(F:dO K "is_between" "is_between" (top 16) f fd)(T:TD P w K mg base):aR P w K mg base gh 2 f fd ["thing","low","high"] FD:=by
 refine F.ok pJ (fun vs H Q E h=>?_) (fun cdv A outer s H vs Q E hr h=>?_)
 .obtain⟨v,P,d,lo,hi,rfl,_⟩:=h
  rfl
 .obtain⟨v,P,d,lo,hi,rfl,hd,k⟩:=h
  refine⟨_,(aj (ay (xj (au T.o3 (hr.mono (by first|decide|lia)) rfl (aa (pv 0) af)) (rC (AZ t8 t8 (pv 1) (pv 0) (pv 2)))))),?_⟩;refine⟨_,rfl,v,P,d,rfl,hd,_,rfl,?_⟩
  cases hd with
  |int x=>
   refine uv ?_;refine⟨_,rfl,_,rfl,_,_,rfl,rfl,_,rfl,cN (fun c=>?_) (fun c=>?_)⟩
   .have c:lo<=x:=of_decide_eq_true c
    have e:vH lo hi (.int x)=decide (x<=hi):=by show decide (lo<=x/\x<=hi)=_;rw[Bool.eq_iff_iff];simp[c]
    rw[e]at k;exact⟨_,rfl,_,_,rfl,rfl,k⟩
   .have c:¬lo<=x:=of_decide_eq_false (by simpa using c)
    have e:vH lo hi (.int x)=false:=by show decide (lo<=x/\x<=hi)=_;simp[c]
    rw[e]at k;exact k
  |_=>exact xb k
theorem oB:aA ["n","thing"] ["n","thing"] (ar (top 30)):=⟨rfl,rfl,rfl,by decide+kernel,rfl,by decide+kernel,by decide+kernel⟩
theorem Ek{f:MY}{fd:Nb}(F:dO K "is_exchange" "is_exchange" (top 30) f fd)(T:LM P w K mg base):aR P w K mg base gh 4 f fd ["n","thing"] Bg:=by
 refine F.ok oB (fun vs H Q E h=>?_) (fun cdv A outer s H vs Q E hr h=>?_)
 .obtain⟨v,P,d,n,rfl,_⟩:=h
  rfl
 .obtain⟨v,P,d,n,rfl,hd,k⟩:=h
  refine⟨_,(ag (a8 (PW.pt (jK (eZ (fe (ak (gH (K:=K) rfl) rfl T.aM (by decide+kernel) (aa (pv 1) (aa (jy (v:= .ty "tuple") rfl T.cu (by decide+kernel) rfl) af))))) (hV (ax iH (ak (aL (K:=K) rfl) rfl T.bE (by decide+kernel) (aa (pv 1) af)) ai (aG _))))) (aj (ay jM)) aE)
   (aj (ay (xj (ak (lT (K:=K) rfl rfl) rfl T.yj (by decide+kernel) (aa (bw (N:=(["number","n"]:List Str)) (ix:=([none,some 0]:List (Option Nat))) (aT rfl rfl) rfl (xN (K:=K) rfl (pv 1)) (fun _ _ _ _=>(aw (i:=0) (show List.Nodup (["number","n"]:List Str)from by decide+kernel) rfl (Or.inl rfl))) (fun _ _ _ _=>bc) (fun _ _ _ _=>(au T.dW (hr.mono (by first|decide|lia)) rfl (@aa _ _ _ _ _ (pv 0) (@aa _ _ _ _ _ ai (@aa _ _ _ _ _ (pv 1) af bt) lI) bt)))) af)) (rC (rW oK (aU (ju (K:=K) rfl) (pv 1) ai (fun _ _=>rfl)) (aU (ju (K:=K) rfl) (pv 1) ai (fun _ _=>rfl)) (aG _))))))),?_⟩
  refine⟨_,rfl,_,_,"tuple",_,rfl,hd.ty,kit_tuple K hd,_,rfl,?_⟩
  cases hd with
  | @tup a us ds ha pa rs=>
   refine xb ?_;have ul:=rs.length;refine⟨_,rfl,a,_,rfl,.inr (dI.of ha),rfl,_,rfl,cN (fun c=>?_) (fun c=>?_)⟩
   .have c:ds.length≠2:=by
     intro z;rw[ul,z]at c;exact absurd c (by decide)
    have e:rH n (.tuple ds)=false:=by
     match ds,c with
     |[],_=>rfl
     |[_],_=>rfl
     |[_,_],c=>exact absurd rfl c
     |_::_::_::_,_=>rfl
    rw[e]at k;exact k H (ah.refl H)
   .have c:ds.length=2:=by
     apply Classical.byContradiction;intro z;have:decide (V.int (us.length:Int)=V.int 2)=false:=decide_eq_false (by intro q;have:=V.int.inj q;lia);rw[this]at c;exact absurd rfl c
    match ds,us,rs,c with
    |[x,y],[vx,vy],.cons hx (.cons hy .nil),_=>
     refine⟨_,rfl,a,rfl,⟨_,dI.of ha⟩,Fp (K:=K) (a:=a) (xs:=[vx,vy]) (k:=0) (fun i ys σ' H'=>ys=(([x,y].take i).map (vH 1 n)).map V.bl/\(∃v,σ'=[v,some (.int n)])/\H'=H) (by show 2<=1000000;decide) ⟨rfl,⟨none,rfl⟩,rfl⟩ (fun i ys σ' H' _ q=>by rw[q.2.2];exact dI.of ha) (fun i ys σ' H' q=>by rw[q.1,Mu,Mu,MB];lia) ?_ ?_⟩
     .rintro i ys σ' H' z R hz ⟨rfl,⟨v,rfl⟩,rfl⟩ done
      obtain⟨d,hd,hdz⟩:=(rS.cons hx (rS.cons hy rS.nil)).get hz;refine⟨_,rfl,_,rfl,z,P,d,1,n,rfl,hdz,done _ _ _ ⟨?_,⟨_,rfl⟩,rfl⟩⟩;rw[ui hd,My];rfl
     .rintro ys σ' H' q ⟨rfl,⟨v,rfl⟩,rfl⟩ fq
      have s1:ah H' (upd H' q (.lst (([x,y].map (vH 1 n)).map V.bl))):=ah.new fq;refine⟨q,[x,y].map (vH 1 n),rfl,aJ.of ae,_,rfl,cN (fun c2=>?_) (fun c2=>?_)⟩
      .have c2:vH 1 n x=true/\vH 1 n y=true:=by simpa using c2
       refine⟨_,rfl,a,_,_,_,rfl,rfl,dI.of (s1 _ _ ha),rfl,_,rfl,a,_,_,_,rfl,rfl,dI.of (s1 _ _ ha),rfl,?_⟩
       cases hx with
       |int i=>
        cases hy with
        |int j=>
         have e:rH n (.tuple [.int i,.int j])=decide (i<j):=by show((vH 1 n (.int i)&&vH 1 n (.int j))&&decide (i<j))=_;rw[c2.1,c2.2];rfl
         rw[e]at k;exact⟨_,_,rfl,rfl,k _ s1⟩
        |_=>exact absurd c2.2 MU
       |_=>exact absurd c2.1 MU
      .have e:rH n (.tuple [x,y])=false:=by
        show((vH 1 n x&&vH 1 n y)&&Ly x y)=false;have:(vH 1 n x&&vH 1 n y)=false:=by simpa using c2
        rw[this];rfl
       rw[e]at k;exact k _ s1
  |_=>exact uv (k H (ah.refl H))
theorem zy:aA ["n","thing"] ["n","thing"] (ar (top 31)):=⟨rfl,rfl,rfl,by decide+kernel,rfl,by decide+kernel,by decide+kernel⟩
theorem AW{u:MX}{f:MY}{fd:Nb}(F:dO K "is_row" "is_row" (top 31) f fd)(T:LJ P w K mg base u):aR P w K mg base gh 6 f fd ["n","thing"] xH:=by
 refine F.ok zy (fun vs H Q E h=>?_) (fun cdv A outer s H vs Q E hr h=>?_)
 .obtain⟨v,P,d,n,rfl,_⟩:=h
  rfl
 .obtain⟨v,P,d,n,rfl,hd,hlen,k⟩:=h
  refine⟨_,(ag (a8 (PW.pt (jK (eZ (fe (ak (gH (K:=K) rfl) rfl T.aM (by decide+kernel) (aa (pv 1) (aa (jy (v:= .ty "list") rfl T.o7 (by decide+kernel) rfl) af))))) (hV (ax jS (ak (aL (K:=K) rfl) rfl T.bE (by decide+kernel) (aa (pv 1) af)) (dR rfl T.cE T.cG) (aG _))))) (aj (ay jM)) aE)
   (aj (ay (ak (lT (K:=K) rfl rfl) rfl T.yj (by decide+kernel) (aa (bw (N:=(["exchange","n"]:List Str)) (ix:=([none,some 0]:List (Option Nat))) (aT rfl rfl) rfl (a6 (K:=K) rfl (pv 1)) (fun _ _ _ _=>(aw (i:=0) (show List.Nodup (["exchange","n"]:List Str)from by decide+kernel) rfl (Or.inl rfl))) (fun _ _ _ _=>bc) (fun _ _ _ _=>(au T.jN (hr.mono (by first|decide|lia)) rfl (aa (pv 1) (aa (pv 0) af))))) af))))),?_⟩
  refine⟨_,rfl,_,_,"list",_,rfl,hd.ty,Bd K hd,_,rfl,?_⟩
  cases hd with
  | @lst a us ds ha pa rs=>
   refine xb ?_;have ul:=rs.length;have dl:=hlen ds rfl;refine⟨_,rfl,a,_,rfl,.inl (aJ.of ha),_,_,rfl,rfl,_,rfl,cN (fun c=>?_) (fun c=>?_)⟩
   .have c:60<us.length:=by have:=of_decide_eq_true c;lia
    have e:uz n (.list ds)=false:=by
     show(decide (ds.length<=60)&&_)=false;rw[decide_eq_false (by lia)];rfl
    rw[e]at k;exact k H (ah.refl H)
   .have c:us.length<=60:=by
     apply Classical.byContradiction;intro z;have:decide ((60:Int)<(us.length:Int))=true:=decide_eq_true (by lia);exact c this
    refine⟨_,rfl,a,rfl,⟨_,aJ.of ha⟩,jU (K:=K) (a:=a) (xs:=us) (k:=0) (fun i ys σ' H'=>ys=((ds.take i).map (rH n)).map V.bl/\(∃v,σ'=[v,some (.int n)])/\ah H H') (by lia) ⟨rfl,⟨none,rfl⟩,ah.refl _⟩ (fun i ys σ' H' _ q=>aJ.of (q.2.2 _ _ ha)) (fun i ys σ' H' q=>by rw[q.1,Mu,Mu,MB];lia) ?_ ?_⟩
    .rintro i ys σ' H' z R hz ⟨rfl,⟨v,rfl⟩,s1⟩ done
     obtain⟨d,hd,hdz⟩:=rs.get hz;refine⟨_,rfl,_,rfl,z,P,d,n,rfl,DT.same hdz s1,fun H2 s2=>done _ _ _ ⟨?_,⟨_,rfl⟩,s1.trans s2⟩⟩;rw[ui hd,My];rfl
    .rintro ys σ' H' q ⟨rfl,⟨v,rfl⟩,s1⟩ fq
     rw[MI (by lia)];refine⟨q,ds.map (rH n),rfl,aJ.of ae,?_⟩;have e:uz n (.list ds)=(ds.map (rH n)).all id:=by
      show(decide (ds.length<=60)&&ds.all (rH n))=_;rw[decide_eq_true (by lia),List.all_map];rfl
     rw[e]at k;exact k _ (s1.trans (ah.new fq))
  |_=>exact uv (k H (ah.refl H))
end
theorem fE{i:Int}(h0:0<=i)(h9:i<10^9):i.natAbs.log2<1920:=by
 by_cases hz:i.natAbs=0
 .rw[hz];decide
 .rw[Nat.log2_lt hz]
  have h1:i.natAbs<2^30:=by lia
  exact MQ h1 (Nat.pow_le_pow_right (by decide) (by decide))
theorem dD.JD {H:Hp}:∀{vs:List V}{r:List (Int×Int)},dD H vs r->rS H (fun _=>True) vs (r.map fun e=>PyData.tuple [.int e.1,.int e.2])
 |_,_,.nil=> .nil
 |_,_,.cons h x=> .cons (.tup h trivial (.cons (.int _) (.cons (.int _) .nil))) x.JD
theorem vQ{n:Int}{row:List (Int×Int)}(hg:Good n row)(h60:row.length<=60):uz n (.list (row.map fun e=>PyData.tuple [.int e.1,.int e.2]))=true:=by
 unfold uz;rw[Bool.and_eq_true,Mu,List.all_map,List.all_eq_true];refine⟨decide_eq_true h60,fun e he=>?_⟩;have g:=hg e he;show((decide (1<=e.1/\e.1<=n)&&decide (1<=e.2/\e.2<=n))&&decide (e.1<e.2))=true;rw[decide_eq_true (by lia),decide_eq_true (by lia),decide_eq_true (by lia)];rfl
def wa:Sp:=fun vs H Q _=>∃(i:Int),vs=[.str (aH i)]/\0<=i/\i<10^9/\Q (.int i) H
def B1:Sp:=fun vs H Q _=>∃(x:Str),vs=[.str x]/\Q .de H
structure Ku(mg:Str->Option MX)(K:W.Frag)(u:MX):Prop extends T1 mg K where
 dX:mg "str" =none
 ja:mg "MOST_FIGURES" =some u
 jk:RelV (.int 9) u
section
variable{P:M0}{w:M3}{K:W.Frag}{mg:Str->Option MX}{base:Nc}{u:MX}
theorem ow:aA ["word"] ["word"] (ar (top 81)):=⟨rfl,rfl,rfl,by decide+kernel,rfl,by decide+kernel,by decide+kernel⟩
theorem Be{f:MY}{fd:Nb}(F:dO K "read_number" "read_number" (top 81) f fd)(T:Ku mg K u):aR P w K mg base gh 1 f fd ["word"] wa:=by
 refine F.ok ow (fun vs H Q E h=>?_) (fun cdv A outer s H vs Q E hr h=>?_)
 .obtain⟨i,rfl,_⟩:=h
  rfl
 .obtain⟨i,rfl,i0,i9,k⟩:=h
  refine⟨_,(ag (a8 (PW.pt (jK (eZ (fe (yt (K:=K) rfl PySem.F.plainAttrs_str PySem.F.slot_str_isascii PySem.F.type_str_isascii wV (pv 0)))) (jK (eZ (fe (yt (K:=K) rfl PySem.F.plainAttrs_str PySem.F.slot_str_isdigit PySem.F.type_str_isdigit vN (pv 0)))) (hV (ax jS (ak lj rfl T.bE (by decide+kernel) (aa (pv 0) af)) (dR rfl T.ja T.jk) (aG _)))))) (aj kI) aE)
   (ag (a8 (PW.pt (mL (ax iH (pv 0) aK (aG _)) (jx (fe (bZ (K:=K) rfl PySem.F.plainAttrs_str PySem.F.slot_str_startswith PySem.F.type_str_startswith z5 (pv 0) (aa aK af)))))) (aj kI) aE)
   (aj (ay (aF pK rfl T.yP (by decide+kernel) (aa (pv 0) af)))))),?_⟩
  have big:(10000000:Nat)<=M5:=by decide
  have nl:=dC i0 i9;refine⟨_,rfl,rfl,_,rfl,rfl,_,rfl,gG (by rw[zO i0];rfl) ?_⟩;refine⟨_,rfl,rfl,_,rfl,rfl,_,rfl,gG (by rw[tZ i0];rfl) ?_⟩;refine⟨_,rfl,_,rfl,by lia,_,_,rfl,rfl,_,rfl,gG (decide_eq_false (by lia)) ?_⟩;refine⟨_,rfl,rfl,_,rfl,?_⟩;have fin:CJ (GL Gf (dN (gY 0) iO)) {nx:=fun x H'=>Q V.de H',rt:=Q} (L2.start [Mt "word"] [V.str (aH i)]) H:=⟨_,rfl,_,i,rfl,sM i0 (by lia),by lia,k⟩;by_cases hz:i=0
  .subst hz
   refine gG (by decide+kernel) ?_;exact fin
  .have nz:Txt.startswith (aH i) (Mt "0")=false:=wJ (by lia)
   refine cN (fun _=>?_) (fun _=>?_)
   .exact⟨_,rfl,rfl,_,_,rfl,rfl,_,rfl,gG nz fin⟩
   .exact fin
theorem p6:aA ["thing"] ["thing"] (ar (top 80)):=⟨rfl,rfl,rfl,by decide+kernel,rfl,by decide+kernel,by decide+kernel⟩
theorem EZ{f:MY}{fd:Nb}(F:dO K "check_text" "check_text" (top 80) f fd)(T:Ku mg K u):aR P w K mg base gh 1 f fd ["thing"] B1:=by
 refine F.ok p6 (fun vs H Q E h=>?_) (fun cdv A outer s H vs Q E hr h=>?_)
 .obtain⟨x,rfl,_⟩:=h
  rfl
 .obtain⟨x,rfl,k⟩:=h
  refine⟨_,(aj (a8 (eZ (fe (ak (gH (K:=K) rfl) rfl T.aM (by decide+kernel) (aa (pv 0) (aa (jy (v:= .ty "str") rfl T.dX (by decide+kernel) rfl) af))))) (aj kI) aE)),?_⟩;refine⟨_,rfl,_,_,"str",_,rfl,jX.str x,A4 _ _,true,rfl,xb ?_⟩;exact k
def qF:Sp:=fun vs H Q _=>∃(n:Int)(row:List (Int×Int)),vs=[.int n,.str (kU row)]/\Good n row/\n<10^9/\row.length<=60/\∀l es H',H l=none->H' l=some (.lst es)->dD H' es row->ah H H'->Q (.ref l) H'
structure Lv(P:M0)(w:M3)(K:W.Frag)(mg:Str->Option MX)(base:Nc):Prop extends T1 mg K where
 kD:FnAt P w K mg base "check_text" 1 ["thing"] B1
 dQ:FnAt P w K mg base "read_number" 1 ["word"] wa
 um:FnAt P w K mg base "is_row" 6 ["n","thing"] xH
theorem mV:aA ["n","text","row"] ["n","text"] (ar (top 85)):=⟨rfl,rfl,rfl,by decide+kernel,rfl,by decide+kernel,by decide+kernel⟩
theorem wk{f:MY}{fd:Nb}(F:dO K "read_row" "read_row" (top 85) f fd)(T:Lv P w K mg base):aR P w K mg base gh 7 f fd ["n","text"] qF:=by
 refine F.ok mV (fun vs H Q E h=>?_) (fun cdv A outer s H vs Q E hr h=>?_)
 .obtain⟨n,row,rfl,_⟩:=h
  rfl
 .obtain⟨n,row,rfl,hg,n9,h60,k⟩:=h
  refine⟨_,(ag (cZ (au T.kD (hr.mono (by first|decide|lia)) rfl (aa (pv 1) af)))
   (ag (a8 (ax cR (pv 1) aK (aG _)) (aj (ay (bu af))) aE)
   (ag (gX (i:=2) mV.nd rfl rfl (N:=(["pair"]:List Str)) (ix:=([none]:List (Option Nat))) (aT rfl rfl) rfl (a6 (K:=K) rfl (bZ (K:=K) rfl PySem.F.plainAttrs_str PySem.F.slot_str_split PySem.F.type_str_split oP (pv 1) (aa aK af))) (fun _ _ _ _=>(aw (i:=0) (show List.Nodup (["pair"]:List Str)from by decide+kernel) rfl (Or.inl rfl))) (fun _ _ _ _=>bc) (fun _ _ _ _=>(aF (bo (K:=K) rfl) rfl T.cu (by decide+kernel) (aa (bw (N:=(["word"]:List Str)) (ix:=([none]:List (Option Nat))) (aT rfl rfl) rfl (a6 (K:=K) rfl (bZ (K:=K) rfl PySem.F.plainAttrs_str PySem.F.slot_str_split PySem.F.type_str_split oP (pv 0) (aa aK af))) (fun _ _ _ _=>(aw (i:=0) (show List.Nodup (["word"]:List Str)from by decide+kernel) rfl (Or.inl rfl))) (fun _ _ _ _=>bc) (fun _ _ _ _=>(au T.dQ (hr.mono (by first|decide|lia)) rfl (aa (pv 0) af)))) af))))
   (ag (a8 (eZ (fe (au T.um (hr.mono (by first|decide|lia)) rfl (aa (pv 0) (aa (pv 2) af))))) (aj kI) aE)
   (aj (ay (pv 2))))))),?_⟩
  have big:(10000000:Nat)<=M5:=by decide
  have hs:∀e∈row,0<=e.1/\0<=e.2:=fun e he=>by have:=hg e he;lia
  refine⟨_,rfl,_,rfl,?_⟩;refine⟨_,rfl,rfl,_,rfl,?_⟩;by_cases hz:row=[]
  .subst hz
   refine lJ (by decide+kernel) ?_;exact⟨MT _,fun l hl=>k l [] _ hl ae .nil (ah.new hl)⟩
  .have ne:=iV hz hs
   refine gG (decide_eq_false (by intro z;injection z with z;exact ne z)) ?_;have rl:=B8 h60 fun e he=>by have:=hg e he;lia
   refine⟨_,rfl,rfl,_,_,rfl,rfl,by decide+kernel,by lia,fun l1 f1=>⟨l1,rfl,⟨_,aJ.of ae⟩,?_⟩⟩;rw[hG hz hs];have s1:ah H (upd H l1 (.lst ((row.map jd).map V.str))):=ah.new f1;have h1:upd H l1 (.lst ((row.map jd).map V.str)) l1=some (.lst ((row.map jd).map V.str)):=ae;generalize upd H l1 (.lst ((row.map jd).map V.str))=H1 at s1 h1⊢;have ll:((row.map jd).map V.str).length=row.length:=by rw[Mu,Mu]
   refine jU (K:=K) (a:=l1) (xs:=(row.map jd).map V.str) (k:=0) (fun i ys σ' H'=>(∃v0,σ'=[v0])/\ah H1 H'/\dD H' ys (row.take i)) (by lia) ⟨⟨none,rfl⟩,ah.refl _,.nil⟩ (fun i ys σ' H' _ q=>aJ.of (q.2.1 _ _ h1)) (fun i ys σ' H' q=>by have:=q.2.2.length;rw[MB]at this;lia) ?_ ?_
   .rintro i ys σ' H2 x R hx ⟨⟨v0,rfl⟩,s2,x2⟩ done
    obtain⟨⟨a,b⟩,hab,rfl⟩:∃e,row[i]?=some e/\V.str (jd e)=x:=by
     rw[Mv,Mv]at hx
     cases e:row[i]? with
     |none=>rw[e]at hx;cases hx
     |some e'=>rw[e]at hx;exact⟨e',rfl,MV hx⟩
    have g:=hg (a,b) (MF hab);dsimp only at g;have el:=rY (a:=a) (b:=b) (by lia) (by lia) (by lia) (by lia);refine⟨_,rfl,rfl,_,_,rfl,rfl,by decide+kernel,by lia,fun l2 f2=>⟨l2,rfl,⟨_,aJ.of ae⟩,?_⟩⟩;rw[AK (by lia) (by lia)];have s3:ah H2 (upd H2 l2 (.lst ([aH a,aH b].map V.str))):=ah.new f2;have h3:upd H2 l2 (.lst ([aH a,aH b].map V.str)) l2=some (.lst ([aH a,aH b].map V.str)):=ae;generalize upd H2 l2 (.lst ([aH a,aH b].map V.str))=H3 at s3 h3⊢;refine jU (K:=K) (a:=l2) (xs:=[aH a,aH b].map V.str) (k:=0) (fun j ys' σ'' H'=>(∃v0,σ''=[v0])/\H'=H3/\ys'=([a,b].take j).map V.int) (by show 2<=1000000;decide) ⟨⟨none,rfl⟩,rfl,rfl⟩ (fun j ys' σ'' H' _ q=>by rw[q.2.1];exact aJ.of h3) (fun j ys' σ'' H' q=>by rw[q.2.2,Mu,MB];lia) ?_ ?_
    .rintro j ys' σ'' H' x' R' hx' ⟨⟨v0,rfl⟩,rfl,rfl⟩ done'
     obtain⟨z,hz',rfl⟩:∃z,[a,b][j]?=some z/\V.str (aH z)=x':=by
      match j,hx' with
      |0,h=>exact⟨a,rfl,MV h⟩
      |1,h=>exact⟨b,rfl,MV h⟩
      |j+2,h=>simp at h
     have zb:0<=z/\z<10^9:=by
      have:z∈[a,b]:=MF hz';rcases List.mem_cons.mp this with rfl|this
      .lia
      .rw[List.mem_singleton.mp this];lia
     refine⟨_,rfl,z,rfl,zb.1,zb.2,done' _ _ _ ⟨⟨_,rfl⟩,rfl,?_⟩⟩;rw[bh V.int hz']
    .rintro ys' σ'' H' q ⟨⟨v0,rfl⟩,e0,rfl⟩ fq
     have e0:=e0.symm;subst e0;refine⟨q,_,rfl,.inl ⟨aJ.of ae,fun t ft=>?_⟩⟩;have s4:ah H3 (upd H3 q (.lst [V.int a,V.int b])):=ah.new fq;have s5:ah (upd H3 q (.lst [V.int a,V.int b])) (upd (upd H3 q (.lst [V.int a,V.int b])) t (.tup [V.int a,V.int b])):=ah.new ft;have s6:=s3.trans (s4.trans s5);refine done _ _ _ ⟨⟨_,rfl⟩,s2.trans s6,?_⟩;rw[MO,hab];exact(x2.keep (ah.bH s6)).snoc ae
   .rintro ys σ' H2 q ⟨⟨v0,rfl⟩,s2,x2⟩ fq
    rw[MI (by lia)]at x2;have s3:ah H2 (upd H2 q (.lst ys)):=ah.new fq;have x3:=x2.keep (ah.bH s3);have s13:=s1.trans (s2.trans s3);have h3:upd H2 q (.lst ys) q=some (.lst ys):=ae;have fq0:H q=none:=(s1.trans s2).free fq;generalize upd H2 q (.lst ys)=H3 at s3 x3 s13 h3⊢;refine⟨_,rfl,_,rfl,.ref q,(fun _=>True),.list (row.map fun e=>PyData.tuple [.int e.1,.int e.2]),n,rfl,.lst h3 trivial x3.JD,fun ds e=>?_,fun H4 s4=>⟨_,rfl,gG ?_ ?_⟩⟩
    .injection e with e
     rw[←e,Mu];lia
    .rw[vQ hg h60];rfl
    .exact⟨_,rfl,k q ys H4 fq0 (s4 _ _ h3) (x3.keep (ah.bH s4)) (s13.trans s4)⟩
end
def tW:Sp:=fun vs H Q _=>∃(l:MY)(r:List Int),vs=[.ref l]/\H l=some (.lst (r.map V.int))/\r.length<=20/\(∀x∈r,0<=x/\x<10^9)/\∀H',ah H H'->Q (.str (zk r)) H'
section
variable{P:M0}{w:M3}{K:W.Frag}{mg:Str->Option MX}{base:Nc}{u:MX}{C:MY}
theorem n8:aA ["things"] ["things"] (ar (top 76)):=⟨rfl,rfl,rfl,by decide+kernel,rfl,by decide+kernel,by decide+kernel⟩
theorem zX{f:MY}{fd:Nb}(F:dO K "show_things" "show_things" (top 76) f fd)(T:Ku mg K u):aR P w K mg base gh 1 f fd ["things"] tW:=by
 refine F.ok n8 (fun vs H Q E h=>?_) (fun cdv A outer s H vs Q E hr h=>?_)
 .obtain⟨l,r,rfl,_⟩:=h
  rfl
 .obtain⟨l,r,rfl,hl,h20,hs,k⟩:=h
  refine⟨_,(aj (ay (bZ (K:=K) rfl PySem.F.plainAttrs_str PySem.F.slot_str_join PySem.F.type_str_join (ic (K:=K) rfl) aK (aa (bw (N:=(["thing"]:List Str)) (ix:=([none]:List (Option Nat))) (aT rfl rfl) rfl (a6 (K:=K) rfl (pv 0)) (fun _ _ _ _=>(aw (i:=0) (show List.Nodup (["thing"]:List Str)from by decide+kernel) rfl (Or.inl rfl))) (fun _ _ _ _=>bc) (fun _ _ _ _=>(aF bJ rfl T.dX (by decide+kernel) (aa (pv 0) af)))) af)))),?_⟩;refine⟨rfl,_,rfl,l,rfl,⟨_,aJ.of hl⟩,jU (K:=K) (a:=l) (xs:=r.map V.int) (k:=0) (fun i ys σ' H'=>ys=((r.take i).map aH).map V.str/\(∃v0,σ'=[v0])/\H'=H) (by rw[Mu];lia) ⟨rfl,⟨none,rfl⟩,rfl⟩ (fun i ys σ' H' _ q=>by rw[q.2.2];exact aJ.of hl) (fun i ys σ' H' q=>by rw[q.1,Mu,Mu,MB];lia) ?_ ?_⟩
  .rintro i ys σ' H' x R hx' ⟨rfl,⟨v0,rfl⟩,rfl⟩ done
   obtain⟨z,rfl,hz⟩:=ku hx';obtain⟨z0,z9⟩:=hs z (MF hz);refine⟨_,rfl,z,rfl,fE z0 z9,done _ _ _ ⟨?_,⟨_,rfl⟩,rfl⟩⟩;rw[bh aH hz,My];rfl
  .rintro ys σ' H' q ⟨rfl,⟨v0,rfl⟩,e0⟩ fq
   have e0:=e0.symm;subst e0;rw[MI (by rw[Mu];lia)];refine⟨_,q,r.map aH,rfl,rfl,aJ.of ae,cO (B:=9) (by decide+kernel) (fun y hy=>?_) (by decide) (by rw[Mu];lia),k _ (ah.new fq)⟩;obtain⟨z,hz,rfl⟩:=List.mem_map.mp hy;exact dC (hs z hz).1 (hs z hz).2
end
section
open PySem L2 PyProof.Rows
theorem su{a b:Int}(ha:0<=a)(hb:0<=b)(ha9:a<10^10)(hb9:b<10^10)(h:aH a=aH b):a=b:=by
 have h1:=sM ha ha9;rw[h,sM hb hb9]at h1;injection h1 with h1
 exact h1.symm
theorem split_le(x y:Str):(Txt.split x y).length<=x.length+2:=by
 unfold Txt.split
 split
 .simp
 .split
  .simp
  .have h:=StrLaws.occ_length_le x y 0 x.length (x.length+1)
   unfold Ni.Str.partsBetween;rw[Mu,List.length_zip,Mz,Mu,Mw,List.length_singleton];lia
theorem rj{z:Str}:∀{ts:List Str}{t:Str},t∈ts->t.length<=(Str.join z ts).length:=by
 intro ts t h;have key:∀{ts:List Str},t∈ts->t.length<=(Str.join z ts).length:=by
  intro ts
  induction ts with
  |nil=>intro h;cases h
  |cons a r ih=>
   intro h
   cases r with
   |nil=>
    rcases List.mem_cons.mp h with rfl|h
    .exact MP _
    .cases h
   |cons b r=>
    have e:Str.join z (a::b::r)=a++z++Str.join z (b::r):=rfl;rw[e,Str.length_append,Str.length_append];rcases List.mem_cons.mp h with rfl|h
    .lia
    .have:=ih h;lia
 exact key h
theorem pX{x y t:Str}(h:t∈Txt.split x y):t.length<=x.length:=by
 have:=rj (z:=y) h;rwa [StrLaws.join_split]at this
theorem jq(x:Str)(a b:Nat)(hb:b<=x.length):signs (Ni.Str.strSub x a b)=((signs x).drop a).take (b-a):=by
 unfold Ni.Str.strSub signs;rw[Array.toList_extract,List.extract_eq_take_drop]
theorem nV{x:Str}{c i:Nat}:StrLaws.At x ⟨#[c]⟩ x.length i↔(signs x)[i]?=some c:=by
 have h:=StrLaws.subAt_one x c i;unfold StrLaws.At;rw[h];exact Iff.rfl
theorem Ko{w:Str}{a b:Int}(ha:0<=a)(hb:0<=b)(h1:(Txt.partition w (Mt "-")).1=aH a)(h2:(Txt.partition w (Mt "-")).2.2=aH b):w=jd (a,b):=by
 have dash:Mt "-" =⟨#[45]⟩:=by decide+kernel
 rw[dash]at h1 h2;rcases partition_whole w ⟨#[45]⟩with⟨e,_⟩|⟨i,e,hat,_⟩
 .rw[e]at h2
  have:=sC hb;rw[←h2]at this;exact absurd this (Nat.lt_irrefl 0)
 .rw[e]at h1 h2
  have hi:=nV.mp hat;have il:=(List.getElem?_eq_some_iff.mp hi).1;have wl:=fJ w;apply dz;unfold jd;rw[cV,cV,←h1,←h2,dash];dsimp only;rw[jq w 0 i (by lia),jq w _ w.length (MP _)];show signs w=(((signs w).drop 0).take (i-0)++[45])++((signs w).drop (i+1)).take (w.length-(i+1));rw[List.drop_zero,Nat.sub_zero,MI (l:=(signs w).drop (i+1)) (by rw[List.length_drop];lia)];have e3:[45]++(signs w).drop (i+1)=(signs w).drop i:=by
   rw[List.drop_eq_getElem_cons il];have:=(List.getElem?_eq_some_iff.mp hi).2;rw[this];rfl
  rw[List.append_assoc,e3,List.take_append_drop]
theorem xG{a b:Int}(ha:0<=a)(hb:0<=b):Txt.partition (jd (a,b)) (Mt "-")=(aH a,Mt "-",aH b):=by
 have dash:Mt "-" =⟨#[45]⟩:=by decide+kernel
 have se:signs (jd (a,b))=signs (aH a)++45::signs (aH b):=by
  unfold jd;rw[cV,cV,dash,List.append_assoc];rfl
 have here:(signs (jd (a,b)))[(signs (aH a)).length]?=some 45:=by rw[se];simp
 have sl:=fJ (jd (a,b));rw[dash];rcases partition_whole (jd (a,b)) ⟨#[45]⟩with⟨e,no⟩|⟨i,e,hat,no⟩
 .exact absurd (nV.mpr here) (no _)
 .have hi:=nV.mp hat
  have ii:i=(signs (aH a)).length:=by
   rcases Nat.lt_trichotomy i (signs (aH a)).length with c|c|c
   .exfalso
    rw[se,List.getElem?_append_left c]at hi;exact iZ ha (c:=45) (by lia) (MF hi)
   .exact c
   .exact absurd (nV.mpr here) (no _ c)
  rw[e];refine Prod.ext (dz ?_) (Prod.ext rfl (dz ?_))
  .dsimp only
   rw[jq _ 0 i (by rw[se]at sl;rw[Mw,Mz]at sl;lia),se,ii];simp
  .dsimp only
   rw[jq _ _ _ (MP _),←sl,se,ii];have d:(signs (aH a)++45::signs (aH b)).drop ((signs (aH a)).length+1)=signs (aH b):=by
    rw[show signs (aH a)++45::signs (aH b)=(signs (aH a)++[45])++signs (aH b) by simp];exact List.drop_left' (by simp)
   show(List.drop ((signs (aH a)).length+1) _).take _=_;rw[d];refine MI ?_;rw[Mw,Mz];show _<=_-((signs (aH a)).length+1);lia
end
section
open PySem L2 PyProof.Rows
def Av(c d k:Nat):Nat:=if k=c then d else k
theorem nS(c d:Nat):∀{l:List Nat},c∉l->l.map (Av c d)=l
 |[],_=>rfl
 |k::r,h=>by
  rw[MA,nS c d (fun z=>h (MH _ z))];congr 1;exact if_neg fun(z:k=c)=>h (by rw[z];exact MG)
theorem rL(c d:Nat):∀{ps:List (List Nat)},(∀p∈ps,c∉p)->(glue c ps).map (Av c d)=glue d ps
 |[],_=>rfl
 |[p],h=>nS c d (h p MG)
 |p::q::r,h=>by
  have ih:=rL c d (ps:=q::r) fun a ha=>h a (MH _ ha);have e1:glue c (p::q::r)=p++c::glue c (q::r):=rfl;have e2:glue d (p::q::r)=p++d::glue d (q::r):=rfl;rw[e1,e2,My,MA,ih,nS c d (h p MG)];congr 2;exact if_pos rfl
theorem qA(x:Str)(c d:Nat):signs (Txt.replace x ⟨#[c]⟩ ⟨#[d]⟩)=(signs x).map (Av c d):=by
 have e:=StrLaws.join_split x ⟨#[c]⟩;have f:=StrLaws.split_free x c;rw[StrLaws.replace_one,cf]
 conv=>rhs;rw[←e]
 rw[cf,rL];intro p hp;obtain⟨q,hq,rfl⟩:=List.mem_map.mp hp;exact f q hq
theorem Jc:Mt " " =⟨#[32]⟩:=by decide+kernel
theorem Lq:Mt "," =⟨#[44]⟩:=by decide+kernel
def cm(x:Str):Str:=Txt.replace x (Mt " ") (Mt ",")
def bl(x:Str):Str:=Txt.replace x (Mt ",") (Mt " ")
theorem fQ(x:Str):signs (cm x)=(signs x).map (Av 32 44):=by unfold cm;rw[Jc,Lq];exact qA x 32 44
theorem Cc(x:Str):signs (bl x)=(signs x).map (Av 44 32):=by unfold bl;rw[Jc,Lq];exact qA x 44 32
theorem HX(x:Str):(cm x).length=x.length:=by rw[←fJ,fQ,Mu,fJ]
theorem xE{c d:Nat}:∀{l:List Nat},d∉l->(l.map (Av c d)).map (Av d c)=l
 |[],_=>rfl
 |k::r,h=>by
  rw[MA,MA,xE (fun z=>h (MH _ z))];congr 1;have:k≠d:=fun(z:k=d)=>h (by rw[z];exact MG);unfold Av;by_cases e:k=c
  .rw[if_pos e,if_pos rfl,e]
  .rw[if_neg e,if_neg this]
theorem JP{x:Str}(h:44∉signs x):bl (cm x)=x:=dz (by rw[Cc,fQ,xE h])
theorem Dh{x:Str}(h:32∉signs x):cm x=x:=dz (by rw[fQ,nS _ _ h])
theorem Kc(x:Str):32∉signs (cm x):=by
 rw[fQ];intro z;obtain⟨k,_,e⟩:=List.mem_map.mp z;unfold Av at e
 split at e
 .cases e
 .rename_i h;exact h e
theorem yB{ts:List Str}(h:∀t∈ts,32∉signs t):cm (Str.join (Mt " ") ts)=Str.join (Mt ",") ts:=by
 refine dz ?_;rw[fQ,Jc,Lq,cf,cf,rL];intro p hp;obtain⟨q,hq,rfl⟩:=List.mem_map.mp hp;exact h q hq
def jE(R:List (Int×Int)):Str:=if R=[]then Mt "none"else Str.join (Mt ",") (R.map jd)
theorem yf{R:List (Int×Int)}(h:∀e∈R,0<=e.1/\0<=e.2):cm (kU R)=jE R:=by
 unfold kU jE;by_cases c:R=[]
 .rw[if_pos (by rw[c];rfl),if_pos c]
  exact Dh (by decide+kernel)
 .rw[if_neg (by intro z;exact c (List.length_eq_zero_iff.mp z)),if_neg c]
  refine yB fun p hp=>?_;obtain⟨e,he,rfl⟩:=List.mem_map.mp hp;intro z;have:=ex_free (h e he).1 (h e he).2 32 z;lia
theorem Ey{R:List (Int×Int)}(h:∀e∈R,0<=e.1/\0<=e.2):44∉signs (kU R):=by
 unfold kU
 split
 .decide+kernel
 .rw[Jc,cf]
  intro z;have key:∀{ps:List (List Nat)},44∈glue 32 ps->∃p∈ps,44∈p:=by
   intro ps
   induction ps with
   |nil=>intro z;cases z
   |cons p r ih=>
    intro z
    cases r with
    |nil=>exact⟨p,MG,z⟩
    |cons q r=>
     have e1:glue 32 (p::q::r)=p++32::glue 32 (q::r):=rfl;rw[e1]at z;rcases List.mem_append.mp z with z|z
     .exact⟨p,MG,z⟩
     .rcases List.mem_cons.mp z with z|z
      .cases z
      .obtain⟨a,ha,q⟩:=ih z
       exact⟨a,MH _ ha,q⟩
  obtain⟨p,hp,q⟩:=key z;obtain⟨s,hs,rfl⟩:=List.mem_map.mp hp;obtain⟨e,he,rfl⟩:=List.mem_map.mp hs;have:=ex_free (h e he).1 (h e he).2 44 q;lia
theorem D8{R:List (Int×Int)}(h:∀e∈R,0<=e.1/\0<=e.2):bl (jE R)=kU R:=by rw[←yf h];exact JP (Ey h)
theorem Dt{R:List (Int×Int)}(h:∀e∈R,0<=e.1/\0<=e.2):32∉signs (jE R):=by rw[←yf h];exact Kc _
def Fx(r:List Int):Str:=Str.join (Mt ",") (r.map aH)
theorem Bk{r:List Int}(h:∀x∈r,0<=x):cm (zk r)=Fx r:=yB fun p hp=>by
 obtain⟨x,hx,rfl⟩:=List.mem_map.mp hp;exact iZ (h x hx) (by lia)
theorem Cj{i:Int}(h:0<=i):32∉signs (aH i):=iZ h (by lia)
theorem iY{ts:List Str}(ne:ts≠[])(h:∀t∈ts,32∉signs t):Txt.split (Str.join (Mt " ") ts) (Mt " ")=ts:=by
 rw[Jc];exact gc ne h
end
def JR(S:List (List Int)):Str:=Str.join (Mt "/") (S.map zk)
theorem E4{S:List (List Int)}(sl:S.length<=12)(hp:∀r∈S,r.length<=12/\∀x∈r,0<=x/\x<10^9):(JR S).length<=10000:=by
 have h1:=StrLaws.join_length_le (Mt "/") (S.map zk);have h2:=StrLaws.sumLen_le (B:=120) (S.map zk) (fun y hy=>by
  obtain⟨r,hr,rfl⟩:=List.mem_map.mp hy;have:=xP (hp r hr).2;have:=(hp r hr).1;lia)
 have e:(Mt "/").length=1:=by decide+kernel
 rw[Mu]at h1 h2;unfold JR;rw[e]at h1;lia
def vd:Sp:=fun vs H Q _=>∃(l:MY)(ws:List V)(S:List (List Int)),vs=[.ref l]/\H l=some (.lst ws)/\bX H ws S/\S.length<=12/\(∀r∈S,r.length<=12/\∀x∈r,0<=x/\x<10^9)/\∀H',ah H H'->Q (.str (JR S)) H'
structure Lr(P:M0)(w:M3)(K:W.Frag)(mg:Str->Option MX)(base:Nc):Prop extends T1 mg K where
 jI:FnAt P w K mg base "show_things" 1 ["things"] tW
def HE(S:List (List Int)):Str:=Str.join (Mt "/") (S.map Fx)
theorem LR:Mt "/" =⟨#[47]⟩:=by decide+kernel
theorem HJ:∀{S:List (List Int)},(∀r∈S,∀x∈r,0<=x)->cm (JR S)=HE S:=by
 have key:∀(l:List (List Nat)),(glue 47 l).map (Av 32 44)=glue 47 (l.map fun p=>p.map (Av 32 44)):=by
  intro l
  induction l with
  |nil=>rfl
  |cons p r ih=>
   cases r with
   |nil=>rfl
   |cons q r=>
    have e1:glue 47 (p::q::r)=p++47::glue 47 (q::r):=rfl;rw[e1,My,MA,ih];rfl
 intro S h;refine dz ?_;unfold JR HE;rw[fQ,LR,cf,cf,key,MD,MD,MD];congr 1;refine List.map_congr_left fun r hr=>?_;show(signs (zk r)).map (Av 32 44)=signs (Fx r);rw[←fQ,Bk (h r hr)]
section
variable{P:M0}{w:M3}{K:W.Frag}{mg:Str->Option MX}{base:Nc}
theorem nA:aA ["sharing"] ["sharing"] (ar (top 79)):=⟨rfl,rfl,rfl,by decide+kernel,rfl,by decide+kernel,by decide+kernel⟩
theorem zG{f:MY}{fd:Nb}(F:dO K "show_sharing" "show_sharing" (top 79) f fd)(T:Lr P w K mg base):aR P w K mg base gh 2 f fd ["sharing"] vd:=by
 refine F.ok nA (fun vs H Q E h=>?_) (fun cdv A outer s H vs Q E hr h=>?_)
 .obtain⟨l,ws,S,rfl,_⟩:=h
  rfl
 .obtain⟨l,ws,S,rfl,hl,xl,sl,sb,k⟩:=h
  refine⟨_,(aj (ay (bZ (K:=K) rfl PySem.F.plainAttrs_str PySem.F.slot_str_join PySem.F.type_str_join (ic (K:=K) rfl) aK (aa (bw (N:=(["part"]:List Str)) (ix:=([none]:List (Option Nat))) (aT rfl rfl) rfl (a6 (K:=K) rfl (pv 0)) (fun _ _ _ _=>(aw (i:=0) (show List.Nodup (["part"]:List Str)from by decide+kernel) rfl (Or.inl rfl))) (fun _ _ _ _=>bc) (fun _ _ _ _=>(au T.jI (hr.mono (by first|decide|lia)) rfl (aa (pv 0) af)))) af)))),?_⟩;have wl:=xl.length;refine⟨rfl,_,rfl,l,rfl,⟨_,aJ.of hl⟩,jU (K:=K) (a:=l) (xs:=ws) (k:=0) (fun i ys σ' H'=>ys=((S.take i).map zk).map V.str/\(∃v0,σ'=[v0])/\ah H H') (by lia) ⟨rfl,⟨none,rfl⟩,ah.refl _⟩ (fun i ys σ' H' _ q=>aJ.of (q.2.2 _ _ hl)) (fun i ys σ' H' q=>by rw[q.1,Mu,Mu,MB];lia) ?_ ?_⟩
  .rintro i ys σ' H1 x R hx ⟨rfl,⟨v0,rfl⟩,s1⟩ done
   obtain⟨b,r,rfl,hb,hr'⟩:=(xl.keep s1).get hx;have g:=sb r (MF hr');refine⟨_,rfl,b,r,rfl,hb,by lia,g.2,fun H2 s2=>done _ _ _ ⟨?_,⟨_,rfl⟩,s1.trans s2⟩⟩;rw[bh zk hr',My];rfl
  .rintro ys σ' H1 q ⟨rfl,⟨v0,rfl⟩,s1⟩ fq
   rw[MI (by lia)];refine⟨_,q,S.map zk,rfl,rfl,aJ.of ae,cO (B:=120) (by decide+kernel) (fun y hy=>?_) (by decide) (by rw[Mu];lia),k _ (s1.trans (ah.new fq))⟩;obtain⟨r,hr',rfl⟩:=List.mem_map.mp hy;have g:=sb r hr';have:=xP g.2;lia
end
end Sw
namespace L2
open PySem PySem.Spec PyProof.Rows
structure fW(P:M0)(w:M3)(fr:List Env)(ch:List MY)(H:Hp)(h:Nc)(e:MY)(cls a0 fl:MX)(B:Nc)(H':Hp)(h':Nc)(bb:Option MY):Prop where
 un:Un (fV fr) ch H H' h h'
 aX:jF P w H' h'
 kb:B.StaysIn h'
 en:B.get? e=none
 ff:h'.FunFrames B fr
 tr:h'.TracedAtW B e cls a0 fl
 old:∀b o o',h.get? b=some o->b∉ch->b∉fV fr->h'.get? b=some o'->B.get? b=some o'
 tN:∀b u o',H' b=some u->h'.get? b=some o'->B.get? b=some o'
 nY:∀b∈fV fr,H' b=none
 lo:jY h' e bb
section
variable{P:M0}{w:M3}{fr:List Env}{ch:List MY}{H H':Hp}{h h' h'':Nc}{e:MY}{cls a0 fl fl':MX}{B:Nc}{bb:Option MY}
theorem tV.Mb (F:tV P w fr H h e cls a0 B H' h' bb):fW P w fr [] H h e cls a0 .none B H' h' bb:=
 ⟨F.un,F.aX,F.fl.1,F.fl.2.1,F.fl.2.2.1,F.fl.2.2.2,fun b o o' q _=>F.old b o o' q,F.tN,F.nY,F.lo⟩
theorem fW.back (F:fW P w fr [] H h e cls a0 .none B H' h' bb):tV P w fr H h e cls a0 B H' h' bb:=
 ⟨F.un,F.aX,⟨F.kb,F.en,F.ff,F.tr⟩,fun b o o' q=>F.old b o o' q (by simp),F.tN,F.nY,F.lo⟩
theorem fW.move (F:fW P w fr ch H h e cls a0 fl B H' h' bb)(kb:B.StaysIn h'')(ff:h''.FunFrames B fr)(tr:h''.TracedAtW B e cls a0 fl')(sm:h'.UpToSlots h'')(lo:jY h'' e bb):fW P w fr ch H h e cls a0 fl' B H' h'' bb where
 un:=by
  refine⟨fun b o q n hb hx=>?_,fun b o q n hb hx=>?_,F.un.free,fun b o q hx=>?_,F.un.bH,F.un.iy,F.un.iN⟩
  .have e1:=F.un.keep b o q n hb hx
   exact kb b o (F.old b o o q hx hb e1)
  .obtain⟨sl,e1⟩:=F.un.slot b o q n hb hx
   obtain⟨_,o1,e2,nf⟩:=F.ff.mem hb;rw[e1]at e2;cases e2;obtain⟨sl',e3⟩:=sm b _ e1 nf;exact⟨sl',e3⟩
  .obtain⟨o1,e1⟩:=F.un.there b o q hx
   by_cases hb:b∈fV fr
   .obtain⟨_,o2,e2,nf⟩:=F.ff.mem hb
    rw[e1]at e2;cases e2;obtain⟨sl',e3⟩:=sm b _ e1 nf;exact⟨_,e3⟩
   .exact⟨o1,kb b o1 (F.old b o o1 q hx hb e1)⟩
 aX:=fun a o q=>(F.aX a o q).gM (fun b u hb z=>by
   rcases hb with rfl|hb
   .exact kb b u (F.tN b _ u q z)
   .exact kb b u (F.tN b _ u hb z)) (fun _ z=>z) fun _ _ z=>z
 kb:=kb
 en:=F.en
 ff:=ff
 tr:=tr
 old:=fun b o o' q hx hb z=>by
  obtain⟨o1,e1⟩:=F.un.there b o q hx;have e2:=F.old b o o1 q hx hb e1;have e3:=kb b o1 e2;rw[z]at e3;cases e3;exact e2
 tN:=fun b u o' q z=>by
  obtain⟨o1,e1⟩:=(F.aX b u q).here;have e2:=F.tN b u o1 q e1;have e3:=kb b o1 e2;rw[z]at e3;cases e3;exact e2
 nY:=F.nY
 lo:=lo
theorem fW.out {X:Cx}{pins:List (MY×Obj)}{σ:St}{s:MZ}(I:Inv X pins σ H s)(hch:∀b∈ch,b∈X.ex\/X.s₀.heap.objs.size<=b)(F:fW P w X.stack ch H s.heap e cls a0 fl B H' h' bb):fW P w X.outer X.ex X.H₀ X.s₀.heap e cls a0 fl B H' h' bb:=by
 have nch:∀b o,X.s₀.heap.get? b=some o->b∉X.ex->b∉ch:=fun b o q hx hc=>(hch b hc).elim hx fun z=>absurd (MQ (Nc.lt_size q) z) (Nat.lt_irrefl _);have ns:∀b o,X.s₀.heap.get? b=some o->b∉fV X.outer->b∉fV X.stack:=fun b o q hb z=>by
  rcases List.mem_cons.mp (I.i7 b z)with r|r
  .subst r
   exact absurd (MQ (Nc.lt_size q) I.ok.above) (Nat.lt_irrefl _)
  .exact hb r
 have so:∀b∈fV X.outer,b∈fV X.stack:=fun b z=>by
  rcases I.ok.Ar with hst|⟨hst,_⟩
  .rw[hst];exact z
  .rw[hst]
   unfold fV at z⊢;rw[List.filterMap_cons]
   split
   .exact z
   .exact MH _ z
 refine⟨⟨fun b o q n hb hx=>?_,fun b o q n hb hx=>?_,fun b o q n hx=>?_,fun b o q hx=>?_,fun b xs q=>F.un.bH b xs (I.base.bH b xs q),fun b o u q=>F.un.iy b o u (I.base.iy b o u q),fun b ps q=>?_⟩,F.aX,F.kb,F.en,?_,F.tr,fun b o o' q hx hb z=>?_,F.tN,fun b hb=>F.nY b (so b hb),F.lo⟩
 .exact F.un.keep b o (I.base.keep b o q n hb hx) (I.base.free b o q n hx) (ns b o q hb) (nch b o q hx)
 .obtain⟨sl,e1⟩:=I.base.slot b o q n hb hx
  obtain⟨sl',e2⟩:=F.un.any e1 (I.base.free b o q n hx) (nch b o q hx);exact⟨sl',e2⟩
 .obtain⟨o1,e1⟩:=I.base.there b o q hx
  exact F.un.free b o1 e1 (I.base.free b o q n hx) (nch b o q hx)
 .obtain⟨o1,e1⟩:=I.base.there b o q hx
  exact F.un.there b o1 e1 (nch b o q hx)
 .obtain⟨m1,e1⟩:=I.base.iN b ps q
  obtain⟨m2,e2⟩:=F.un.iN b _ e1;exact⟨m1++m2,by rw[e2,Array.append_assoc]⟩
 .have f:=F.ff
  rcases I.ok.Ar with hst|⟨hst,_⟩
  .rw[hst]at f;exact f
  .rw[hst]at f;exact f.2.2
 .obtain⟨o1,e1⟩:=I.base.there b o q hx
  exact F.old b o1 o' e1 (nch b o q hx) (ns b o q hb) z
theorem ni{B':Nc}(k:∀b,B.get? b=none->B'.get? b=none):∀{l:List Env},h.FunFrames B l->h.FunFrames B' l
 |[],_=>trivial
 |env::l,x=>by
  obtain⟨hk,⟨L,o,hf,hn,ho,hd⟩,hr⟩:=x;exact⟨hk,⟨L,o,hf,k L hn,ho,hd⟩,ni k hr⟩
theorem oU{C:MY}(gt:∀b,b≠C->h''.get? b=h'.get? b):∀{l:List Env},C∉fV l->h'.FunFrames B l->h''.FunFrames B l
 |[],_,_=>trivial
 |env::l,nC,x=>by
  obtain⟨hk,⟨L,o,hf,hn,ho,hd⟩,hr⟩:=x;have nL:L≠C/\C∉fV l:=by
   unfold fV at nC⊢;rw[List.filterMap_cons,hf]at nC;exact⟨fun z=>nC (by rw[z];exact MG),fun z=>nC (MH _ z)⟩
  exact⟨hk,⟨L,o,hf,hn,(gt L nL.1).trans ho,hd⟩,oU gt nL.2 hr⟩
theorem fW.but {C:MY}(F:fW P w fr ch H h e cls a0 fl B H' h' bb)(hs:Nc.SameBut C h' h'')(hC:h.objs.size<=C)(hH:H' C=none)(nC:C∉fV fr)(oC:∃o,h'.get? C=some o/\∀vs,o.data≠.fields vs):fW P w fr ch H h e cls a0 fl (W.hideAll B [C]) H' h'' bb:=by
 have ne:∀b o,h.get? b=some o->b≠C:=fun b o q z=>by subst z;exact absurd (MQ (Nc.lt_size q) hC) (Nat.lt_irrefl _)
 have nt:∀b u,H' b=some u->b≠C:=fun b u q z=>by rw[z,hH]at q;cases q
 have nn:∀b,B.get? b=none->(W.hideAll B [C]).get? b=none:=fun b z=>by
  cases q:(W.hideAll B [C]).get? b with
  |none=>rfl
  |some o=>rw[W.of_hideAll _ q]at z;cases z
 have nf:∀b o,(∃vs,o.data= .fields vs)->h'.get? b=some o->b≠C:=fun b o ⟨vs,hv⟩ q z=>by
  obtain⟨o',h1,h2⟩:=oC;rw[z,h1]at q;cases q;exact h2 vs hv
 have gt:∀b,b≠C->h''.get? b=h'.get? b:=hs.2;refine⟨⟨fun b o q n hb hx=>?_,fun b o q n hb hx=>?_,F.un.free,fun b o q hx=>?_,F.un.bH,F.un.iy,F.un.iN⟩,fun a o q=>(F.aX a o q).gM (fun b u hb z=>?_) (fun _ z=>z) fun _ _ z=>z,fun b o q=>?_,nn e F.en,?_,?_,fun b o o' q hx hb z=>?_,fun b u o' q z=>?_,F.nY,?_⟩
 .rw[gt b (ne b o q)];exact F.un.keep b o q n hb hx
 .rw[gt b (ne b o q)];exact F.un.slot b o q n hb hx
 .rw[gt b (ne b o q)];exact F.un.there b o q hx
 .have:b≠C:=by
   rcases hb with rfl|hb
   .exact nt b _ q
   .exact nt b _ hb
  rw[gt b this];exact z
 .have hb:b≠C:=fun z=>by rw[z,W.hideAll_none [C] (List.mem_singleton.mpr rfl)]at q;cases q
  rw[gt b hb];exact F.kb b o (W.of_hideAll _ q)
 .have f1:=oU gt nC F.ff
  exact ni nn f1
 .obtain⟨oe,ws,T,oT,ts,g1,g2,g4,g5,g6,g7,g8,g9,g10⟩:=F.tr
  exact⟨oe,ws,T,oT,ts,(gt e (nf e oe ⟨_,g4⟩ g1)).trans g1,g2,g4,g5,nn T g6,g7,(gt T (nf T oT ⟨_,g9⟩ g8)).trans g8,g9,g10⟩
 .rw[gt b (ne b o q)]at z
  exact W.hideAll_get _ (F.old b o o' q hx hb z) fun hm=>ne b o q (List.mem_singleton.mp hm)
 .rw[gt b (nt b u q)]at z
  exact W.hideAll_get _ (F.tN b u o' q z) fun hm=>nt b u q (List.mem_singleton.mp hm)
 .obtain⟨o,vs,cc,h1,h2,h3,hcb⟩:=F.lo
  exact⟨o,vs,cc,(gt e (nf e o ⟨_,h2⟩ h1)).trans h1,h2,h3,hcb⟩
end
section
variable{M:Model}{A:M4}{E:MX->MZ->Prop}{s:MZ}{P:M0}{w:M3}{env:Env}{outer:List Env}{L:MY}{fr:List Env}{ch:List MY}{H H':Hp}{h:Nc}{e:MY}{cls a0 fl:MX}{B:Nc}{bb:Option MY}
theorem xS{o:Option MY}{Q:Unit->MZ->Prop}(F:fW P w fr ch H h e cls a0 fl B H' s.heap bb)
  (k:∀h',fW P w fr ch H h e cls a0 (o.elim MX.none fun f=>rawInt f) B H' h' bb->s.heap.UpToSlots h'->Q () {s with heap:=h'}):Nf M A (setFlight (.ref e) o) Q E s:=by
 obtain⟨oo,vs,cc,h1,h2,h3,hcb⟩:=F.lo;obtain⟨oe,ws,T,oT,ts,g1,g2,g4,g5,g6,g7,g8,g9,g10⟩:=F.tr;rw[h1]at g1;cases g1;rw[h2]at g4;cases g4;have sz:3<ts.size:=(Array.getElem?_eq_some_iff.mp g10).1;have oth:∀b,b≠T->(s.heap.update T (Obj.mapFields (·.setIfInBounds 3 (o.elim MX.none fun f=>rawInt f)))).get? b=s.heap.get? b:=fun b hb=>Nc.get?_update_other _ _ (Ne.symm hb);have noT:∀b u,s.heap.get? b=some u->(∀ws,u.data≠.fields ws)->b≠T:=fun b u hb hnf q=>by
  rw[q,g8]at hb;cases hb;exact hnf ts g9
 have e':=(oth e (Ne.symm g7)).trans h1;have sm:s.heap.UpToSlots (s.heap.update T (Obj.mapFields (·.setIfInBounds 3 (o.elim MX.none fun f=>rawInt f)))):=fun b u hb hnf=>⟨u.slots,(oth b (noT b u hb hnf)).trans hb⟩;unfold setFlight;refine M7 (wpAny_field h1 h2 g5 ?_);rw[if_pos (by simp)];refine wpAny_setField g8 g9 sz (k _ (F.move (fun b u hb=>(oth b fun q=>by rw[q,g6]at hb;cases hb).trans (F.kb b u hb)) (F.ff.of_keeps fun b u hb hnf=>⟨u,(oth b (noT b u hb hnf)).trans hb,rfl⟩) ?_ sm ⟨oo,vs,cc,e',h2,h3,hcb⟩) sm);exact⟨oo,vs,T,_,_,e',g2,h2,g5,g6,g7,Nc.get?_update_self _ g8 (Obj.isFreed_of_fields (Obj.data_mapFields g9 _)),Obj.data_mapFields g9 _,by simp[sz]⟩
theorem u9{Q:Unit->MZ->Prop}(fr:A.frames=some (env::outer))(ef:env.frame=some L)(F:fW P w (env::outer) ch H h e cls a0 fl B H' s.heap bb)
  (k:∀h' fl',fW P w (env::outer) ch H h e cls a0 fl' B H' h' bb->s.heap.UpToSlots h'->Q () {s with heap:=h'}):Nf M A (noteFrame (.ref e) env) Q E s:=by
 obtain⟨oo,vs,cc,h1,h2,h3,hcb⟩:=F.lo;obtain⟨oe,ws,T,oT,ts,g1,⟨g2,g3⟩,g4,g5,g6,g7,g8,g9,g10⟩:=F.tr;rw[h1]at g1;cases g1;rw[h2]at g4;cases g4;subst g2;unfold noteFrame;simp only[ef];refine M7 (wpAny_field h1 h2 g5 ?_);rw[if_pos (by simp)];refine M7 (wpAny_field g8 g9 g10 ?_);by_cases c:(fl==rawInt L)=true
 .rw[if_pos c]
  exact M8 (k s.heap fl F (Nc.UpToSlots.refl _))
 rw[if_neg c];refine M7 (wpAny_setField g8 g9 (Array.getElem?_eq_some_iff.mp g10).1 ?_);have oth:∀b,b≠T->(s.heap.update T (Obj.mapFields (·.setIfInBounds 3 MX.none))).get? b=s.heap.get? b:=fun b hb=>Nc.get?_update_other _ _ (Ne.symm hb);have noT:∀b u,s.heap.get? b=some u->(∀ws,u.data≠.fields ws)->b≠T:=fun b u hb hnf q=>by
  rw[q,g8]at hb;cases hb;exact hnf ts g9
 refine j5 fr (F.ff.of_keeps fun b u hb hnf=>⟨u,(oth b (noT b u hb hnf)).trans hb,rfl⟩) ef ((oth e (Ne.symm g7)).trans h1) (fun b u hb=>(oth b fun q=>by rw[q,g6]at hb;cases hb).trans (F.kb b u hb)) F.en h2 g3 h3 hcb fun h' ⟨x1,x2,x3,x4⟩ l'=>?_;have sm:s.heap.UpToSlots h':=fun b u hb hnf=>x4 b u ((oth b (noT b u hb hnf)).trans hb) hnf;exact k h' _ (F.move x1 x2 x3 sm l') sm
theorem Cs{α:Type}{what:String}{cenv:Env}{Q:α->MZ->Prop}(F:fW P w fr ch H h e cls a0 fl B H' s.heap bb)
  (k:∀h' fl',fW P w fr ch H h e cls a0 fl' B H' h' bb->E (.ref e) {s with heap:=h'}):Nf M A (PySem.passOn what (.ref e) cenv:Sem α) Q E s:=by
 obtain⟨oo,vs,cc,h1,h2,h3,hcb⟩:=id F.lo;obtain⟨oe,ws,T,oT,ts,g1,g2,g4,g5,g6,g7,g8,g9,g10⟩:=id F.tr;rw[h1]at g1;cases g1;rw[h2]at g4;cases g4;unfold PySem.passOn;refine M7 (wpAny_field h1 h2 g5 ?_);rw[if_neg (by simp)];refine M7 (xS F fun h' F' _=>?_);exact wpAny_throw (k h' _ F')
end
def nh(X:Cx)(E:XK):Prop:=∀(pins:List (MY×Obj))(σ:St)(H:Hp)(s:MZ)(ch:List MY)(e:MY)(cls a0 fl:MX)(B:Nc)(H':Hp)(bb:Option MY)(s':MZ),Inv X pins σ H s->(∀b∈ch,(b∈X.ex\/X.s₀.heap.objs.size<=b)/\b≠X.env.locals)->
 s'.os=s.os->AllBare s'.gens->fW X.prog X.w X.stack ch H s.heap e cls a0 fl B H' s'.heap bb->E cls bb H'->X.xe (.ref e) s'
theorem nh.passes {X:Cx}{E:XK}(p:nh X E):Passes (i3 X.prog X.w) X E:=fun pins σ H s ev s' I h=>by
 obtain⟨e,cls,a0,B,H',bb,rfl,os,bare,F,q⟩:=h;exact p pins σ H s [] e cls a0 _ B H' bb s' I (fun b hb=>nomatch hb) os bare F.Mb q
section
variable{P:M0}{w:M3}{K:W.Frag}{mg:Str->Option MX}{base:Nc}{N:List Str}{qual:Str}{scope:Scope}{f:MY}{cdv:MX}{A:M4}{outer:List Env}{s:MZ}{H:Hp}{E:XK}
theorem AE:nh (vG P w K mg base N qual scope f cdv A outer s H E) E:=by
 intro pins σ H₁ s₁ ch e cls a0 fl B H' bb s' I hch os bare F q;show Nf _ _ (leaving _ (.ref e)) _ _ s';unfold leaving;refine M7 (u9 I.ok.frames rfl F fun g fl' F1 _=>?_);refine xS (s:={s' with heap:=g}) F1 fun h'' F2 _=>?_;exact⟨e,cls,a0,B,H',bb,rfl,os.trans I.os,bare,(fW.out I (fun b hb=>(hch b hb).1) F2).back,q⟩
end
def HB(X:Cx):Prop:=∃(pL:Env)(outer0:List Env)(L:MY),X.stack=pL::outer0/\pL.frame=some L/\X.env.frame=some L
theorem F8{P:M0}{w:M3}{K:W.Frag}{mg:Str->Option MX}{base:Nc}{N:List Str}{qual:Str}{scope:Scope}{f:MY}{cdv:MX}{A:M4}{outer:List Env}{s:MZ}{H:Hp}{E:XK}:HB (vG P w K mg base N qual scope f cdv A outer s H E):=⟨_,_,_,rfl,rfl,rfl⟩
def nQ(E:XK)(X:Cx)(N:List Str)(scope:Scope)(C:MY)(fp:List MY)(s:MZ)(H:Hp):Cx:=
 {n0 X N scope C fp s H with xe:=fun ev s'=>∃(e:MY)(cls a0 fl:MX)(B:Nc)(H':Hp)(bb:Option MY),ev= .ref e/\s'.os=s.os/\AllBare s'.gens/\fW X.prog X.w X.stack fp H s.heap e cls a0 fl B H' s'.heap bb/\(∃m,s'.heap.Ns C m)/\H' C=none/\C∉fV X.stack/\E cls bb H'}
section
variable{E:XK}{X:Cx}{N:List Str}{scope:Scope}{C:MY}{fp:List MY}{s:MZ}{H:Hp}
theorem BZ:nh (nQ E X N scope C fp s H) E:=by
 intro pins σ H3 s3 ch e cls a0 fl B H' bb s' I hch os bare F q;obtain⟨m,hn,_⟩:=id I.loc;have nC:C∉fV X.stack:=fun z=>by
  obtain⟨_,o,ho,_⟩:=I.ok.iq.mem z;exact absurd (MQ (Nc.lt_size ho) I.ok.above) (Nat.lt_irrefl _)
 have nch:C∉ch:=fun z=>(hch C z).2 rfl;obtain⟨o,es,ep,ho,r⟩:=hn;have hC':=F.un.keep C o ho I.free nC nch;exact⟨e,cls,a0,fl,B,H',bb,rfl,os.trans I.os,bare,fW.out I (fun b hb=>(hch b hb).1) F,⟨m,o,es,ep,hC',r⟩,F.un.free C o ho I.free nch,nC,q⟩
theorem KA{pins:List (MY×Obj)}{σ:St}{H1:Hp}{s1:MZ}(I:Inv (n0 X N scope C fp s H) pins σ H1 s1):Inv (nQ E X N scope C fp s H) pins σ H1 s1:=
 ⟨⟨I.ok.mod,I.ok.kind,I.ok.glob,I.ok.blt,I.ok.above,I.ok.inj,I.ok.has,I.ok.Ca,I.ok.hd,I.ok.frames,I.ok.Ar,I.ok.Fq,I.ok.bs,I.ok.yF,I.ok.oJ,I.ok.pZ,I.ok.iq,I.ok.nY⟩,I.os,I.bare,I.base,I.loc,I.cell,I.free,I.eX,I.pin,I.aX,I.len⟩
theorem Kz{pins:List (MY×Obj)}{σ:St}{H1:Hp}{s1:MZ}(I:Inv (nQ E X N scope C fp s H) pins σ H1 s1):Inv (n0 X N scope C fp s H) pins σ H1 s1:=
 ⟨⟨I.ok.mod,I.ok.kind,I.ok.glob,I.ok.blt,I.ok.above,I.ok.inj,I.ok.has,I.ok.Ca,I.ok.hd,I.ok.frames,I.ok.Ar,I.ok.Fq,I.ok.bs,I.ok.yF,I.ok.oJ,I.ok.pZ,I.ok.iq,I.ok.nY⟩,I.os,I.bare,I.base,I.loc,I.cell,I.free,I.eX,I.pin,I.aX,I.len⟩
end
section
variable{prog:M0}{w:M3}{A:M4}{R:Result->MZ->Prop}{s:MZ}
theorem p0{elt target iter:Expr}{ifs:List Expr}{scope:Scope}{pos:Pos}{it acc:MX}{env:Env}(EE:MX->MZ->Prop)(hE:∀x s',EE x s'->notedBy (model prog w) A env (fun e s'=>R (.error e) s') x s')(I:Nat->MZ->Prop)
  (turn:∀n s,I n s->Nf (model prog w) A (pyNext it) (fun r s₁=>match r with
   |none=>R (.ok .next) s₁
   |some v=>Nf (model prog w) A (letOwnedTupleGo target it v) (fun _ s₁=>Nf (model prog w) A (assign target env v) (fun _ s₂=>
     Nf (model prog w) A (forIn ifs true fun c r=>if r=true then do let ok←isTrue c env (eval c env);pure (ForInStep.yield ok)else pure (ForInStep.yield r)) (fun ok s₃=>
      if ok=true then Nf (model prog w) A (eval elt env) (fun x s₄=>
       Nf (model prog w) A (call (.builtin "list.append") [acc,x]) (fun _ s₅=>∃m,m<n/\I m s₅) EE s₄) EE s₃
      else∃m,m<n/\I m s₃) EE s₂) EE s₁) EE s₁) EE s)
  (n:Nat) (h:I n s):
  codeAny (model prog w) A (.compLoop (.ListComp elt [⟨target,iter,ifs,0⟩] scope pos) 0 it acc env) R s:=by
 refine codeAny_loop rfl I (fun n s hI=>?_) n h;show Nf _ A ((compTurn (.ListComp elt [⟨target,iter,ifs,0⟩] scope pos) 0 it acc env).onRaise (fun x=>do noteFrame x env;theTreesLotGoes x)) _ _ s;refine wpAny_noted ?_;rw[compTurn_list];refine M7 (wpAny_standAt (M7 (M9 (turn n s hI) (fun r s₁ h₁=>?_) fun x s' h'=>hE x s' h')))
 cases r with
 |none=>exact M8 h₁
 |some v=>
  refine M7 (M9 h₁ (fun _ s₁ h₁=>?_) fun x s' h'=>hE x s' h');refine M7 (M9 h₁ (fun _ s₂ h₂=>M7 (M9 h₂ (fun ok s₃ h₃=>?_) fun x s' h'=>hE x s' h')) fun x s' h'=>hE x s' h')
  cases ok with
  |false=>exact M8 ⟨rfl,h₃⟩
  |true=>
   refine M7 (M7 (M9 h₃ (fun x s₄ h₄=>M7 (M9 h₄ (fun _ s₅ h₅=>?_) fun x s' h'=>hE x s' h')) fun x s' h'=>hE x s' h'));exact M8 (M8 ⟨rfl,h₅⟩)
end
section
variable{X:Cx}{scope:Scope}{N:List Str}{ix:List (Option Nat)}{elt tg iter:Expr}{ifs:List Expr}{g:TG}{tc:TT}{te:TE}{pos:Pos}
theorem uZ{pins:List (MY×Obj)}{σ:St}{s2:MZ}{Q:VK}{itv:MX}{RR:MX->MY->Result->MZ->Prop}{E:MX->MZ->Prop}(c:fj X scope N ix)(hc:X.calm=true){EX:XK}
  (hg:∀C fp s H,PG (nQ EX X N scope C fp s H) tg g) (ht:∀C fp s H,GW (nQ EX X N scope C fp s H) ifs tc) (he:∀C fp s H,PE (nQ EX X N scope C fp s H) elt te)
  (h2:Kq X pins σ tg (fz ix g tc te σ Q) itv s2)
  (hX:∀(D C:MY)(fp:List MY)(H2:Hp)(x:MX)(s':MZ),Inv X pins σ H2 s2->(∀b∈fp,iK X pins H2 b)->s2.heap.objs.size<=C->(nQ EX X N scope C fp s2 H2).xe x s'->notedBy (model X.prog X.w) X.A (nQ EX X N scope C fp s2 H2).env (fun e s'=>RR (.ref D) C (.error e) s') x s')
  (hR:∀(D C:MY)(s':MZ)(H':Hp)(m:Str->Option MX),Inv X pins σ H' s'->s'.heap.Ns C m->H' C=none->X.s₀.heap.objs.size<=C->(∀p∈X.pn++pins,p.1≠C)->C≠X.env.locals->(∀x c,X.env.cells.lookup x=some c->c≠C)->Q (.ref D) H'->RR (.ref D) C (.ok .next) s'):
  Nf (model X.prog X.w) X.A (newList []) (fun acc s₃=>Nf (model X.prog X.w) X.A (newFunctionEnv scope X.env.globals (eh X.env.cells scope.names []) [] X.env.qual none .none (some X.env)) (fun cenv s₄=>
   codeAny (model X.prog X.w) X.A (.compStart (.ListComp elt [⟨tg,iter,ifs,0⟩] scope pos) 0 itv acc {cenv with scope:=relabel scope X.env}) (RR acc cenv.locals) s₄) E s₃) E s2:=by
 obtain⟨it,fp,tn,J,H2,rfl,I2,T,st2,f2,W,⟨m0,w0⟩,turn⟩:=h2;refine wpAny_newObj_type (wpAny_newFunctionEnv c.rm (by intro y hy;simp at hy) (fun h₁ hns₁ hsb₁=>?_) c.kind);dsimp only at hns₁ hsb₁⊢;generalize hH2:s2.heap.push {cls:= .type "list",dict:=none,data:= .seq ([]:List MX).toArray}=G2 at hns₁ hsb₁⊢;have hCs:G2.objs.size=s2.heap.objs.size+1:=by rw[←hH2,Nc.size_push]
 generalize hCe:G2.objs.size=C at hns₁ hsb₁ hCs⊢;generalize hDe:s2.heap.objs.size=D at hCs⊢;have ltC:∀b,@LT.lt Nat _ b D->b≠C:=fun b hb=>MR (by rw[hCs];exact Nat.lt_succ_of_lt hb);have ltS:∀b o,s2.heap.get? b=some o->@LT.lt Nat _ b D:=fun b o e=>by rw[←hDe];exact Nc.lt_size e
 have hDC:D≠C:=MR (by rw[hCs];exact Nat.lt_succ_self _);have old:∀b o,s2.heap.get? b=some o->h₁.get? b=some o:=fun b o e=>hsb₁.extBut b o (ltC b (ltS b o e)) (Nc.get?_push_of_some _ (hH2▸Nc.get?_push_of_some _ e));have hoD:h₁.get? D=some {cls:= .type "list",dict:=none,data:= .seq ([]:List MX).toArray}:=by
  refine hsb₁.extBut _ _ hDC (Nc.get?_push_of_some _ ?_);rw[←hH2,←hDe];exact Nc.get?_push_size _ rfl
 have I4:Inv (nQ EX X N scope C fp s2 H2) (pins++[(D,{cls:= .type "list",data:= .seq ([]:List MX).toArray})]) (dJ ix σ) H2 {s2 with heap:=h₁,toks:=s2.toks+([]:List (Str×MX)).length}:=
  KA<|c.enter I2 f2 (T.obj _ _ st2) (by rw[hCs,hDe]) hDe.symm old hns₁ hoD fun v z=>by cases z
 have st4:tn 0 h₁:=T.keep _ _ _ st2 fun b _ o e=>old b o e;have pinD:∀p∈X.pn++pins,p.1≠D:=fun p hp=>MR (ltS _ _ (I2.pin p hp).1);have pinC:∀p∈X.pn++pins,p.1≠C:=fun p hp=>ltC _ (ltS _ _ (I2.pin p hp).1);have celD:∀x d,X.env.cells.lookup x=some d->@LT.lt Nat _ d D:=fun x d e=>by
  obtain⟨v,o,ho,_⟩:=I2.cell x d e;exact ltS d o ho
 have fpD:∀b∈fp,@LT.lt Nat _ b D:=fun b hb=>by
  obtain⟨o,e,_⟩:=T.obj _ _ st2 b hb;exact ltS b o e
 have sub:∀x d,(eh X.env.cells scope.names []).lookup x=some d->X.env.cells.lookup x=some d:=fun x d e=>by
  rcases du e with z|z
  .simp at z
  .exact z
 have stat:∀{H':Hp}{oD:Obj},(∀b∈fp,H' b=none)->∀b∈fp,iK (nQ EX X N scope C fp s2 H2) (pins++[(D,oD)]) H' b:=fun{H' oD} hn b hb=>by
  obtain⟨f0,f1,f2,f3,f4,f5⟩:=f2 b hb;refine⟨hn b hb,ltC b (fpD b hb),fun z=>?_,.inl hb,fun x d e=>f4 x d (sub x d e),fun p hp=>?_⟩
  .rcases List.mem_cons.mp (I2.i7 b z)with e|e
   .exact f1 e
   .exact f2 e
  .have hp:p∈X.pn++(pins++[(D,oD)]):=hp
   rw[←List.append_assoc]at hp;rcases List.mem_append.mp hp with z|z
   .exact f5 p z
   .have e:p=(D,oD):=by simpa using z
    subst e;exact Nat.ne_of_gt (fpD b hb)
 have loop:∀s3:MZ,s3={s2 with heap:=h₁,toks:=s2.toks+([]:List (Str×MX)).length}->
   codeAny (model X.prog X.w) X.A (.compLoop (.ListComp elt [⟨tg,iter,ifs,0⟩] scope pos) 0 (.ref it) (.ref D) (nQ EX X N scope C fp s2 H2).env) (RR (.ref D) C) s3:=by
  rintro s3 rfl;refine p0 (nQ EX X N scope C fp s2 H2).xe (fun x s' h'=>hX D C fp H2 x s' I2 f2 (by rw[hDe,hCs];exact Nat.le_succ _) h') (fun n s'=>∃i σ' H' ys its k,Inv (nQ EX X N scope C fp s2 H2) (pins++[(D,{cls:= .type "list",data:= .seq (List.toArray its) k})]) σ' H' s'/\tn i s'.heap/\(∀b∈fp,H' b=none)/\Vals ys its/\W i n ys σ' H') ?_ m0
   ⟨0,_,H2,[],[],_,I4,st4,fun b hb=>(f2 b hb).1,.nil,w0⟩
  rintro n s3 ⟨i,σ3,H3,ys,its,k,I3,st3,fr3,rv,w3⟩;rcases turn i n ys σ3 H3 w3 with⟨stop,hz,qn⟩|⟨go,hz,step⟩
  .refine aY (T.done (nQ EX X N scope C fp s2 H2) rfl rfl rfl hc i _ s3 σ3 H3 _ I3 (stat fr3) st3 stop) fun r s4 ⟨hr,I4⟩=>?_
   subst hr;have hDn:H3 D=none:=(I3.pin (D,_) (MJ _ (MJ _ MG))).2.1;obtain⟨m4,hn4,_⟩:=id I4.loc;refine hR D C s4 _ m4 (c.leave I2 f2 (by rw[hCs,hDe]) hDe.symm (Kz I4) rv hz) hn4 ?_ ?_ pinC ?_ (fun x d e=>ltC d (celD x d e)) (qn D hDn)
   .rw[aq hDC.symm];exact I4.free
   .refine MS I2.sz ?_
    rw[hDe,hCs];exact Nat.le_succ _
   .refine Nat.ne_of_gt (MQ I2.lt ?_)
    rw[hDe,hCs];exact Nat.le_succ _
  .refine aY (T.item (nQ EX X N scope C fp s2 H2) rfl rfl rfl hc i _ s3 σ3 H3 _ I3 (stat fr3) st3 go) fun r s4 ⟨u,hr,h4⟩=>?_
   subst hr;refine aY h4 fun _ s5 ⟨x,H5,I5,r5,y5,st5,fr5⟩=>?_;have I5':=I5.pinned (stat fr5) (T.obj _ _ st5);refine aY (hg C fp s2 H2 _ s5 σ3 H5 x u _ I5' r5 (step x H5 y5)) fun _ s6 ⟨σ6,H6,I6,q6⟩=>?_;refine aY (ht C fp s2 H2 _ s6 σ6 H6 _ I6 q6) fun ok s7 ⟨H7,I7,q7⟩=>?_;have keep:∀{s':MZ}{σ':St}{H':Hp},Inv (nQ EX X N scope C fp s2 H2) ((pins++[(D,{cls:= .type "list",data:= .seq its.toArray k})])++mJ fp s5.heap) σ' H' s'->tn (i+1) s'.heap/\∀b∈fp,H' b=none:=fun{s' σ' H'} I'=>by
    refine⟨T.keep _ _ _ st5 fun b hb o e=>(I'.pin (b,o) (MJ _ (MJ _ (eK hb e)))).1,fun b hb=>?_⟩;obtain⟨o,e,d⟩:=T.obj _ _ st5 b hb;exact(I'.pin (b,o) (MJ _ (MJ _ (eK hb e)))).2.1
   cases ok with
   |false=>
    rw[if_neg MU];rw[if_neg MU]at q7;obtain⟨m',hm,w7⟩:=q7;obtain⟨k1,k2⟩:=keep I7;exact⟨m',hm,i+1,σ6,H7,ys,its,k,I7.dZ,k1,k2,rv,w7⟩
   |true=>
    rw[if_pos rfl];rw[if_pos rfl]at q7;refine aY (he C fp s2 H2 _ s7 σ6 H7 _ I7 q7) fun y s8 ⟨v,H8,I8,r8,m',hm,w8⟩=>?_;obtain⟨k1,k2⟩:=keep I8;have pD:=I8.pin (D,_) (MJ _ (MK _ (MJ _ MG)));have I8u:=I8.dZ;have I8v:Inv (nQ EX X N scope C fp s2 H2) pins σ6 H8 s8:=I8u.dZ;have len:=rv.length;refine wpAny_list_append_plain (items:=its.toArray) (hsz:=by simp;lia) ⟨k,pD.1⟩ fun h9 hl9 hs9=>?_;obtain⟨k9,e9⟩:=hl9;have I9:Inv (nQ EX X N scope C fp s2 H2) pins σ6 H8 {s8 with heap:=h9}:=by
     refine I8v.turned (t':=s8.toks) (it:=D) (fun b o hb e=>hs9.extBut b o hb e) pD.2.1 hDC (.inr ?_) (fun x d e=>MR (celD x d (sub x d e))) fun p hp=>?_
     .show s2.heap.objs.size<=D
      rw[hDe];exact MP _
     .exact pinD p hp
    have e9':h9.get? D=some {cls:= .type "list",data:= .seq (its++[y]).toArray k9}:=by
     rw[e9];simp
    refine⟨m',hm,i+1,σ6,H8,ys++[v],its++[y],k9,I9.nJ fun p hp=>?_,T.keep _ _ _ k1 fun b hb o e=>hs9.extBut b o (MR (fpD b hb)) e,k2,rv.append (.cons r8 .nil),w8⟩;rcases List.mem_append.mp hp with z|z
    .exact I9.pin p (MJ _ z)
    .have e:p=(D,{cls:= .type "list",data:= .seq (its++[y]).toArray k9}):=by simpa using z
     subst e;exact⟨e9',pD.2.1,pD.2.2.1,pD.2.2.2.1,fun v z=>by cases z⟩
 exact codeAny_compStart_list (loop _ rfl) (T.self _ 0 _ _ _ st4 (loop _ rfl))
theorem wO{e:MX}{env env':Env}(h:env'.frame=env.frame):noteFrame e env'=noteFrame e env:=by
 unfold noteFrame PySem.frameOf;rw[h]
theorem Ba{pins:List (MY×Obj)}{σ:St}{s2:MZ}{EX:XK}{use:Option (MX->Sem Unit)}{QQ:MX->MZ->Prop}(tp:HB X)(pc:nh X EX)(D C:MY)(fp:List MY)(H2:Hp)(x:MX)(s':MZ)(I2:Inv X pins σ H2 s2)(f2:∀b∈fp,iK X pins H2 b)(hC:s2.heap.objs.size<=C)
  (h:(nQ EX X N scope C fp s2 H2).xe x s'):notedBy (model X.prog X.w) X.A (nQ EX X N scope C fp s2 H2).env (fun e s'=>compPost (model X.prog X.w) X.A X.xe use QQ (.ref D) C (.error e) s') x s':=by
 obtain⟨pL,outer0,L,h1,h2,h3⟩:=tp;obtain⟨e,cls,a0,fl,B,H',bb,rfl,os,bare,F,⟨m,hn⟩,hH,nC,q⟩:=h;unfold notedBy;rw[wO (env:=pL) (env':=(nQ EX X N scope C fp s2 H2).env) (show X.env.frame=pL.frame from h3.trans h2.symm)];have fr:=I2.ok.frames;rw[h1]at fr;have F':=F;rw[h1]at F';refine u9 fr h2 F' fun h' fl' F1 sm=>?_;have hn':=sm.ns hn;refine⟨m,hn',fun h3 hs cenv hcl=>?_⟩;obtain⟨o,es,ep,ho,hd,_⟩:=hn';rw[←h1]at F1;have F3:=F1.but hs hC hH nC ⟨o,ho,fun vs z=>by rw[hd]at z;cases z⟩;refine Cs (s:={s' with heap:=h3}) F3 fun h4 fl4 F4=>?_;exact pc pins σ H2 s2 fp e cls a0 fl4 _ H' bb {s' with heap:=h4} I2 (fun b hb=>⟨(f2 b hb).2.2.2.1,(f2 b hb).2.1⟩) os bare F4 q
variable{wi:TI}
theorem uG{EX:XK}{i:Nat}{x:Str}{px spos:Pos}(tp:HB X)(pc:nh X EX)(hN:X.N.Nodup)(hx0:X.N[i]?=some x)(hx:X.env.scope.names.lookup x=some .local)(c:fj X scope N ix)(hc:X.calm=true)(hi:PI X tg iter wi)(hg:∀C fp s H,PG (nQ EX X N scope C fp s H) tg g)(ht:∀C fp s H,GW (nQ EX X N scope C fp s H) ifs tc)(he:∀C fp s H,PE (nQ EX X N scope C fp s H) elt te)
  (hsw:swapsWith (.ListComp elt [⟨tg,iter,ifs,0⟩] scope pos) (some (.Name x px)) spos.line X.env=pure true:=by rfl)
  (hs:∀x,foldedSetIterable iter X.env x=pure x:=by intro _;rfl):PS X (.Assign [.Name x px] (.ListComp elt [⟨tg,iter,ifs,0⟩] scope pos) spos) (vv (xB ix wi g tc te) (cF i)):=by
 intro pins s σ H D0 I h;rw[exec_Assign_Name_used _ _ _ _ hsw];refine M7 (wpAny_standAt (M7 ?_));show Nf _ _ (do let _←comprehension (.ListComp elt [⟨tg,iter,ifs,0⟩] scope pos) scope X.env _ (newList []) false (eval iter X.env) (some (assign (.Name x px) X.env))) _ _ s;have hcl:∀y∈scope.names,y.2=Nh.free->∃d,X.env.cells.lookup y.1=some d:=fun y hy e=>I.ok.has _ (c.fr y hy e);refine M7 (M9 (wpAny_comprehension_free (use:=some (assign (.Name x px) X.env)) (Q:=fun _ s'=>SP X pins D0 .next s') rfl hs (gB hcl) c.kind c.names
  (aY (hi pins s σ H _ I h) fun v s1 h1=>aY h1 fun itv s2 h2=>?_)) (fun _ s' hq=>M8 (M8 hq)) fun _ _ e=>e)
 refine uZ (RR:=fun acc C=>compPost (model X.prog X.w) X.A X.xe (some (assign (.Name x px) X.env)) (fun _ s'=>SP X pins D0 .next s') acc C) c hc hg ht he h2 (fun D C fp H2 x s' I2 f2 hC h'=>Ba tp pc D C fp H2 x s' I2 f2 hC h') ?_;intro D C s' H' m I' hn hC hz hp hL hcells q;show Nf _ _ (assign (.Name x px) X.env (.ref D)) _ _ _;refine wpAny_assign_Name (mz (v:= .ref D) I' hN hx0 (.inl hx) rfl (fun s'' I'' hsb=>?_) (.inr hx));obtain⟨a,sb,ha⟩:=hsb;have haC:a≠C:=by
  rcases ha with e|e
  .rw[e];exact hL.symm
  .exact hcells x a e
 refine⟨m,hn.sameBut sb haC.symm,fun h' hs'=>⟨_,H',I''.turned (t':=s''.toks) (fun b o hb e=>hs'.extBut b o hb e) hC hL (.inr hz) hcells hp,q⟩⟩
end
section
variable{prog:M0}{w:M3}{A:M4}{E:MX->MZ->Prop}{s:MZ}
theorem B6{it t:MY}{i:Nat}{items:Array MX}{x:MX}{Q:MX->MZ->Prop}(st:s.heap.IsTupleIter it t i)(ht:s.heap.IsTuple t items)(hx:items[i]?=some x)
  (k:∀h',h'.IsTupleIter it t (i+1)->Nc.SameBut it s.heap h'->Q x {s with heap:=h'}):Nf (model prog w) A (Ni.SmallTypes.nextOf (.ref it)) Q E s:=by
 obtain⟨o,h1,h2,h3⟩:=id st;obtain⟨ol,g1,_,n,g2⟩:=ht;unfold Ni.SmallTypes.nextOf;refine M7 (wpAny_callSpecial?_slot (name:=Mt "__next__") st.typeIs F.slot_tuple_iterator_next (wpAny_call_entry F.slot_tuple_iterator_next st.typeIs F.entry_tuple_iterator_next ?_ (F.args_tuple_iterator_next_1 _)));show Nf _ _ (field (.ref it) 0>>=_) _ _ s;refine M7 (wpAny_field h1 h3 (x:= .ref t) rfl ?_);show Nf _ _ (if(MX.ref t==MX.none)=true then _ else _) _ _ s;rw[if_neg (show¬((MX.ref t==MX.none)=true)from MU)];show Nf _ _ (field (.ref it) 1>>=_) _ _ s;refine M7 (wpAny_field h1 h3 (x:= .int i 0) rfl ?_);show Nf _ _ (seqItems? (.ref t)>>=_) _ _ s;refine M7 (wpAny_seqItems g1 g2 ?_);simp only[Int.toNat_natCast,hx];refine M7 (wpAny_setField h1 h3 (by simp) (M8 ⟨x,rfl,M8 (k _ ?_ (Nc.SameBut.update ..))⟩));exact⟨_,Nc.get?_update_self _ h1 (Obj.isFreed_of_fields (Obj.data_mapFields h3 _)),(Obj.cls_mapFields ..).trans h2,by rw[Obj.data_mapFields h3];simp[rawInt]⟩
theorem zC{it t:MY}{i:Nat}{items:Array MX}{Q:MX->MZ->Prop}(hh:A.handled=none)(st:s.heap.IsTupleIter it t i)(ht:s.heap.IsTuple t items)(hx:items[i]?=none)
  (k:∀h' e,Nc.ExtBut it s.heap h'->(∃o,h'.get? e=some o/\o.cls= .type "StopIteration")->E (.ref e) {s with heap:=h'}):Nf (model prog w) A (Ni.SmallTypes.nextOf (.ref it)) Q E s:=by
 obtain⟨o,h1,h2,h3⟩:=id st;obtain⟨ol,g1,_,n,g2⟩:=ht;unfold Ni.SmallTypes.nextOf;refine M7 (wpAny_callSpecial?_slot (name:=Mt "__next__") st.typeIs F.slot_tuple_iterator_next (wpAny_call_entry F.slot_tuple_iterator_next st.typeIs F.entry_tuple_iterator_next ?_ (F.args_tuple_iterator_next_1 _)));show Nf _ _ (field (.ref it) 0>>=_) _ _ s;refine M7 (wpAny_field h1 h3 (x:= .ref t) rfl ?_);show Nf _ _ (if(MX.ref t==MX.none)=true then _ else _) _ _ s;rw[if_neg (show¬((MX.ref t==MX.none)=true)from MU)];show Nf _ _ (field (.ref it) 1>>=_) _ _ s;refine M7 (wpAny_field h1 h3 (x:= .int i 0) rfl ?_);show Nf _ _ (seqItems? (.ref t)>>=_) _ _ s;refine M7 (wpAny_seqItems g1 g2 ?_);simp only[Int.toNat_natCast,hx];refine M7 (wpAny_rule (M7 (wpAny_setField h1 h3 (by simp) ?_)));show Nf _ _ (newExc (.type "StopIteration") []>>=_) _ _ _;refine M7 ?_;simp only[newExc,newTuple];refine M7 (wpAny_newObj_type ?_ (by size_fits));refine M7 (m:=firstArgMember _ _) (wpAny_of_eq (a:=MX.none) (by first|rfl|(simp only[firstArgMember];rfl)) ?_);refine wpAny_newObj_type ?_ (by size_fits);simp only[raiseNew];refine M7 (wpAny_handled ?_)
 first|rw[show A.in1.handled=none from hh]|rw[hh]
 refine M7 (M8 (wpAny_throw ?_));exact k _ _ (((Nc.SameBut.update ..).extBut.push _).push _) ⟨_,Nc.get?_push_size _ rfl,rfl⟩
theorem yY(hh:A.handled=none){it t:MY}(items:Array MX)(hne:t≠it):Draws prog w A it [it,t] items.size (fun i v=>items[i]?=some v) (fun i h=>h.IsTupleIter it t i/\h.IsTuple t items)where
 live:=fun i h st=>by obtain⟨⟨o,e,_⟩,_⟩:=st;exact⟨o,e⟩
 frame:=fun i h h' st k=>⟨st.1.at fun o e=>k it (by simp) o e,by
  obtain⟨o,e,r⟩:=st.2;exact⟨o,k t (by simp) o e,r⟩⟩
 item:=fun i s Q E hi st hQ=>B6 st.1 st.2 (Array.getElem?_eq_getElem hi) fun h' st' sb=>hQ _ h' s.toks (Array.getElem?_eq_getElem hi) ⟨st',st.2.extBut sb.extBut hne⟩ sb
 done:=fun s Q E st hE=>zC hh st.1 st.2 (Array.getElem?_eq_none (MP _)) hE
structure sS(z TI TO i1 i2:MY)(f1 f2:List MY):Prop where
 TIz:TI≠z
 TOz:TO≠z
 TITO:TI≠TO
 z1:z∉f1
 z2:z∉f2
 O1:TO∉f1
 O2:TO∉f2
 m1:i1∈f1
 m2:i2∈f2
 i12:i1∉f2
 Mn:i2∉f1
 I1:TI≠i1
 I2:TI≠i2
variable{n1 n2:Nat}{P1 P2:Nat->MX->Prop}{S1 S2:Nat->Nc->Prop}{z TI TO i1 i2:MY}{f1 f2:List MY}
theorem Ab{k1 k2:Nat}{a b:MX}{Q:MX->MZ->Prop}(D1:∀A':M4,A'.handled=A.handled->Draws prog w A' i1 f1 n1 P1 S1)(D2:∀A':M4,A'.handled=A.handled->Draws prog w A' i2 f2 n2 P2 S2)(D:sS z TI TO i1 i2 f1 f2)
  (hz:IsZip s.heap z TI TO .none) (hTI:IsPair s.heap TI (.ref i1) (.ref i2)) (hTO:IsPair s.heap TO a b) (h1:S1 k1 s.heap) (h2:S2 k2 s.heap) (l1:k1<n1) (l2:k2<n2)
  (hQ:∀x y h' tk,P1 k1 x->P2 k2 y->IsZip h' z TI TO (rawInt s.heap.objs.size)->IsPair h' TO x y->S1 (k1+1) h'->S2 (k2+1) h'->IsPair h' s.heap.objs.size x y->h'.objs.size=s.heap.objs.size+1->
   (∀c o,c≠z->c≠TO->c≠i1->c≠i2->s.heap.get? c=some o->h'.get? c=some o)->Q (.ref s.heap.objs.size) {s with heap:=h',toks:=tk}):
  Nf (model prog w) A (Ni.«zip.__next__» ⟨[.ref z],[]⟩) (fun fin s'=>∃v,fin= .done (.ret v)/\Q v s') E s:=by
 have iz1:i1≠z:=fun e=>D.z1 (e▸D.m1);have iz2:i2≠z:=fun e=>D.z2 (e▸D.m2);have io1:i1≠TO:=fun e=>D.O1 (e▸D.m1);have io2:i2≠TO:=fun e=>D.O2 (e▸D.m2);have i12:i1≠i2:=fun e=>D.i12 (e▸D.m2);have fr1:∀{k b h h'},b∉f1->Nc.ExtBut b h h'->S1 k h->S1 k h':=fun hb x st=>(D1 A rfl).frame _ _ _ st fun c hc o e=>x c o (fun q=>hb (q▸hc)) e;have fr2:∀{k b h h'},b∉f2->Nc.ExtBut b h h'->S2 k h->S2 k h':=fun hb x st=>(D2 A rfl).frame _ _ _ st fun c hc o e=>x c o (fun q=>hb (q▸hc)) e;show Nf _ _ (field (.ref z) 2>>=_) _ _ _;refine M7 (wpAny_field hz rfl (x:= .bool false) rfl ?_);show Nf _ _ (field (.ref z) 3>>=_) _ _ _;refine M7 (wpAny_field hz rfl (x:= .ref TI) rfl ?_);refine M7 (wpAny_seqItems hTI rfl ?_);show Nf _ _ (Ni.SmallTypes.ownedTupleIsFree (.ref z)>>=_) _ _ _;refine M7 ?_;unfold Ni.SmallTypes.ownedTupleIsFree;refine M7 (wpAny_field hz rfl (x:= .none) rfl (M8 ?_));simp only[if_true];refine M7 (wpAny_rule ?_);refine M7 (wpAny_field hz rfl (x:= .ref TO) rfl ?_);refine M7 (wpAny_setField_rec hz (by simp) fun g1 hz1 x1=>?_);replace hz1:IsZip g1 z TI TO .ellipsis:=hz1;have hTO1:IsPair g1 TO a b:=x1.extBut _ _ D.TOz hTO;have h11:=fr1 D.z1 x1.extBut h1;have h21:=fr2 D.z2 x1.extBut h2;refine M7 ?_;simp only[List.zipIdx_cons,List.zipIdx_nil,List.forIn_cons,List.forIn_nil];refine M7 (M7 (wpAny_onRaise ?_));show Nf _ _ (Ni.SmallTypes.nextOf (.ref i1)>>=_) _ _ _;refine M7 ((D1 _ rfl).item k1 _ _ _ l1 h11 fun x g2 t2 px h12 x2=>M8 ?_);have hTO2:IsPair g2 TO a b:=x2.extBut _ _ (Ne.symm io1) hTO1;have h22:=fr2 D.i12 x2.extBut h21;refine M7 (wpAny_seqItems hTO2 rfl ?_);refine M7 (wpAny_updateSeq_pair hTO2 fun g3 hTO3 x3=>?_);replace hTO3:IsPair g3 TO x b:=hTO3;refine M7 (wpAny_letGo (M8 ?_));have h13:=fr1 D.O1 x3.extBut h12;have h23:=fr2 D.O2 x3.extBut h22;refine M7 (M7 (wpAny_onRaise ?_));show Nf _ _ (Ni.SmallTypes.nextOf (.ref i2)>>=_) _ _ _;refine M7 ((D2 _ rfl).item k2 _ _ _ l2 h23 fun y g4 t4 py h24 x4=>M8 ?_);have hTO4:IsPair g4 TO x b:=x4.extBut _ _ (Ne.symm io2) hTO3;have h14:=fr1 D.Mn x4.extBut h13;refine M7 (wpAny_seqItems hTO4 rfl ?_);refine M7 (wpAny_updateSeq_pair hTO4 fun g5 hTO5 x5=>?_);replace hTO5:IsPair g5 TO x y:=hTO5;have h15:=fr1 D.O1 x5.extBut h14;have h25:=fr2 D.O2 x5.extBut h24;refine M7 (wpAny_letGo (M8 (M8 ?_)));refine M7 (wpAny_seqItems hTO5 rfl ?_);refine M7 (wpAny_newTuple ?_);have hsz:g5.objs.size=s.heap.objs.size:=by rw[x5.1,x4.1,x3.1,x2.1,x1.1]
 have hz5:IsZip g5 z TI TO .ellipsis:=x5.extBut _ _ (Ne.symm D.TOz) (x4.extBut _ _ (Ne.symm iz2) (x3.extBut _ _ (Ne.symm D.TOz) (x2.extBut _ _ (Ne.symm iz1) hz1)));have hk5:∀c o,c≠z->c≠TO->c≠i1->c≠i2->s.heap.get? c=some o->g5.get? c=some o:=fun c o c1 c2 c3 c4 e=>
  x5.extBut _ _ c2 (x4.extBut _ _ c4 (x3.extBut _ _ c2 (x2.extBut _ _ c3 (x1.extBut _ _ c1 e))))
 have zlt:z<g5.objs.size:=Nc.lt_size hz5;show Nf _ _ (Ni.SmallTypes.ownedTupleHandOut (.ref z) (.ref g5.objs.size)>>=_) _ _ _;refine M7 ?_;unfold Ni.SmallTypes.ownedTupleHandOut;have hz6:IsZip (g5.push {cls:= .type "tuple",data:= .seq #[x,y]}) z TI TO .ellipsis:=Nc.get?_push_of_some _ hz5;refine M7 (wpAny_setField_rec hz6 (by simp) fun g7 hz7 x7=>?_);replace hz7:IsZip g7 z TI TO (rawInt g5.objs.size):=hz7;refine wpAny_setField_rec hz7 (by simp) fun g8 hz8 x8=>?_;replace hz8:IsZip g8 z TI TO (rawInt g5.objs.size):=hz8;have up:∀c o,c≠z->g5.get? c=some o->g8.get? c=some o:=fun c o c1 e=>x8.extBut _ _ c1 (x7.extBut _ _ c1 (Nc.get?_push_of_some _ e));have hT8:IsPair g8 g5.objs.size x y:=x8.extBut _ _ (Nat.ne_of_gt zlt) (x7.extBut _ _ (Nat.ne_of_gt zlt) (Nc.get?_push_size _ rfl));have sz8:g8.objs.size=g5.objs.size+1:=by rw[x8.1,x7.1,Nc.size_push]
 rw[hsz]at hz8 hT8 sz8;refine M8 ⟨_,rfl,?_⟩;show Q (.ref g5.objs.size) _;rw[hsz];exact hQ x y g8 t4 px py hz8 (up _ _ D.TOz hTO5) ((D1 A rfl).frame _ _ _ h15 fun c hc o e=>up c o (fun q=>D.z1 (q▸hc)) e) ((D2 A rfl).frame _ _ _ h25 fun c hc o e=>up c o (fun q=>D.z2 (q▸hc)) e) hT8 sz8 fun c o c1 c2 c3 c4 e=>up c o c1 (hk5 c o c1 c2 c3 c4 e)
theorem BG{k:Nat}{a b:MX}{Q:Fin->MZ->Prop}(D1:∀A':M4,A'.handled=A.handled->Draws prog w A' i1 f1 n1 P1 S1)(D2:∀A':M4,A'.handled=A.handled->Draws prog w A' i2 f2 n2 P2 S2)(D:sS z TI TO i1 i2 f1 f2)
  (hz:IsZip s.heap z TI TO .none) (hTI:IsPair s.heap TI (.ref i1) (.ref i2)) (hTO:IsPair s.heap TO a b) (h1:S1 k s.heap) (h2:S2 k s.heap) (hk:k=min n1 n2)
  (hE:∀h' e tk,(∀c o,c≠z->c≠TO->c≠i1->c≠i2->s.heap.get? c=some o->h'.get? c=some o)->(∃o,h'.get? e=some o/\o.cls= .type "StopIteration")->E (.ref e) {s with heap:=h',toks:=tk}):
  Nf (model prog w) A (Ni.«zip.__next__» ⟨[.ref z],[]⟩) Q E s:=by
 have iz1:i1≠z:=fun e=>D.z1 (e▸D.m1);have iz2:i2≠z:=fun e=>D.z2 (e▸D.m2);have io1:i1≠TO:=fun e=>D.O1 (e▸D.m1);have fr1:∀{k b h h'},b∉f1->Nc.ExtBut b h h'->S1 k h->S1 k h':=fun hb x st=>(D1 A rfl).frame _ _ _ st fun c hc o e=>x c o (fun q=>hb (q▸hc)) e;have fr2:∀{k b h h'},b∉f2->Nc.ExtBut b h h'->S2 k h->S2 k h':=fun hb x st=>(D2 A rfl).frame _ _ _ st fun c hc o e=>x c o (fun q=>hb (q▸hc)) e;show Nf _ _ (field (.ref z) 2>>=_) _ _ _;refine M7 (wpAny_field hz rfl (x:= .bool false) rfl ?_);show Nf _ _ (field (.ref z) 3>>=_) _ _ _;refine M7 (wpAny_field hz rfl (x:= .ref TI) rfl ?_);refine M7 (wpAny_seqItems hTI rfl ?_);show Nf _ _ (Ni.SmallTypes.ownedTupleIsFree (.ref z)>>=_) _ _ _;refine M7 ?_;unfold Ni.SmallTypes.ownedTupleIsFree;refine M7 (wpAny_field hz rfl (x:= .none) rfl (M8 ?_));simp only[if_true];refine M7 (wpAny_rule ?_);refine M7 (wpAny_field hz rfl (x:= .ref TO) rfl ?_);refine M7 (wpAny_setField_rec hz (by simp) fun g1 hz1 x1=>?_);replace hz1:IsZip g1 z TI TO .ellipsis:=hz1;have hTO1:IsPair g1 TO a b:=x1.extBut _ _ D.TOz hTO;have h11:=fr1 D.z1 x1.extBut h1;have h21:=fr2 D.z2 x1.extBut h2;refine M7 ?_;simp only[List.zipIdx_cons,List.zipIdx_nil,List.forIn_cons,List.forIn_nil];refine M7 (M7 (wpAny_onRaise ?_));show Nf _ _ (Ni.SmallTypes.nextOf (.ref i1)>>=_) _ _ _;by_cases c:n1<=n2
 .have e1:k=n1:=by lia
  subst e1;refine M7 ((D1 _ rfl).done _ _ _ h11 fun g2 e x2 he=>?_);obtain⟨oe,e1,e2⟩:=he;have hz2:IsZip g2 z TI TO .ellipsis:=x2 _ _ (Ne.symm iz1) hz1;have hez:e≠z:=fun q=>by subst q;rw[hz2]at e1;cases e1;simp at e2
  refine wpAny_setField_rec hz2 (by simp) fun g3 _ x3=>hE g3 e _ (fun c o c1 _ c3 _ q=>x3.extBut _ _ c1 (x2 _ _ c3 (x1.extBut _ _ c1 q))) ⟨oe,x3.extBut _ _ hez e1,e2⟩
 .have e2:k=n2:=by lia
  subst e2;refine M7 ((D1 _ rfl).item k _ _ _ (by lia) h11 fun x g2 t2 px h12 x2=>M8 ?_);have hTO2:IsPair g2 TO a b:=x2.extBut _ _ (Ne.symm io1) hTO1;have h22:=fr2 D.i12 x2.extBut h21;refine M7 (wpAny_seqItems hTO2 rfl ?_);refine M7 (wpAny_updateSeq_pair hTO2 fun g3 hTO3 x3=>?_);refine M7 (wpAny_letGo (M8 ?_));have h23:=fr2 D.O2 x3.extBut h22;refine M7 (M7 (wpAny_onRaise ?_));show Nf _ _ (Ni.SmallTypes.nextOf (.ref i2)>>=_) _ _ _;refine M7 ((D2 _ rfl).done _ _ _ h23 fun g4 e x4 he=>?_);obtain⟨oe,e1,e2⟩:=he;have hz4:IsZip g4 z TI TO .ellipsis:=x4 _ _ (Ne.symm iz2) (x3.extBut _ _ (Ne.symm D.TOz) (x2.extBut _ _ (Ne.symm iz1) hz1));have hez:e≠z:=fun q=>by subst q;rw[hz4]at e1;cases e1;simp at e2
  refine wpAny_setField_rec hz4 (by simp) fun g5 _ x5=>hE g5 e _ (fun c o c1 c2 c3 c4 q=>x5.extBut _ _ c1 (x4 _ _ c4 (x3.extBut _ _ c2 (x2.extBut _ _ c3 (x1.extBut _ _ c1 q))))) ⟨oe,x5.extBut _ _ hez e1,e2⟩
end
structure Src(P:M0)(w:M3)(K:W.Frag)(base it:MY)(xs:List V)(T:Nat->Nc->Prop)(G:Hp->Prop):Prop where
 obj:∀i h,T i h->∃o,h.get? it=some o/\∀v,o.data≠.cell v
 keep:∀i h h',T i h->(∀o,h.get? it=some o->h'.get? it=some o)->T i h'
 dr:∀(X:Cx),X.prog=P->X.w=w->X.K=K->∀(pins:List (MY×Obj))(σ:St)(H:Hp)(s:MZ),Inv X pins σ H s->G H->∃(f:List MY)(PP:Nat->MX->Prop)(S:Nat->Nc->Prop),it∈f/\(∀c∈f,c=it\/@LT.lt Nat _ c base)/\
  (∀i,T i s.heap->S i s.heap)/\(∀i h,S i h->T i h)/\(∀i u,PP i u->∃v,xs[i]?=some v/\RelV v u)/\∀A:M4,A.handled=none->Draws P w A it f xs.length PP S
theorem src_list{P:M0}{w:M3}{K:W.Frag}{base it a:MY}{xs:List V}(h1: @LE.le Nat _ base it)(h2: @LT.lt Nat _ a base):Src P w K base it xs (fun i h=>h.IsListIter it a i) (fun H=>aJ K H a xs)where
 obj:=fun i h st=>by
  obtain⟨o,e,_,d⟩:=st;exact⟨o,e,fun v z=>by rw[d]at z;cases z⟩
 keep:=fun i h h' st k=>st.at k
 dr:=by
  intro X hP hw hK pins σ H s I g;subst hP hw hK;obtain⟨its,rv,pl,_⟩:=I.list g;have hne:a≠it:=fun e=>by subst e;exact absurd (MQ h2 h1) (Nat.lt_irrefl _)
  refine⟨[it,a],fun i v=>its.toArray[i]?=some v,fun i h=>h.IsListIter it a i/\h.IsList a its.toArray,by simp,fun c hc=>?_,fun i st=>⟨st,pl.isList⟩,fun i h st=>st.1,fun i u hu=>?_,fun A hh=>?_⟩
  .simp only[MC,MM,or_false]at hc
   exact hc.imp id fun e=>by rw[e];exact h2
  .have hu:its[i]?=some u:=by simpa using hu
   have hi:i<xs.length:=by
    have:=rv.length;have:=(List.getElem?_eq_some_iff.mp hu).1;lia
   obtain⟨u',hu',r⟩:=rv.get (Mx hi);rw[hu]at hu';cases hu';exact⟨_,Mx hi,r⟩
  .have D:=Draws.list (prog:=X.prog) (w:=X.w) hh it a hne its.toArray
   rw[show its.toArray.size=xs.length by simp[rv.length]]at D;exact D
theorem Dz{P:M0}{w:M3}{K:W.Frag}{base it a:MY}{xs:List V}(h1: @LE.le Nat _ base it)(h2: @LT.lt Nat _ a base):Src P w K base it xs (fun i h=>h.IsTupleIter it a i) (fun H=>dI K H a xs)where
 obj:=fun i h st=>by
  obtain⟨o,e,_,d⟩:=st;exact⟨o,e,fun v z=>by rw[d]at z;cases z⟩
 keep:=fun i h h' st k=>st.at k
 dr:=by
  intro X hP hw hK pins σ H s I g;subst hP hw hK;obtain⟨its,rv,pl,_⟩:=I.tuple g;have hne:a≠it:=fun e=>by subst e;exact absurd (MQ h2 h1) (Nat.lt_irrefl _)
  refine⟨[it,a],fun i v=>its.toArray[i]?=some v,fun i h=>h.IsTupleIter it a i/\h.IsTuple a its.toArray,by simp,fun c hc=>?_,fun i st=>⟨st,pl⟩,fun i h st=>st.1,fun i u hu=>?_,fun A hh=>?_⟩
  .simp only[MC,MM,or_false]at hc
   exact hc.imp id fun e=>by rw[e];exact h2
  .have hu:its[i]?=some u:=by simpa using hu
   have hi:i<xs.length:=by
    have:=rv.length;have:=(List.getElem?_eq_some_iff.mp hu).1;lia
   obtain⟨u',hu',r⟩:=rv.get (Mx hi);rw[hu]at hu';cases hu';exact⟨_,Mx hi,r⟩
  .have D:=yY (prog:=X.prog) (w:=X.w) hh its.toArray hne
   rw[show its.toArray.size=xs.length by simp[rv.length]]at D;exact D
def Iq(xs ys:List V)(G1 G2:Hp->Prop):It:=
 ⟨fun i H=>i<min xs.length ys.length/\G1 H/\G2 H,fun i H x H'=>∃t v u,H t=none/\x= .ref t/\xs[i]?=some v/\ys[i]?=some u/\H'=upd H t (.tup [v,u]),fun i H=>i=min xs.length ys.length/\G1 H/\G2 H⟩
theorem EM{P:M0}{w:M3}{K:W.Frag}{elts:List Expr}{k:Nat}{pos:Pos}{base z TI TO i1 i2:MY}{xs ys:List V}{T1 T2:Nat->Nc->Prop}{G1 G2:Hp->Prop}(s1:Src P w K base i1 xs T1 G1)(s2:Src P w K base i2 ys T2 G2)
  (nd:[z,TI,TO,i1,i2].Nodup) (ge:∀c∈[z,TI,TO,i1,i2],@LE.le Nat _ base c):
  Turn P w K (.Tuple elts k pos) (Iq xs ys G1 G2) [z,TI,TO,i1,i2] z (fun i h=>IsZip h z TI TO .none/\IsPair h TI (.ref i1) (.ref i2)/\(∃x y,IsPair h TO x y)/\T1 i h/\T2 i h)where
 mem:=by simp
 obj:=fun i h st c hc=>by
  obtain⟨hz,hTI,⟨x,y,hTO⟩,h1,h2⟩:=st;simp only[MC,MM,or_false]at hc;rcases hc with rfl|rfl|rfl|rfl|rfl
  .exact⟨_,hz,fun v z=>by cases z⟩
  .exact⟨_,hTI,fun v z=>by cases z⟩
  .exact⟨_,hTO,fun v z=>by cases z⟩
  .exact s1.obj _ _ h1
  .exact s2.obj _ _ h2
 keep:=fun i h h' st kk=>by
  obtain⟨hz,hTI,⟨x,y,hTO⟩,h1,h2⟩:=st;exact⟨kk z (by simp) _ hz,kk TI (by simp) _ hTI,⟨x,y,kk TO (by simp) _ hTO⟩,s1.keep _ _ _ h1 fun o q=>kk i1 (by simp) o q,s2.keep _ _ _ h2 fun o q=>kk i2 (by simp) o q⟩
 item:=by
  intro X hP hw hK hc i pins s σ H E I hf st hg;obtain⟨hi,hq1,hq2⟩:=hg;obtain⟨f1,P1,S1,m1,b1,a1,c1,r1,D1⟩:=s1.dr X hP hw hK pins σ H s I hq1;obtain⟨f2,P2,S2,m2,b2,a2,c2,r2,D2⟩:=s2.dr X hP hw hK pins σ H s I hq2;obtain⟨hz,hTI,⟨q1,q2,hTO⟩,h1,h2⟩:=st;simp only[List.nodup_cons,MC,MM,or_false,not_or,List.nodup_nil,and_true,not_false_eq_true]at nd;have no1:∀c∈[z,TI,TO,i1,i2],c≠i1->c∉f1:=fun c hc hne hm=>(b1 c hm).elim hne fun l=>absurd (MQ l (ge c hc)) (Nat.lt_irrefl _);have no2:∀c∈[z,TI,TO,i1,i2],c≠i2->c∉f2:=fun c hc hne hm=>(b2 c hm).elim hne fun l=>absurd (MQ l (ge c hc)) (Nat.lt_irrefl _);have ap:sS z TI TO i1 i2 f1 f2:=⟨fun e=>nd.1.1 e.symm,fun e=>nd.1.2.1 e.symm,nd.2.1.1,no1 z (by simp) nd.1.2.2.1,no2 z (by simp) nd.1.2.2.2,no1 TO (by simp) nd.2.2.1.1,no2 TO (by simp) nd.2.2.1.2,m1,m2,no2 i1 (by simp) nd.2.2.2,no1 i2 (by simp) (fun e=>nd.2.2.2 e.symm),nd.2.1.2.1,nd.2.1.2.2⟩;have hhan:X.A.handled=none:=I.ok.hd hc;have hT:s.TypeIs (.ref z) "zip" :=⟨_,hz,rfl⟩;unfold pyNext;subst hP hw;refine M7 (wpAny_attempt (wpAny_callSpecial?_slot (name:=Mt "__next__") hT F.slot_zip_next (wpAny_call_entry F.slot_zip_next hT F.entry_zip_next (Ab (fun A' e=>D1 A' (e.trans hhan)) (fun A' e=>D2 A' (e.trans hhan)) ap hz hTI hTO (a1 _ h1) (a2 _ h2) (by lia) (by lia) fun x y h' tk px py hz' hTO' h1' h2' hpT hsz hk=>?_) (F.args_zip_next_1 _))));refine M8 ⟨_,rfl,?_⟩;obtain⟨v1,e1,rv1⟩:=r1 _ _ px;obtain⟨v2,e2,rv2⟩:=r2 _ _ py;refine wpAny_letOwnedTupleGo_zip hz' fun h'' hz2 sb=>?_;have lt:∀{c o},s.heap.get? c=some o->c≠s.heap.objs.size:=fun e=>MR (Nc.lt_size e);have iz1:i1≠z:=fun e=>nd.1.2.2.1 e.symm;have iz2:i2≠z:=fun e=>nd.1.2.2.2 e.symm;have kk:∀c o,c∉[z,TI,TO,i1,i2]->s.heap.get? c=some o->h''.get? c=some o:=fun c o hc e=>by
   simp only[MC,MM,or_false,not_or]at hc;exact sb.extBut _ _ hc.1 (hk c o hc.1 hc.2.2.1 hc.2.2.2.1 hc.2.2.2.2 e)
  have I1:Inv X pins σ H {s with heap:=h'',toks:=tk}:=I.nP (fp:=[z,TI,TO,i1,i2]) (fun b o hb q=>kk b o hb q) hf;have fT:iK X pins H s.heap.objs.size:=I.sV (MP _) (I.aX.fresh (MP _));have hT'':IsTup h'' s.heap.objs.size #[x,y]:=⟨_,sb.extBut _ _ (fun e=>lt hz e.symm) hpT,rfl,_,rfl⟩;have hTI2:IsPair h'' TI (.ref i1) (.ref i2):=sb.extBut _ _ (fun e=>nd.1.1 e.symm) (hk TI _ (fun e=>nd.1.1 e.symm) nd.2.1.1 nd.2.1.2.1 nd.2.1.2.2 hTI);refine⟨.ref s.heap.objs.size,upd H s.heap.objs.size (.tup [v1,v2]),I1.xU fT ⟨(by show 2<=M5;decide),[x,y],.cons rv1 (.cons rv2 .nil),hT''⟩,rfl,⟨_,v1,v2,fT.1,rfl,e1,e2,rfl⟩,⟨hz2,hTI2,⟨x,y,sb.extBut _ _ (fun e=>nd.1.2.1 e.symm) hTO'⟩,s1.keep _ _ _ (c1 _ _ h1') fun o e=>sb.extBut _ _ iz1 e,s2.keep _ _ _ (c2 _ _ h2') fun o e=>sb.extBut _ _ iz2 e⟩,fun c hc=>?_⟩;have hcT:c≠s.heap.objs.size:=by
   have hcc:=hc;simp only[MC,MM,or_false]at hcc;rcases hcc with e|e|e|e|e
   .rw[e];exact lt hz
   .rw[e];exact lt hTI
   .rw[e];exact lt hTO
   .obtain⟨o,q,_⟩:=s1.obj _ _ h1;rw[e];exact lt q
   .obtain⟨o,q,_⟩:=s2.obj _ _ h2;rw[e];exact lt q
  rw[aq hcT];exact(hf c hc).1
 done:=by
  intro X hP hw hK hc i pins s σ H E I hf st hg;obtain⟨hi,hq1,hq2⟩:=hg;obtain⟨f1,P1,S1,m1,b1,a1,c1,r1,D1⟩:=s1.dr X hP hw hK pins σ H s I hq1;obtain⟨f2,P2,S2,m2,b2,a2,c2,r2,D2⟩:=s2.dr X hP hw hK pins σ H s I hq2;obtain⟨hz,hTI,⟨q1,q2,hTO⟩,h1,h2⟩:=st;simp only[List.nodup_cons,MC,MM,or_false,not_or,List.nodup_nil,and_true,not_false_eq_true]at nd;have no1:∀c∈[z,TI,TO,i1,i2],c≠i1->c∉f1:=fun c hc hne hm=>(b1 c hm).elim hne fun l=>absurd (MQ l (ge c hc)) (Nat.lt_irrefl _);have no2:∀c∈[z,TI,TO,i1,i2],c≠i2->c∉f2:=fun c hc hne hm=>(b2 c hm).elim hne fun l=>absurd (MQ l (ge c hc)) (Nat.lt_irrefl _);have ap:sS z TI TO i1 i2 f1 f2:=⟨fun e=>nd.1.1 e.symm,fun e=>nd.1.2.1 e.symm,nd.2.1.1,no1 z (by simp) nd.1.2.2.1,no2 z (by simp) nd.1.2.2.2,no1 TO (by simp) nd.2.2.1.1,no2 TO (by simp) nd.2.2.1.2,m1,m2,no2 i1 (by simp) nd.2.2.2,no1 i2 (by simp) (fun e=>nd.2.2.2 e.symm),nd.2.1.2.1,nd.2.1.2.2⟩;have hhan:X.A.handled=none:=I.ok.hd hc;have hT:s.TypeIs (.ref z) "zip" :=⟨_,hz,rfl⟩;unfold pyNext;subst hP hw;refine M7 (wpAny_attempt (wpAny_callSpecial?_slot (name:=Mt "__next__") hT F.slot_zip_next (wpAny_call_entry F.slot_zip_next hT F.entry_zip_next (BG (fun A' e=>D1 A' (e.trans hhan)) (fun A' e=>D2 A' (e.trans hhan)) ap hz hTI hTO (a1 _ h1) (a2 _ h2) hi fun h' e tk hk he=>?_) (F.args_zip_next_1 _))));obtain⟨o,ho,hcl⟩:=he;refine M7 (wpAny_isInstance (T:= "StopIteration") (b:=true) ⟨o,ho,hcl⟩ isSubtype_stop ?_);exact M8 ⟨rfl,I.nP (fp:=[z,TI,TO,i1,i2]) (fun b o hb q=>by
   simp only[MC,MM,or_false,not_or]at hb;exact hk b o hb.1 hb.2.2.1 hb.2.2.2.1 hb.2.2.2.2 q) hf⟩
 self:=fun A i s Q E st hQ=>wpAny_pyIter_zip st.1 hQ
theorem IY(n:Nat):[n+4,n+2,n+3,n,n+1].Nodup:=by
 simp only[List.nodup_cons,MC,MM,or_false,not_or,List.nodup_nil,and_true,not_false_eq_true];lia
section
variable{prog:M0}{w:M3}{A:M4}{E:MX->MZ->Prop}{s:MZ}
theorem tj(l1 l2:MY)(xs ys:Array MX):
  Meets (Ni.«zip.__new__» ⟨[.type "zip",.ref l1,.ref l2],[]⟩) (fun _ R s=>s.heap.IsTuple l1 xs/\s.heap.IsList l2 ys/\
   R (.ok (.ret (.ref (s.heap.objs.size+4)))) {s with heap:=((((s.heap.push {cls:= .type "tuple_iterator",data:= .fields #[.ref l1,.int 0 0]}).push {cls:= .type "list_iterator",data:= .fields #[.ref l2,.int 0 0]}).push {cls:= .type "tuple",data:= .seq #[.ref s.heap.objs.size,.ref (s.heap.objs.size+1)]}).push {cls:= .type "tuple",data:= .seq #[.none,.none]}).push {cls:= .type "zip",data:= .fields #[.none,.bool false,.bool false,.ref (s.heap.objs.size+2),.ref (s.heap.objs.size+3)]}}):=
 .of_wp fun prog w A R s h=>by
  obtain⟨hp,g,d,tk,os⟩:=s;obtain⟨hl1,hl2,h⟩:=h;have hsub:=sub_zip;have hL1:Nc.IsTuple (MZ.heap ⟨hp,g,d,tk,os⟩) l1 xs:=hl1;have hL2:Nc.IsList (MZ.heap ⟨hp.push {cls:= .type "tuple_iterator",data:= .fields #[.ref l1,.int 0 0]},g,d,tk,os⟩) l2 ys:=Nc.IsList.push hl2 _;simp only[Nc.size_push]at h
  wp_walk using wpAny_pyIter_tuple hL1,wpAny_pyIter_list hL2
  simp only[Nc.size_push,Nat.add_assoc];exact⟨_,rfl,h⟩
end
section
variable{prog:M0}{w:M3}{A:M4}{E:MX->MZ->Prop}{s:MZ}
theorem u3{l1 l2:MY}{xs ys:Array MX}{Q:MX->MZ->Prop}(hl1:s.heap.IsTuple l1 xs)(hl2:s.heap.IsList l2 ys)
  (h:∀h',IsZip h' (s.heap.objs.size+4) (s.heap.objs.size+2) (s.heap.objs.size+3) .none->IsPair h' (s.heap.objs.size+2) (.ref s.heap.objs.size) (.ref (s.heap.objs.size+1))->
   IsPair h' (s.heap.objs.size+3) .none .none->h'.IsTupleIter s.heap.objs.size l1 0->h'.IsListIter (s.heap.objs.size+1) l2 0->
   (∀c o,s.heap.get? c=some o->h'.get? c=some o)->Q (.ref (s.heap.objs.size+4)) {s with heap:=h'}):
  Nf (model prog w) A (call (.type "zip") [.ref l1,.ref l2]) Q E s:=by
 refine callType_new F.called_zip (by decide) (F.typeCall_zip_2 _ _) (F.newCall_zip_2 _ _) (fun obj=>F.args_object_init_3 obj _ _) F.entry_zip_new
  (tj l1 l2 xs ys) ⟨hl1,hl2,?_⟩
 have up:∀(h:Nc)(o:Obj) c x,h.get? c=some x->(h.push o).get? c=some x:=fun h o c x e=>Nc.get?_push_of_some _ e;have at0:∀(h:Nc)(o:Obj)(n:Nat),h.objs.size=n->o.isFreed=false->(h.push o).get? n=some o:=fun h o n e f=>by rw[←e];exact Nc.get?_push_size _ f
 generalize hg:((((s.heap.push {cls:= .type "tuple_iterator",data:= .fields #[.ref l1,.int 0 0]}).push {cls:= .type "list_iterator",data:= .fields #[.ref l2,.int 0 0]}).push {cls:= .type "tuple",data:= .seq #[.ref s.heap.objs.size,.ref (s.heap.objs.size+1)]}).push {cls:= .type "tuple",data:= .seq #[.none,.none]}).push {cls:= .type "zip",data:= .fields #[.none,.bool false,.bool false,.ref (s.heap.objs.size+2),.ref (s.heap.objs.size+3)]}=g;have z4:IsZip g (s.heap.objs.size+4) (s.heap.objs.size+2) (s.heap.objs.size+3) .none:=by
  rw[←hg];exact at0 _ _ _ (by simp only[Nc.size_push]) rfl
 have z3:IsPair g (s.heap.objs.size+3) .none .none:=by
  rw[←hg];exact up _ _ _ _ (at0 _ _ _ (by simp only[Nc.size_push]) rfl)
 have z2:IsPair g (s.heap.objs.size+2) (.ref s.heap.objs.size) (.ref (s.heap.objs.size+1)):=by
  rw[←hg];exact up _ _ _ _ (up _ _ _ _ (at0 _ _ _ (by simp only[Nc.size_push]) rfl))
 have z1:g.IsListIter (s.heap.objs.size+1) l2 0:=by
  rw[←hg];exact⟨_,up _ _ _ _ (up _ _ _ _ (up _ _ _ _ (at0 _ _ _ (by simp only[Nc.size_push]) rfl))),rfl,rfl⟩
 have z0:g.IsTupleIter s.heap.objs.size l1 0:=by
  rw[←hg];exact⟨_,up _ _ _ _ (up _ _ _ _ (up _ _ _ _ (up _ _ _ _ (at0 _ _ _ rfl rfl)))),rfl,rfl⟩
 have kk:∀c o,s.heap.get? c=some o->g.get? c=some o:=fun c o e=>by
  rw[←hg];exact up _ _ _ _ (up _ _ _ _ (up _ _ _ _ (up _ _ _ _ (up _ _ _ _ e))))
 exact⟨⟨_,z4,rfl⟩,h _ z4 z2 z3 z0 z1 kk⟩
end
def IS(K:W.Frag)(ta:TA):TI:=fun σ H R=>ta σ H fun vs H1=>∃(a b:MY)(xs ys:List V),vs=[.ref a,.ref b]/\dI K H1 a xs/\aJ K H1 b ys/\R (Iq xs ys (fun H=>dI K H a xs) (fun H=>aJ K H b ys)) H1
theorem yc{X:Cx}{K:W.Frag}{e e2:Expr}{ta:TA}{p pos:Pos}{kk:Nat}{elts:List Expr}{tp:Pos}(hK:X.K=K)(hg:Gl X "zip")(hm:X.mg "zip" =none)(ha:PA X [e,e2] ta)
  (hs:Na [e,e2] X.env=(false,eval e X.env)::Na [e2] X.env:=by rfl) (hpl:(Nd pos (Na [e2] X.env)).any (·.1)=false:=by rfl):
  PI X (.Tuple elts kk tp) (.Call (.Name "zip" p) [e,e2] [] pos) (IS K ta):=by
 subst hK;intro pins s σ H R I h;refine Call_ (j8 I hg hm (by decide+kernel:bootBuiltins "zip" =some (.type "zip")) (PyProof.Rows.callWith_type1 (aY (ha pos pins s σ H _ I h) fun us s2 ⟨vs,H2,I2,r1,a,b,xs,ys,e1,hq1,hq2,hR⟩=>?_) hs hpl) (by decide+kernel) (by decide+kernel));subst e1;obtain⟨u,u2,rfl,ru,ru2⟩:=vals2 r1;cases ru;cases ru2;obtain⟨its,rv,pl,_⟩:=I2.tuple hq1;obtain⟨jts,rv2,pl2,_⟩:=I2.list hq2;refine u3 (show s2.heap.IsTuple a its.toArray from pl) pl2.isList fun h' z0 t0 o0 i10 i20 k0=>?_;have lta: @LT.lt Nat _ a s2.heap.objs.size:=by obtain⟨o,e,_⟩:=pl;exact Nc.lt_size e
 have ltb: @LT.lt Nat _ b s2.heap.objs.size:=by obtain⟨o,n,e,_⟩:=pl2;exact Nc.lt_size e
 refine wpAny_pyIter_zip z0 ?_;have le:∀c∈[s2.heap.objs.size+4,s2.heap.objs.size+2,s2.heap.objs.size+3,s2.heap.objs.size,s2.heap.objs.size+1],@LE.le Nat _ s2.heap.objs.size c:=fun c hc=>by
  simp only[MC,MM,or_false]at hc;rcases hc with e|e|e|e|e<;>rw[e]
  .exact Nat.le_add_right _ _
  .exact Nat.le_add_right _ _
  .exact Nat.le_add_right _ _
  .exact MP _
  .exact Nat.le_add_right _ _
 exact⟨s2.heap.objs.size+4,[s2.heap.objs.size+4,s2.heap.objs.size+2,s2.heap.objs.size+3,s2.heap.objs.size,s2.heap.objs.size+1],_,_,H2,rfl,I2.kept (t':=s2.toks) k0,
  EM (Dz (le _ (by simp)) lta) (src_list (le _ (by simp)) ltb) (IY _) le,⟨z0,t0,⟨_,_,o0⟩,i10,i20⟩,fun c hc=>I2.sV (le c hc) (I2.aX.fresh (le c hc)),hR⟩
open PySem PySem.Spec PyProof.Rows PySem.SeqAt
inductive kA(pr:Params):List DictEntry->List (Str×MY)->Prop
 |nil:kA pr [] []
 |cons {x:Str} {b:MY} {t:Tok} {es:List DictEntry} {ps:List (Str×MY)}:kA pr es ps->kA pr ({hash:=PyData.keyHash pr x,key:= .str x t,val:= .ref b}::es) ((x,b)::ps)
structure KTab(K:W.Frag)(pr:Params)(a:MY)(ps:List (Str×MY)):Prop where
 sys:(a==sysModules)=false
 nd:(ps.map (·.1)).Nodup
 ex:∃(es:List DictEntry)(ep:Nat),K.lookup a=some {cls:= .type "dict",data:= .dict es.toArray ep}/\kA pr es ps
def EA(ps:List (Str×MY)):List (Key×V):=ps.map fun p=>(Sum.inr p.1,V.ref p.2)
def tabOf(ps:List (Str×MY))(k:Str):Option MY:=(ps.find? fun p=>p.1=k).map (·.2)
theorem rG(ps:List (Str×MY))(k:Str):cj (EA ps) (Sum.inr k:Key)=(tabOf ps k).map V.ref:=by
 unfold EA tabOf cj
 induction ps with
 |nil=>rfl
 |cons p t ih=>
  rw[MA,List.find?_cons,List.find?_cons];by_cases h:p.1=k
  .have:decide ((Sum.inr p.1:Key)=Sum.inr k)=true:=decide_eq_true (by rw[h])
   simp only[this,h,decide_true];rfl
  .have:decide ((Sum.inr p.1:Key)=Sum.inr k)=false:=decide_eq_false fun z=>h (Sum.inr.inj z)
   simp only[this,decide_eq_false h];exact ih
theorem Dy(ps:List (Str×MY))(k:Str):(tabOf ps k).isSome=decide (k∈ps.map (·.1)):=by
 unfold tabOf;rw[Option.isSome_map]
 induction ps with
 |nil=>rfl
 |cons p t ih=>
  rw[List.find?_cons];by_cases h:p.1=k
  .simp[h]
  .rw[decide_eq_false h]
   show(t.find? _).isSome=_;rw[ih,MA,Bool.eq_iff_iff,decide_eq_true_eq,decide_eq_true_eq,MC];exact⟨.inr,fun z=>z.resolve_left fun z=>h z.symm⟩
section
variable{X:Cx}{K:W.Frag}
theorem kA.go {pr:Params}{P:M0}{w:M3}(hp:w.params=pr):∀{es:List DictEntry}{ps:List (Str×MY)},kA pr es ps->∃vs:List (Key×MX),KV (EA ps) vs/\(∀e∈es,∃k,(aW P w).is k e.key=true/\e.hash=(aW P w).hash k)/\Pairs (aW P w) es vs/\vs.map (·.1)=ps.map fun p=>Sum.inr p.1
 |_,_,.nil=>⟨[],.nil,by simp,.nil,rfl⟩
 |_,_,.cons (x:=x) (b:=b) (t:=t) r=>by
  obtain⟨vs,h1,h2,h3,h4⟩:=kA.go (P:=P) hp r;have hi:(aW P w).is (Sum.inr x) (MX.str x t)=true:=by
   show MX.isStrOf x (MX.str x t)=true;simp[MX.isStrOf]
  refine⟨(Sum.inr x,.ref b)::vs,?_,?_,.cons hi rfl h3,by rw[MA,h4];rfl⟩
  .exact Paired.cons ⟨rfl,rfl⟩ h1
  .intro e he
   rcases List.mem_cons.mp he with rfl|he
   .refine⟨Sum.inr x,hi,?_⟩
    subst hp;rfl
   .exact h2 e he
theorem KTab.dict {pins:List (MY×Obj)}{σ:St}{H:Hp}{s:MZ}{a:MY}{ps:List (Str×MY)}(k:KTab X.K X.w.params a ps)(I:Inv X pins σ H s):∃vs:List (Key×MX),KV (EA ps) vs/\s.heap.DictOf (aW X.prog X.w) a vs:=by
 obtain⟨es,ep,hl,ht⟩:=k.ex;obtain⟨vs,h1,h2,h3,h4⟩:=kA.go (P:=X.prog) (w:=X.w) rfl ht;refine⟨vs,h1,_,es.toArray,ep,I.jr a _ hl,⟨rfl,rfl,rfl⟩,rfl,fun e he=>h2 e (by simpa using he),by simpa using h3,?_⟩;rw[h4];have:=k.nd;rw[show(ps.map fun p=>(Sum.inr p.1:Key))=(ps.map (·.1)).map Sum.inr by rw[MD];rfl];exact this.map _ fun x y h e=>h (Sum.inr.inj e)
def DB(a:MY)(ps:List (Str×MY))(ty td:TE):TE:=fun σ H Q=>ty σ H fun y H1=>td σ H1 fun x H2=>∃k,x= .ref a/\y= .str k/\Q (.bl (!(tabOf ps k).isSome)) H2
theorem Ac{i o:Expr}{ty td:TE}{a:MY}{ps:List (Str×MY)}(kt:KTab X.K X.w.params a ps)(hi:PE X i ty)(ho:PE X o td):PC X .NotIn i o (DB a ps ty td):=by
 intro pins s σ H Q I h;refine aY (hi pins s σ H _ I h) fun iv s1 ⟨y,H1,I1,ry,q1⟩=>aY (ho pins s1 σ H1 _ I1 q1) fun u s2 ⟨x,H2,I2,rx,k,ex,ey,q2⟩=>?_;subst ex;subst ey;obtain rfl:u=MX.ref a:=rx;obtain⟨vs,rel,dd⟩:=kt.dict I2;refine wpAny_notIn_of (iC (k:=Sum.inr k) ry) kt.sys dd.mapOf ?_;rw[←(rel.val (Sum.inr k)).dH,rG,Option.isSome_map];exact⟨.bl _,H2,I2.tok _,rfl,q2⟩
def Im(a:MY)(ps:List (Str×MY))(ty td:TE):TE:=fun σ H Q=>ty σ H fun y H1=>td σ H1 fun x H2=>∃k,x= .ref a/\y= .str k/\Q (.bl (tabOf ps k).isSome) H2
theorem BE{i o:Expr}{ty td:TE}{a:MY}{ps:List (Str×MY)}(kt:KTab X.K X.w.params a ps)(hi:PE X i ty)(ho:PE X o td):PC X .In i o (Im a ps ty td):=by
 intro pins s σ H Q I h;refine aY (hi pins s σ H _ I h) fun iv s1 ⟨y,H1,I1,ry,q1⟩=>aY (ho pins s1 σ H1 _ I1 q1) fun u s2 ⟨x,H2,I2,rx,k,ex,ey,q2⟩=>?_;subst ex;subst ey;obtain rfl:u=MX.ref a:=rx;obtain⟨vs,rel,dd⟩:=kt.dict I2;refine wpAny_in_of (iC (k:=Sum.inr k) ry) kt.sys dd.mapOf ?_;rw[←(rel.val (Sum.inr k)).dH,rG,Option.isSome_map];exact⟨.bl _,H2,I2.tok _,rfl,q2⟩
def Ez(a:MY)(ps:List (Str×MY))(td ty:TE):TE:=fun σ H Q=>td σ H fun x H1=>ty σ H1 fun y H2=>∃k b,x= .ref a/\y= .str k/\tabOf ps k=some b/\Q (.ref b) H2
theorem mw{i o:Expr}{ty td:TE}{a:MY}{pos:Pos}{ps:List (Str×MY)}(kt:KTab X.K X.w.params a ps)(ho:PE X o td)(hi:PE X i ty)(hs:GR i):PE X (.Subscript o i pos) (Ez a ps td ty):=by
 intro pins s σ H Q I h;refine yA PySem.F.slot_dict_getitem.lookup hs (aY (ho pins s σ H _ I h) fun u s1 ⟨x,H1,I1,rx,q1⟩=>aY (hi pins s1 σ H1 _ I1 q1) fun iv s2 ⟨y,H2,I2,ry,k,b,ex,ey,g,q2⟩=>?_);subst ex;subst ey;obtain rfl:u=MX.ref a:=rx;obtain⟨vs,rel,dd⟩:=kt.dict I2;obtain⟨w',hw,rw'⟩:=gZ.some_of (v:= .ref b) (o:=valueAt vs (Sum.inr k)) (by
  have e:=rel.val (Sum.inr k);rw[rG,g]at e;exact e)
 exact⟨dd.typeIs,wpAny_getItem_of (iC (k:=Sum.inr k) ry) dd.mapOf hw ⟨.ref b,H2,I2.tok _,rw',q2⟩⟩
end
theorem yL:∀{us:List MX}{xs:List Str},StrsAre us xs->Vals (xs.map V.str) us
 |_,_,.nil=> .nil
 |_,_,.cons x t r=> .cons ⟨t,rfl⟩ (yL r)
section
variable{prog:M0}{w:M3}{A:M4}{E:MX->MZ->Prop}
theorem uw{S:MZ}{T:String}{r d:MY}{n:Nat}{P:Nat->MX->Prop}{OK:Nc->Prop}{Q:List MX->MZ->Prop}(src:W.KdlSrc prog w T r d n P OK)(hh:A.handled=none)(aX:OK S.heap)(hz:n<=M5)
  (q:∀h' tk(acc:Array MX),(∀b o,S.heap.get? b=some o->h'.get? b=some o)->S.heap.objs.size<=h'.objs.size->ItemsOf P acc n->Q acc.toList {S with heap:=h',toks:=tk}):Nf (model prog w) A (collect (.ref r)) Q E S:=by
 have hS:(S.heap.push (seqObj "list" #[] 0)).get? S.heap.objs.size=some (seqObj "list" #[] 0):=Nc.get?_push_size _ rfl;have lt:=src.there _ aX;have ok:OK (S.heap.push (seqObj "list" #[] 0)):=src.keep _ _ aX fun b _ o e=>Nc.get?_push_of_some _ e;unfold collect;refine M7 (wpAny_runValue (codeAny_builtin entry_proto_collect' ?_));refine M7 (wpAny_newList (M8 ⟨Code.quiet_builtin _ (by decide+kernel),codeAny_builtin entry_list_iadd' ?_⟩));rw[M4.under_plainId (show plainId "list.__iadd__" =true by decide+kernel) _];refine W.kdl_extend (R:=fun r s'=>match r with
  | .ok (.ret v)=>Nf (model prog w) A (match v with
   | .ref a=>(do
    let o←load a
    match o.data with
    | .seq xs _=>pure xs.toList
    |_=>unsupported "internal:collect")
   |_=>unsupported "internal:collect") Q E s'
  | .ok _=>False
  | .error e=>E e s') (s:={S with heap:=S.heap.push (seqObj "list" #[] 0)}) src hh ok S.heap.objs.size (Nat.ne_of_gt lt.1) (Nat.ne_of_gt lt.2) (.ref S.heap.objs.size) 0 hS (fun h' tk acc c k1 k2 hit=>?_) hz
 refine M7 (wpAny_load k2 ?_);exact M8 (q h' tk acc (fun b o eb=>k1 b o (MR (Nc.lt_size eb)) (Nc.get?_push_of_some _ eb)) (Nat.le_of_lt (Nc.lt_size k2)) hit)
theorem sO{β:Type}{S:MZ}{us:List MX}{xs:List Str}{Q:β->MZ->Prop}{k:MX->Sem β}(h64:us.length<64)(hr:StrsAre us xs)
  (q:∀(out:List MX)(xs':List Str),StrsAre out xs'->xs'.Perm xs->sortedS xs'=true->∀h' n,(∀b o,S.heap.get? b=some o->h'.get? b=some o)->h'.get? S.heap.objs.size=some {cls:= .type "list",data:= .seq out.toArray n}->Nf (model prog w) A (k (.ref S.heap.objs.size)) Q E {S with heap:=h'}):
  Nf (model prog w) A (newList us>>=fun l=>holding [l] (call (.builtin "list.sort") [l])>>=fun _=>k l) Q E S:=by
 have hL:(S.heap.push (seqObj "list" us.toArray 0)).get? S.heap.objs.size=some (seqObj "list" us.toArray 0):=Nc.get?_push_size _ rfl;refine M7 (wpAny_newList ?_);refine M7 (wpAny_holding (wpAny_call_entry slot_list_sort ⟨_,hL,rfl⟩ entry_list_sort (list_sort_treeK (s:={S with heap:=S.heap.push (seqObj "list" us.toArray 0)}) strKind_oneLt hL hr.keysOf (fun v₁ v₂ rest e=>keyKind_strs (by rw[←e];exact hr)) h64 fun st' hp hs=>⟨_,rfl,?_⟩) (args_list_sort _)));obtain⟨xs',h1,h2,h3⟩:=sorted_out_str hr hp hs;obtain⟨e,he⟩:=sortedHeap_at (vs:=us) (out:=(arrOf st').map (·.2)) (n:=0) hL;refine q ((arrOf st').map (·.2)).toList xs' h1 h2 h3 _ e (fun b o hb=>?_) (by rw[Array.toArray_toList];exact he);have hlt:=Nc.lt_size hb;rw[sortedHeap_old (MR hlt) (by rw[size_push'];exact Nat.lt_succ_of_lt hlt)];exact Nc.get?_push_of_some _ hb
end
section
variable{X:Cx}{K:W.Frag}
def He:List V->Hp->VK->Prop:=fun xs H Q=>∃(a:MY)(kvs:List (Key×V))(ks:List Str),xs=[.ref a]/\H a=some (.dK kvs)/\kvs.map (·.1)=ks.map Sum.inr/\kvs.length<64/\∀(l:MY)(ks':List Str),H l=none->ks'.Perm ks->sortedS ks'=true->Q (.ref l) (upd H l (.lst (ks'.map V.str)))
theorem rN(hc:X.calm=true):bY X (.builtin "sorted") He:=by
 intro pins s σ H xs us Q I r h;obtain⟨a,kvs,ks,rfl,ha,hk,hz,q⟩:=h;obtain⟨u,rfl,ru⟩:=vals1 r;cases ru;obtain⟨z,hd,vs,rel,dd⟩:=xW I.aX ha;have len:=rel.length;have big:(10000000:Nat)<=M5:=by decide
 obtain⟨ep,hat⟩:=dd.dictAt;have ek:vs.map (·.1)=ks.map Sum.inr:=by rw[←hk];exact rel.keys.symm
 refine Calls.call_function_entry kind_sorted plain_sorted entry_sorted (args_sorted1 _) ?_;unfold Ni.«sorted»;refine M7 (m:=checkCount "sorted" 1 1 _) (M8 ?_);refine M7 (uw (A:=X.A.in1) (W.kdl_dict (prog:=X.prog) (w:=X.w) (knd:=aW X.prog X.w) (d:=a) (kvs:=vs) (ep:=ep) hd) (I.ok.hd hc) hat (by lia) fun h' tk acc k1 le it=>?_);have sa:StrsAre acc.toList ks:=by
  have hl:acc.toList.length=ks.length:=by
   have e1:=congrArg List.length ek;simp only[Mu]at e1;rw[Array.length_toList,it.1,e1]
  have hj:∀(j:Nat)(v:MX),acc.toList[j]?=some v->∃(k:Str)(t:Tok),ks[j]?=some k/\v= .str k t:=fun j v hv=>by
   obtain⟨k,x,e1,e2⟩:=it.2 j v (by rw[←Array.getElem?_toList];exact hv);have e3:(vs.map (·.1))[j]?=some k:=by rw[Mv,e1];rfl
   rw[ek,Mv]at e3
   cases e4:ks[j]? with
   |none=>rw[e4]at e3;cases e3
   |some y=>
    rw[e4]at e3;cases e3;rcases bL (show pf (Sum.inr y) v=true from e2)with⟨i,t,e5,e6⟩|⟨y',t,e5,e6⟩
    .exact nomatch e5
    .cases e5
     exact⟨_,t,rfl,e6⟩
  clear q hk ek ha it;revert hl hj;generalize acc.toList=l;intro hl hj
  induction l generalizing ks with
  |nil=>cases ks with
   |nil=>exact .nil
   |cons _ _=>cases hl
  |cons v l ih=>cases ks with
   |nil=>cases hl
   |cons k ks=>
    obtain⟨k',t,e1,e2⟩:=hj 0 v rfl;cases e1;subst e2;exact .cons k t (ih ks (by simpa using hl) fun j v hv=>hj (j+1) v hv)
 refine sO (S:={s with heap:=h',toks:=tk}) (by rw[Array.length_toList,it.1];lia) sa fun out ks' h1 h2 h3 h4 n k2 k3=>?_;refine M8 ⟨_,rfl,?_⟩;have pl:=h2.length_eq;have e1:=congrArg List.length hk;simp only[Mu]at e1;exact⟨.ref _,_,I.laid (o:= .lst (ks'.map V.str)) (t':=tk) (fun b ob e=>k2 _ _ (k1 _ _ e)) le ⟨by rw[Mu];lia,out,n,yL h1,k3⟩,rfl,q _ ks' (I.aX.fresh le) h2 h3⟩
end
def mem(s:Ng)(j:Nat):Ng:=match s with
 | .ClassDef _ _ _ body .. =>body.getD j (.Pass ⟨0,0,0,0⟩)
 |_=> .Pass ⟨0,0,0,0⟩
structure MethAt(P:M0)(w:M3)(K:W.Frag)(mg:Str->Option MX)(base:Nc)(CX:om)(C:MY)(m:Str)(k:Nat)(ps:List Str)(sp:Sp):Prop where
 cls:zK K C
 ex:∃(f:MY)(fd:Nb),Meth K C m f/\aR P w K mg base CX k f fd ps sp/\Binds K fd ps []
structure wo(P:M0)(w:M3)(K:W.Frag)(mg:Str->Option MX)(base:Nc)(C:MY)(x:Str)(k:Nat)(ps:List Str)(sp:Sp):Prop where
 at_:mg x=some (.ref C)
 ex:∃(f:MY)(fd:Nb),Mk K C f/\aR P w K mg base gh k f fd ps sp/\Binds K fd ps []
section
variable{X:Cx}{K:W.Frag}{x m f:Str}{k:Nat}{C:MY}{ps:List Str}{sp:Sp}{e o value:Expr}{es:List Expr}{t:TA}{ta tv:TE}{p pos apos pos':Pos}
theorem ig(hK:X.K=K)(he:PE X e ta)(hb:attributeBase e f X.env (eval e X.env)=eval e X.env:=by rfl):PE X (.Attribute e f pos) (JL K ta f):=by
 subst hK;exact Gv he hb
theorem yD(hK:X.K=K)(ha:PE X o ta)(hv:PE X value tv)(hs:swapsWith value (some (.Attribute o f pos')) pos.line X.env=pure false:=by rfl):PS X (.Assign [.Attribute o f pos'] value pos) (JZ K ta tv f):=by
 subst hK;exact Ic ha hv hs
theorem Ad{E:XK}{pl:Sem Bool}(F:MethAt X.prog X.w X.K X.mg X.base (i3 X.prog X.w) C m k ps sp)(hx:Passes (i3 X.prog X.w) X E)(hr:df k X.A)(he:PE X o ta)(ha:PA X (e::es) t)
  (hst:Na (e::es) X.env=(false,eval e X.env)::Na es X.env:=by rfl) (hpl:(Nd pos (Na es X.env)).any (·.1)=false:=by rfl)
  (ht:eval (.Call (.Attribute o m apos) (e::es) [] pos) X.env=(do
   let ov←eval o X.env
   standAt apos.atName
   let(f,first)←holding [ov] (getMethod ov m pl)
   callWith pos f first (Nd pos (Na (e::es) X.env)) (backToKw pos (keywordEach [] X.env))):=by rfl):
  PE X (.Call (.Attribute o m apos) (e::es) [] pos) (FX C m sp [] E ta t):=by
 obtain⟨f,fd,hm,F',hb⟩:=F.ex;exact DZ he F.cls hm F' hr hb .nil hx ha hst hpl ht
def HY(C:MY)(m:Str)(sp:Sp)(Es:St->XK)(ta:TE)(t:TA):TE:=fun σ H Q=>ta σ H fun x H1=>∃a dx fs,x= .ref a/\H1 a=some (.ins C dx fs)/\fs.lookup m=none/\t σ H1 fun vs H2=>sp (x::vs) H2 Q (Es σ)
theorem zd{pins:List (MY×Obj)}{Es:St->XK}{pl:Sem Bool}(F:MethAt X.prog X.w X.K X.mg X.base (i3 X.prog X.w) C m k ps sp)(hr:df k X.A)(he:PE (Xt X pins Es) o ta)(ha:PA (Xt X pins Es) (e::es) t)
  (hst:Na (e::es) X.env=(false,eval e X.env)::Na es X.env:=by rfl) (hpl:(Nd pos (Na es X.env)).any (·.1)=false:=by rfl)
  (ht:eval (.Call (.Attribute o m apos) (e::es) [] pos) X.env=(do
   let ov←eval o X.env
   standAt apos.atName
   let(f,first)←holding [ov] (getMethod ov m pl)
   callWith pos f first (Nd pos (Na (e::es) X.env)) (backToKw pos (keywordEach [] X.env))):=by rfl):
  PE (Xt X pins Es) (.Call (.Attribute o m apos) (e::es) [] pos) (HY C m sp Es ta t):=by
 obtain⟨g,fd,hm,F',hb⟩:=F.ex;have c:=F.cls;intro pins' s σ H Q I h;refine W.methodCall_KW (pl:=pl) (aY (he pins' s σ H _ I h) fun u s1 ⟨y,H1,I1,rx,a,dx,fs,ex,ea,l,q⟩=>?_) ht;subst ex;obtain rfl:u=MX.ref a:=rx;refine kh I1 ea c hm l ?_;refine W.callWith_K (first:=[.ref a]) (h₀:=X.base) I.ok.mod.De hm.kp (aY (ha pos pins' s1 σ H1 _ I1 q) fun us s2 ⟨vs,H2,I2,r,q2⟩=>⟨I2.jr,?_⟩) hst hpl;have r2:Vals (V.ref a::vs) (MX.ref a::us):= .cons rfl r;have hl:(MX.ref a::us).length=ps.length:=by rw[←r2.length];exact F'.len _ _ _ _ q2
 have bb:=hb s2 (MX.ref a::us) I2.jr (by rw[MN];exact hl);rw[MN]at bb;refine wpAny_call (codeAny_mono (F'.run X.A X.stack s2 H2 ⟨MX.ref a::us,[]⟩ (MX.ref a::us) (V.ref a::vs) Q (Es σ) hr I2.pL bb r2 q2) fun r s' hq=>?_)
 cases r with
 |error ev=>exact⟨σ,H2,s2,I2.ofT,hq⟩
 |ok fl=>
  cases fl with
  |ret u=>exact I2.after hq
  |next=>exact False.elim hq
  |brk=>exact False.elim hq
  |cont=>exact False.elim hq
def D3(i:Nat)(Fam:MY->Sp->Prop)(E:XK)(t:TA):TE:=fun σ H Q=>∃f sp,σ[i]?=some (some (.ref f))/\Fam f sp/\t σ H fun vs H1=>sp vs H1 Q E
theorem BF(F:wo X.prog X.w X.K X.mg X.base C x k ps sp)(hr:df (k+1) X.A)(hg:Gl X x)(ha:PA X (e::es) t)(hdb:(x==("__debug__" :Str))=false:=by decide+kernel)(he:Na (e::es) X.env=(false,eval e X.env)::Na es X.env:=by rfl)(hpl:(Nd pos (Na es X.env)).any (·.1)=false:=by rfl):
  PE X (.Call (.Name x p) (e::es) [] pos) (FE C sp [] E0 t):=by
 obtain⟨g,fd,M,F',hb⟩:=F.ex;exact D9 M F' hr hg F.at_ hb .nil FQ ha hdb he hpl
end
end L2
namespace Sw
open PySem L2
def cY(H:Hp)(v:V)(R:List (Int×Int)):Prop:=∃(l:MY)(es:List V),v= .ref l/\H l=some (.lst es)/\dD H es R
theorem cY.same {H H':Hp}{v:V}{R:List (Int×Int)}(h:cY H v R)(s:ah H H'):cY H' v R:=by
 obtain⟨l,es,e,h1,h2⟩:=h;exact⟨l,es,e,s _ _ h1,h2.keep fun b xs e=>s _ _ e⟩
abbrev Kept:=List (Str×List (Int×Int))
def rowOf(m:Kept)(x:Str):Option (List (Int×Int)):=(m.find? fun p=>p.1=x).map (·.2)
def bA(H:Hp)(kvs:List (Key×V))(m:Kept):Prop:=Paired (fun(p:Key×V)(q:Str×List (Int×Int))=>p.1=Sum.inr q.1/\cY H p.2 q.2) kvs m
theorem bA.same {H H':Hp}{kvs:List (Key×V)}{m:Kept}(h:bA H kvs m)(s:ah H H'):bA H' kvs m:=Paired.rX h fun _ _ z=>⟨z.1,z.2.same s⟩
theorem bA.get {H:Hp}:∀{kvs:List (Key×V)}{m:Kept},bA H kvs m->∀x:Str,(rowOf m x=none/\cj kvs (Sum.inr x:Key)=none)\/∃R v,rowOf m x=some R/\cj kvs (Sum.inr x:Key)=some v/\cY H v R
 |_,_,.nil,x=> .inl ⟨rfl,rfl⟩
 |_,_,.cons (a:=p) (b:=q) (l₁:=kvs) (l₂:=m) h r,x=>by
  by_cases c:q.1=x
  .refine .inr ⟨q.2,p.2,?_,?_,h.2⟩
   .unfold rowOf
    rw[List.find?_cons_of_pos (by simpa using c)];rfl
   .unfold cj
    rw[List.find?_cons_of_pos (by rw[h.1,c];simp)];rfl
  .have e1:rowOf (q::m) x=rowOf m x:=by
    unfold rowOf;rw[List.find?_cons_of_neg (by simpa using c)]
   have e2:cj (p::kvs) (Sum.inr x:Key)=cj kvs (Sum.inr x:Key):=by
    unfold cj;rw[List.find?_cons_of_neg (by rw[h.1];simpa using c)]
   rw[e1,e2];exact bA.get r x
theorem bA.keys {H:Hp}:∀{kvs:List (Key×V)}{m:Kept},bA H kvs m->kvs.map (·.1)=(m.map (·.1)).map Sum.inr
 |_,_,.nil=>rfl
 |_,_,.cons h r=>by rw[MA,MA,MA,h.1,bA.keys r]
structure J4(fs:List (Str×V))(n:Int)(d:MY):Prop where
 len:fs.length<=10
 n_:fs.lookup ("n" :Str)=some (V.int n)
 kept:fs.lookup ("kept" :Str)=some (V.ref d)
 GH:fs.lookup ("row_of" :Str)=none
 say:fs.lookup ("say" :Str)=none
def cM(C:MY)(H:Hp)(a d:MY)(n:Int)(m:Kept):Prop:=∃(dx:MY)(fs:List (Str×V))(kvs:List (Key×V)),H a=some (HO.ins C dx fs)/\J4 fs n d/\H d=some (.dK kvs)/\d≠a/\bA H kvs m/\m.length<=1000
structure xI(K:W.Frag)(C:MY):Prop where
 cls:zK K C
 Hm:gu K C "n"
 iw:gu K C "kept"
def xT(C CN:MY):Sp:=fun vs H Q E=>∃(a d:MY)(x:Str)(n:Int)(m:Kept),vs=[.ref a,.str x]/\cM C H a d n m/\(rowOf m x=none->E (.ref CN) none H)/\∀R v,rowOf m x=some R->cY H v R->Q v H
structure K0(mg:Str->Option MX)(K:W.Frag)(C CN:MY):Prop extends xI K C where
 i4:mg "NoName" =some (.ref CN)
 uW:j4 K CN
section
variable{P:M0}{w:M3}{K:W.Frag}{mg:Str->Option MX}{base:Nc}{C CN:MY}
theorem n5:aA ["self","name"] ["self","name"] (ar (mem (top 114) 1)):=⟨rfl,rfl,rfl,by decide+kernel,rfl,by decide+kernel,by decide+kernel⟩
theorem B7{f:MY}{fd:Nb}(F:dO K "row_of" "Desk.row_of" (mem (top 114) 1) f fd)(T:K0 mg K C CN):aR P w K mg base (i3 P w) 1 f fd ["self","name"] (xT C CN):=by
 refine F.Aa n5 (fun vs H Q E h=>?_) (fun cdv A outer s H vs Q E hr h=>?_)
 .obtain⟨a,d,x,n,m,rfl,_⟩:=h
  rfl
 .obtain⟨a,d,x,n,m,rfl,hd,kN,kY⟩:=h
  have hu:=kJ hr;refine⟨_,(ag (a8 (iS (my hu (pv 1) (ig (K:=K) rfl (pv 0)))) (aj (dP pU T.uW rfl rfl T.i4 (aa aK af))) aE)
   (aj (ay (jt hu (ig (K:=K) rfl (pv 0)) (pv 1) (fun _ _=>rfl))))),?_⟩
  obtain⟨dx,fs,kvs,ha,hf,hkd,_,km,_⟩:=hd;have one:1<=M5:=by decide
  rcases km.get x with⟨e1,e2⟩|⟨R,v,e1,e2,e3⟩
  .have g:dg H d (kV (.inr x)) none:=by rw[←e2];exact dg.k hkd
   exact⟨_,rfl,_,rfl,a,C,dx,fs,_,rfl,ha,T.cls,T.iw,hf.kept,d,none,rfl,g,_,rfl,by
    simp only[Option.isSome_none,Bool.not_false,if_true];exact⟨one,kN e1⟩⟩
  .have g:dg H d (kV (.inr x)) (some v):=by rw[←e2];exact dg.k hkd
   exact⟨_,rfl,_,rfl,a,C,dx,fs,_,rfl,ha,T.cls,T.iw,hf.kept,d,some v,rfl,g,_,rfl,by
    dsimp only[Option.isSome_some,Bool.not_true];rw[if_neg (by decide)];exact⟨_,rfl,a,C,dx,fs,_,rfl,ha,T.cls,T.iw,hf.kept,_,rfl,d,v,rfl,g,kY R v e1 e3⟩⟩
theorem lH:aA ["self","n"] ["self","n"] (ar (mem (top 114) 0)):=⟨rfl,rfl,rfl,by decide+kernel,rfl,by decide+kernel,by decide+kernel⟩
def B4(C:MY):Sp:=fun vs H Q _=>∃(a dx:MY)(n:Int),vs=[.ref a,.int n]/\H a=some (HO.ins C dx [])/\H dx=some (.own a)/\dx≠a/\∀d H',H d=none->d≠a->cM C H' a d n []->(∀b o,b≠a->H b=some o->H' b=some o)->Q .de H'
theorem DL{f:MY}{fd:Nb}(F:dO K "__init__" "Desk.__init__" (mem (top 114) 0) f fd)(T:xI K C):aR P w K mg base gh 1 f fd ["self","n"] (B4 C):=by
 refine F.ok lH (fun vs H Q E h=>?_) (fun cdv A outer s H vs Q E hr h=>?_)
 .obtain⟨a,dx,n,rfl,_⟩:=h
  rfl
 .obtain⟨a,dx,n,rfl,ha,hdx,ne,k⟩:=h
  have hu:=kJ hr;refine⟨_,(ag (yD (K:=K) rfl (pv 0) (pv 1))
   (aj (yD (K:=K) rfl (pv 0) uS))),?_⟩
  refine⟨_,rfl,_,rfl,a,C,dx,[],rfl,ha,T.cls,T.Hm,(by decide:(0:Nat)<1000),fun d fd=>?_⟩;have da:d≠a:=fun e=>by rw[e,ae]at fd;cases fd
  rw[aq da]at fd;have e1:upd (upd H a (HO.ins C dx (iL (Mt "n") (V.int n) []))) d (HO.dK []) a=some (HO.ins C dx (iL (Mt "n") (V.int n) [])):=by rw[aq (Ne.symm da),ae]
  refine⟨_,rfl,a,C,dx,_,rfl,e1,T.cls,T.iw,(by decide:(1:Nat)<1000),?_⟩;refine k d _ fd da ⟨dx,_,[],ae,⟨(by decide:(2:Nat)<=10),rfl,rfl,rfl,rfl⟩,by rw[aq da,ae],da,.nil,MT _⟩ fun b o hb e=>?_;have bd:b≠d:=fun z=>by rw[z,fd]at e;cases e
  rw[aq hb,aq bd,aq hb];exact e
end
end Sw
namespace L2
open PySem PySem.Spec PyProof.Rows
section
variable{M:Model}{A:M4}{α:Type}{t:Sem α}{Q:α->MZ->Prop}{E:MX->MZ->Prop}{s:MZ}
theorem iE(hn:0<s.toks)(h:Nf M A t Q E s):Nf M A t (fun a s'=>0<s'.toks/\Q a s') E s:=M9 (wpAny_toks_of (n:=1) hn h) (fun _ _ x=>x) fun _ _ x=>x.2
end
def QE(X:Cx)(e:Expr)(t:TE):Prop:=
 ∀(pins:List (MY×Obj))(s:MZ)(σ:St)(H:Hp)(Q:VK),0<s.toks->Inv X pins σ H s->t σ H Q->Nf (model X.prog X.w) X.A (eval e X.env) (EP X pins σ Q) X.xe s
def QA(X:Cx)(es:List Expr)(t:TA):Prop:=
 ∀(pos:Pos)(pins:List (MY×Obj))(s:MZ)(σ:St)(H:Hp)(Q:List V->Hp->Prop),0<s.toks->Inv X pins σ H s->t σ H Q->Nf (model X.prog X.w) X.A (spliced (Nd pos (Na es X.env))) (AP X pins σ Q) X.xe s
def QS(X:Cx)(st:Ng)(t:TS):Prop:=
 ∀(pins:List (MY×Obj))(s:MZ)(σ:St)(H:Hp)(D:Ends),0<s.toks->Inv X pins σ H s->t D σ H->Nf (model X.prog X.w) X.A (exec st X.env) (SP X pins D) X.xe s
def vI(X:Cx)(st:List Ng)(t:TS):Prop:=
 ∀(pins:List (MY×Obj))(s:MZ)(σ:St)(H:Hp)(D:Ends),0<s.toks->Inv X pins σ H s->t D σ H->Nf (model X.prog X.w) X.A (execs st X.env) (SP X pins D) X.xe s
def LE(X:Cx)(e:Expr)(t:TE):Prop:=
 ∀(pins:List (MY×Obj))(s:MZ)(σ:St)(H:Hp)(Q:VK),Inv X pins σ H s->t σ H Q->Nf (model X.prog X.w) X.A (eval e X.env) (fun u s'=>0<s'.toks/\EP X pins σ Q u s') X.xe s
def LT(X:Cx)(e:Expr)(t:TT):Prop:=
 ∀(pins:List (MY×Obj))(s:MZ)(σ:St)(H:Hp)(Q:Bool->Hp->Prop),Inv X pins σ H s->t σ H Q->Nf (model X.prog X.w) X.A (isTrue e X.env (eval e X.env)) (fun b s'=>0<s'.toks/\TP X pins σ Q b s') X.xe s
def LS(X:Cx)(st:Ng)(t:TS):Prop:=
 ∀(pins:List (MY×Obj))(s:MZ)(σ:St)(H:Hp)(D:Ends),Inv X pins σ H s->t D σ H->Nf (model X.prog X.w) X.A (exec st X.env) (fun f s'=>0<s'.toks/\SP X pins D f s') X.xe s
section
variable{X:Cx}{e a b:Expr}{es:List Expr}{st:Ng}{rest:List Ng}{te ta tb:TE}{tx:TA}{t u:TS}{pos:Pos}
theorem QE.of (h:PE X e te):QE X e te:=fun pins s σ H Q _ I q=>h pins s σ H Q I q
theorem QA.of (h:PA X es tx):QA X es tx:=fun pos pins s σ H Q _ I q=>h pos pins s σ H Q I q
theorem QS.of (h:PS X st t):QS X st t:=fun pins s σ H D _ I q=>h pins s σ H D I q
theorem vI.of (h:qg X rest t):vI X rest t:=fun pins s σ H D _ I q=>h pins s σ H D I q
theorem le_str{x j}:LE X (.Constant (.str x) j pos) (tC (.str x)):=fun _ s _ H _ I h=>Calls.Constant_str ⟨Nat.succ_pos _,.str x,H,I.tok _,⟨_,rfl⟩,h⟩
theorem le_int{i j}:LE X (.Constant (.int i) j pos) (tC (.int i)):=fun _ s _ H _ I h=>wpAny_Constant_int ⟨Nat.succ_pos _,.int i,H,I.tok _,⟨_,rfl⟩,h⟩
theorem Ju{r:R2}(hr:IC X r)(ha:PE X a ta)(hb:LE X b tb)(hs:yM b):LE X (.Subscript a b pos) (yg r ta tb):=by
 intro pins s σ H Q I h;refine Subscript_ ?_;refine aY (ha pins s σ H _ I h) fun v s1 ⟨x,H1,I1,r1,q1⟩=>?_;refine aY (hb pins s1 σ H1 _ I1 q1) fun u s2 ⟨tk,y,H2,I2,r2,q2⟩=>?_;exact iE tk (hr a b pins s2 σ H2 x y v u Q I2 r1 r2 q2 (hs _ _))
theorem DH{op:CmpOp}{r:R2}(ho:jP X (compareOp op) r)(ha:PE X a ta)(hb:LE X b tb)(hm:behindInMarks op b=false):LT X (.Compare a [op] [b] pos) (AI (yg r ta tb)):=by
 intro pins s σ H Q I h;refine wpAny_isTrue_Compare1 (aY (ha pins s σ H _ I h) fun v s1 ⟨x,H1,I1,r1,q1⟩=>aY (hb pins s1 σ H1 _ I1 q1) fun u s2 ⟨tk,y,H2,I2,r2,q2⟩=>
  aY (iE tk (ho pins s2 σ H2 x y v u _ I2 r1 r2 q2)) fun c s3 ⟨tk3,z,H3,I3,r3,k,e,q3⟩=>?_) hm
 subst e;cases r3;exact wpAny_truthy_bool ⟨tk3,H3,I3,q3⟩
theorem Jg{c:Expr}{x y:List Ng}{tc:TT}(hc:LT X c tc)(ha:qg X x t)(hb:qg X y u):LS X (.If c x y pos) (EV tc t u):=by
 intro pins s σ H D I h;refine wpAny_If (aY (hc pins s σ H _ I h) fun d s1 ⟨tk,H1,I1,q1⟩=>?_)
 cases d with
 |true=>exact iE tk (ha pins s1 σ H1 D I1 q1)
 |false=>exact iE tk (hb pins s1 σ H1 D I1 q1)
theorem Ij{i:Nat}{x:Str}{pos':Pos}(hN:X.N.Nodup)(hi:X.N[i]?=some x)(hx:Loc X.env.scope x)(he:LE X e te)(hs:swapsWith e (some (.Name x pos')) pos.line X.env=pure false:=by rfl)(hf:X.fn x=true\/X.env.scope.names.lookup x=some .local:=by first|exact .inl rfl|exact .inr rfl|assumption):
  LS X (.Assign [.Name x pos'] e pos) (vv te (cF i)):=by
 intro pins s σ H D I h;refine wpAny_Assign_Name (aY (he pins s σ H _ I h) fun v s1 ⟨tk,y,H1,I1,r1,q1⟩=>?_) hs;exact iE tk (fK I1 hN hi hx r1 (fun s2 I2=>⟨_,H1,I2,q1⟩) hf)
theorem qz(h1:LS X st t)(h2:vI X rest u):qg X (st::rest) (u6 t u):=by
 intro pins s σ H D I h;refine wpAny_execs_cons (aY (h1 pins s σ H {D with nx:=u D} I h) fun f s1 ⟨tk,q⟩=>?_)
 cases f with
 |next=>
  obtain⟨σ',H',I',q⟩:=q;exact h2 pins s1 σ' H' D tk I' q
 |ret v=>exact q
 |brk=>exact q
 |cont=>exact q
theorem cz(h1:QS X st t)(h2:vI X rest u):vI X (st::rest) (u6 t u):=by
 intro pins s σ H D tk I h;refine wpAny_execs_cons (aY (iE tk (h1 pins s σ H {D with nx:=u D} tk I h)) fun f s1 ⟨tk1,q⟩=>?_)
 cases f with
 |next=>
  obtain⟨σ',H',I',q⟩:=q;exact h2 pins s1 σ' H' D tk1 I' q
 |ret v=>exact q
 |brk=>exact q
 |cont=>exact q
theorem nN(h1:QS X st t):vI X [st] t:=by
 intro pins s σ H D tk I h;refine wpAny_execs_cons (aY (h1 pins s σ H D tk I h) fun f s1 q=>?_)
 cases f with
 |next=>exact wpAny_execs_nil q
 |ret v=>exact q
 |brk=>exact q
 |cont=>exact q
theorem rh(he:QE X e te):QS X (.Return (some e) pos) (CJ te):=by
 intro pins s σ H D tk I h;exact wpAny_Return_some (aY (he pins s σ H _ tk I h) fun v s1 ⟨x,H1,I1,r1,q1⟩=>⟨x,σ,H1,I1,r1,q1⟩)
theorem C3{c:Expr}{x y:List Ng}{tc:TT}(hc:PT X c tc)(ha:vI X x t)(hb:vI X y u):QS X (.If c x y pos) (EV tc t u):=by
 intro pins s σ H D tk I h;refine wpAny_If (aY (iE tk (hc pins s σ H _ I h)) fun d s1 ⟨tk1,H1,I1,q1⟩=>?_)
 cases d with
 |true=>exact ha pins s1 σ H1 D tk1 I1 q1
 |false=>exact hb pins s1 σ H1 D tk1 I1 q1
theorem GJ{i:Nat}{x:Str}{pos':Pos}(hN:X.N.Nodup)(hi:X.N[i]?=some x)(hx:Loc X.env.scope x)(he:QE X e te)(hs:swapsWith e (some (.Name x pos')) pos.line X.env=pure false:=by rfl)(hf:X.fn x=true\/X.env.scope.names.lookup x=some .local:=by first|exact .inl rfl|exact .inr rfl|assumption):
  QS X (.Assign [.Name x pos'] e pos) (vv te (cF i)):=by
 intro pins s σ H D tk I h;refine wpAny_Assign_Name (aY (he pins s σ H _ tk I h) fun v s1 ⟨y,H1,I1,r1,q1⟩=>?_) hs;exact fK I1 hN hi hx r1 (fun s2 I2=>⟨_,H1,I2,q1⟩) hf
theorem wy:QA X [] iO:=QA.of af
theorem nK(ha:QE X e te)(hr:QA X es tx)(hs:Na (e::es) X.env=(false,eval e X.env)::Na es X.env:=by rfl):QA X (e::es) (dN te tx):=by
 intro pos pins s σ H Q tk I h;rw[hs];show Nf _ _ (spliced ((false,eval e X.env)::Nd pos (Na es X.env))) _ _ s;refine Calls.spliced_cons (aY (iE tk (ha pins s σ H _ tk I h)) fun u s1 ⟨tk1,x,H1,I1,r1,q1⟩=>?_);exact aY (hr pos pins s1 σ H1 _ tk1 I1 q1) fun us s2 ⟨xs,H2,I2,r2,q2⟩=>⟨x::xs,H2,I2,.cons r1 r2,q2⟩
def Js(y z:Str)(to:TE):TE:=fun σ H Q=>to σ H fun x H1=>∃t,x= .str t/\t.length<=100000/\Q (.str (Txt.replace t y z)) H1
theorem sI{o:Expr}{y z:Str}{to:TE}{ky kz:Nat}{py pz apos cpos:Pos}(hyz:(y==z)=false)(hz:z.length<=100)(ho:QE X o to)(m:M2 X o "replace" apos (.Constant (.str y) ky py) (.Constant (.str z) kz pz) cpos):
  QE X (.Call (.Attribute o "replace" apos) [.Constant (.str y) ky py,.Constant (.str z) kz pz] [] cpos) (Js y z to):=by
 intro pins s σ H Q tk I h;refine wpAny_Call_method m.base m.wb m.line PySem.F.plainAttrs_str PySem.F.slot_str_replace PySem.F.type_str_replace (aY (iE tk (ho pins s σ H _ tk I h)) fun u s1 ⟨tk1,x,H1,I1,rx,t,ex,tl,q1⟩=>?_);subst ex;obtain⟨t0,rfl⟩:=rx;refine⟨typeIs_str _ _ _,by simp,?_⟩;rw[m.trees];refine Calls.callWith_builtin rfl (Calls.evalArgs_plain (Calls.spliced_cons (Calls.Constant_str (Calls.spliced_cons (Calls.Constant_str (Calls.spliced_nil ?_))))));refine SC.replace (Nat.ne_of_gt tk1) (by exact Nat.succ_ne_zero _) (by exact(Nat.succ_ne_self _).symm) hyz ?_ (fun t' k=>⟨.str _,H1,(I1.tok _),⟨_,rfl⟩,q1⟩);have:(t.length+1)*z.length<=100001*100:=Nat.mul_le_mul (by lia) hz;lia
end
structure iD(P:M0)(w:M3)(K:W.Frag)(mg:Str->Option MX)(base:Nc)(CX:om)(k:Nat)(f:MY)(fd:Nb)(ps:List Str)(sp:Sp):Prop where
 len:∀vs H Q E,sp vs H Q E->vs.length=ps.length
 run:∀(A:M4)(outer:List Env)(s:MZ)(H:Hp)(args:Args)(us:List MX)(vs:List V)(Q:VK)(E:XK),0<s.toks->df k A->uk P w K mg base A outer s H->BindsTo s fd args (ps.zip us)->Vals vs us->sp vs H Q E->
  codeAny (model P w) A (.call (.ref f) args) (CR CX outer P w H s Q E) s
theorem aR.toQ {P:M0}{w:M3}{K:W.Frag}{mg:Str->Option MX}{base:Nc}{CX:om}{k:Nat}{f:MY}{fd:Nb}{ps:List Str}{sp:Sp}(F:aR P w K mg base CX k f fd ps sp):iD P w K mg base CX k f fd ps sp:=
 ⟨F.len,fun A outer s H args us vs Q E _=>F.run A outer s H args us vs Q E⟩
theorem iD.mono {P:M0}{w:M3}{K:W.Frag}{mg:Str->Option MX}{base:Nc}{CX:om}{j k:Nat}{f:MY}{fd:Nb}{ps:List Str}{sp:Sp}(F:iD P w K mg base CX j f fd ps sp)(h:j<=k):
  iD P w K mg base CX k f fd ps sp:=⟨F.len,fun A outer s H args us vs Q E tk hr=>F.run A outer s H args us vs Q E tk (hr.mono h)⟩
theorem GK{CX:om}{P:M0}{w:M3}{K:W.Frag}{mg:Str->Option MX}{base:Nc}{k:Nat}{f:MY}{name qual:Str}{params:Arguments}{body:List Ng}{scope:Scope}{dV kV doc pm cdv ct oc:MX}{an od:Option MY}
  {osl:Array (Option MX)} {N ps:List Str} {sp:Sp} (lk:K.lookup f=some ⟨oc,od,.func (W.fnOf name qual params body scope dV kV doc pm an cdv ct),osl⟩) (hcd:W.codeIn K cdv qual=true) (S:aA N ps scope)
  (len:∀vs H Q E,sp vs H Q E->vs.length=ps.length)
  (hbody:∀(A:M4)(outer:List Env)(s:MZ)(H:Hp)(vs:List V)(Q:VK)(E:XK),df k (A.deeper (envOfC qual scope s.heap.objs.size f cdv))->sp vs H Q E->
   ∃t,vI (pV CX P w K mg base N qual scope f cdv A outer s H E) body t/\t {nx:=fun _ H'=>Q .de H',rt:=Q} (start N vs) H):
  iD P w K mg base CX (k+1) f (W.fnOf name qual params body scope dV kV doc pm an cdv ct) ps sp:=by
 refine⟨len,fun A outer s H args us vs Q E tk hr e0 hb r hsp=>?_⟩;have hl:=len _ _ _ _ hsp;have KX:K.In s.heap:=e0.mod.De.keeps fun b o e=>(e0.bs b o e).1;have lim:s.heap.NoLimit:=e0.mod.nolimit.keeps fun b o e=>(e0.bs b o e).1;have hkind:∀y∈ps.zip us,scope.names.lookup y.1=some .local\/(scope.names.lookup y.1=some .cell/\((cellsFrom (s.heap.objs.size+1) scope.names []).lookup y.1).isSome=true):=fun⟨n,v⟩ hy=>by
  rcases S.par n (List.of_mem_zip hy).1 with q|q
  .exact .inl q
  .exact .inr ⟨q,W.cellsFrom_some _ _ _ (.inl q)⟩
 refine codeAny_call_function hr.depth (KX _ _ lk) rfl S.co S.gen rfl (W.codeRec_of KX hcd) (hb _ _ _ _ ?_);refine wpAny_with_toks (n:=1) tk ?_;refine wpAny_newFunctionEnv_cells S.kind hkind fun env he s1 x tk1=>?_;subst he;refine⟨lim.keeps x.toInCall.keep,codeAny_func ?_⟩;obtain⟨t,ht,hq⟩:=hbody A outer s H vs Q E (hr.deeper _) hsp;have I:Inv (pV CX P w K mg base N qual scope f cdv A outer s H E) [] (start N vs) H s1:=qr S hr.hd e0 hl r x;refine M9 (ht [] s1 (start N vs) H _ tk1 I hq) (fun fl s' hs=>?_) fun e s' hs=>hs;have fin:∀{σ':St}{H':Hp}{v:V}{u:MX},Inv (pV CX P w K mg base N qual scope f cdv A outer s H E) [] σ' H' s'->RelV v u->Q v H'->CE outer P w H s Q u s':=
  fun{σ' H' v u} J rv q=>⟨v,H',J.os,J.bare,J.base,J.aX,rv,q⟩
 cases fl with
 |ret u=>
  obtain⟨v,σ',H',J,rv,q⟩:=hs;exact fin J rv q
 |next=>
  obtain⟨σ',H',J,q⟩:=hs;exact fin (v:=V.de) (u:=MX.none) J rfl q
 |brk=>
  obtain⟨_,_,_,q⟩:=hs;exact False.elim q
 |cont=>
  obtain⟨_,_,_,q⟩:=hs;exact False.elim q
section
variable{P:M0}{w:M3}{K:W.Frag}{mg:Str->Option MX}{base:Nc}
theorem dO.LG {x qual:Str}{st:Ng}{f:MY}{fd:Nb}{N ps:List Str}{k:Nat}{sp:Sp}(F:dO K x qual st f fd)(S:aA N ps (ar st))(len:∀vs H Q E,sp vs H Q E->vs.length=ps.length)
  (hbody:∀(cdv:MX)(A:M4)(outer:List Env)(s:MZ)(H:Hp)(vs:List V)(Q:VK)(E:XK),df k (A.deeper (envOfC qual (ar st) s.heap.objs.size f cdv))->sp vs H Q E->
   ∃t,vI (vG P w K mg base N qual (ar st) f cdv A outer s H E) (dB st) t/\t {nx:=fun _ H'=>Q .de H',rt:=Q} (start N vs) H):iD P w K mg base (i3 P w) (k+1) f fd ps sp:=by
 obtain⟨oc,od,kV,doc,pm,an,cdv,ct,osl,rfl,lk,hcd⟩:=F.ex;exact GK lk hcd S len fun A outer s H vs Q E hr hsp=>hbody cdv A outer s H vs Q E hr hsp
end
structure Bc(P:M0)(w:M3)(K:W.Frag)(mg:Str->Option MX)(base:Nc)(x:Str)(k:Nat)(ps:List Str)(sp:Sp):Prop where
 ex:∃(f:MY)(fd:Nb),iD P w K mg base (i3 P w) k f fd ps sp/\mg x=some (.ref f)/\W.keepIn K (.ref f)=true/\Binds K fd ps []
theorem eV.toQ {P:M0}{w:M3}{K:W.Frag}{mg:Str->Option MX}{base:Nc}{x:Str}{k:Nat}{ps:List Str}{sp:Sp}(F:eV P w K mg base x k ps sp):Bc P w K mg base x k ps sp:=by
 obtain⟨f,fd,F,hm,hk,hb⟩:=F.ex;exact⟨⟨f,fd,F.toQ,hm,hk,hb⟩⟩
structure DW(P:M0)(w:M3)(K:W.Frag)(mg:Str->Option MX)(base:Nc)(k:Nat)(f:MY)(sp:Sp):Prop where
 ex:∃(fd:Nb)(ps:List Str),iD P w K mg base (i3 P w) k f fd ps sp/\W.keepIn K (.ref f)=true/\Binds K fd ps []
section
variable{X:Cx}{CX:om}{k:Nat}{f C:MY}{fd:Nb}{ps:List Str}{sp:Sp}{E:XK}{x:Str}{p pos:Pos}{e:Expr}{es:List Expr}{t:TA}
theorem yu{pins:List (MY×Obj)}{σ:St}{H:Hp}{s:MZ}{Q:VK}{us:List MX}{vs:List V}(F:iD X.prog X.w X.K X.mg X.base CX k f fd ps sp)(hr:df k X.A)(hb:Binds X.K fd ps [])(hx:Passes CX X E)
  (tk:0<s.toks) (I:Inv X pins σ H s) (r:Vals vs us) (h:sp vs H Q E):Nf (model X.prog X.w) X.A (call (.ref f) us) (EP X pins σ Q) X.xe s:=by
 have hl:us.length=ps.length:=by rw[←r.length];exact F.len _ _ _ _ h
 have bb:=hb s us I.jr (by rw[MN];exact hl);rw[MN]at bb;refine wpAny_call (codeAny_mono (F.run X.A X.stack s H ⟨us,[]⟩ us vs Q E tk hr I.pL bb r h) fun r s' hq=>?_)
 cases r with
 |error e=>exact hx pins σ H s e s' I hq
 |ok fl=>
  cases fl with
  |ret u=>exact I.after hq
  |next=>exact False.elim hq
  |brk=>exact False.elim hq
  |cont=>exact False.elim hq
theorem sh(F:Bc X.prog X.w X.K X.mg X.base x k ps sp)(hx:Passes (i3 X.prog X.w) X E)(hr:df k X.A)(hg:Gl X x)(ha:QA X (e::es) t)(hdb:(x==("__debug__" :Str))=false:=by decide+kernel)(he:Na (e::es) X.env=(false,eval e X.env)::Na es X.env:=by rfl)(hpl:(Nd pos (Na es X.env)).any (·.1)=false:=by rfl):
  QE X (.Call (.Name x p) (e::es) [] pos) (tS sp [] E t):=by
 obtain⟨f,fd,F,hm,hk,hb⟩:=F.ex;intro pins s σ H Q tk I h;refine wpAny_Call_Name_kw (jo I hg hm ?_ hdb);refine W.callWith_K (h₀:=X.base) I.ok.mod.De hk (aY (iE tk (ha pos pins s σ H _ tk I h)) fun us s1 ⟨tk1,vs,H1,I1,r,q⟩=>⟨I1.jr,?_⟩) he hpl;have q:sp (vs++[]) H1 Q E:=q;rw[MN]at q;exact yu F hr hb hx tk1 I1 r q
theorem Bh{i:Nat}{Fam:MY->Sp->Prop}(hF:∀f sp,Fam f sp->DW X.prog X.w X.K X.mg X.base k f sp)(hx:Passes (i3 X.prog X.w) X E)(hr:df k X.A)(hN:X.N[i]?=some x)(hv:Kt X.env.scope x)(ha:PA X (e::es) t)
  (hdb:(x==("__debug__" :Str))=false:=by decide+kernel) (hcd:(x==("__classdict__" :Str))=false:=by decide+kernel) (he:Na (e::es) X.env=(false,eval e X.env)::Na es X.env:=by rfl) (hpl:(Nd pos (Na es X.env)).any (·.1)=false:=by rfl):
  QE X (.Call (.Name x p) (e::es) [] pos) (D3 i Fam E t):=by
 intro pins s σ H Q tk I h;obtain⟨f,sp,hs,hf,h⟩:=h;obtain⟨fd,ps,F,hk,hb⟩:=(hF f sp hf).ex;refine wpAny_Call_Name_kw (aY (iE tk (AH hN hv hdb hcd pins s σ H (fun v H1=>v= .ref f/\H1=H) I ⟨_,hs,rfl,rfl⟩)) fun u s1 ⟨tk1,y,H1,I1,r,ey,eH⟩=>?_);subst ey;subst eH;obtain rfl:u=MX.ref f:=r;refine W.callWith_K (h₀:=X.base) I1.ok.mod.De hk (aY (iE tk1 (ha pos pins s1 σ _ _ I1 h)) fun us s2 ⟨tk2,vs,H2,I2,r,q⟩=>⟨I2.jr,?_⟩) he hpl;exact yu F hr hb hx tk2 I2 r q
end
theorem Bt{ix:List (Option Nat)}{g:TG}{te:TE}{σ:St}{Q:VK}{H:Hp}{G1 G2:Hp->Prop}{xs ys:List V}(Pv:Nat->List V->St->Hp->Prop)(hn:min xs.length ys.length<=1000000)(h0:Pv 0 [] (dJ ix σ) H)
  (hl:∀i zs σ H,i<=min xs.length ys.length->Pv i zs σ H->G1 H/\G2 H) (hlen:∀i zs σ H,Pv i zs σ H->zs.length<=i)
  (hs:∀i zs σ H t v u(R:St->List V->Hp->Prop),xs[i]?=some v->ys[i]?=some u->Pv i zs σ H->H t=none->(∀σ2 ys2 H5,Pv (i+1) ys2 σ2 H5->R σ2 ys2 H5)->g (.ref t) σ (upd H t (.tup [v,u])) fun σ2 H3=>te σ2 H3 fun v H5=>R σ2 (zs++[v]) H5)
  (mg:∀x σ H R R',(∀σ2 H2,R σ2 H2->R' σ2 H2)->g x σ H R->g x σ H R')
  (hd:∀zs σ' H' p,Pv (min xs.length ys.length) zs σ' H'->H' p=none->Q (.ref p) (upd H' p (.lst zs))):fz ix g dS te σ Q (Iq xs ys G1 G2) H:=by
 refine fZ Pv hn h0 (fun i zs σ H hi p=>⟨hi,hl i zs σ H (Nat.le_of_lt hi) p⟩) (fun zs σ H p=>⟨rfl,hl _ zs σ H (MP _) p⟩) hlen (fun i zs σ H x H2 R hi p y r=>?_) hd;obtain⟨t,v,u,ht,rfl,hv,hu,rfl⟩:=y;refine mg _ _ _ _ _ (fun σ2 H3 q=>?_) (hs i zs σ H t v u R hv hu p ht r);unfold dS;simp only[if_true];exact q
theorem Lw{K:W.Frag}{k l:Nat}:∀x σ H R R',(∀σ2 H2,R σ2 H2->R' σ2 H2)->DQ K 2 (tO (cF k) (tO (cF l) Ho)) x σ H R->DQ K 2 (tO (cF k) (tO (cF l) Ho)) x σ H R':=by
 intro x σ H R R' hR h;obtain⟨a,xs,e1,h1,h2,v,r,e2,v2,r2,e3,e4,q⟩:=h;exact⟨a,xs,e1,h1,h2,v,r,e2,v2,r2,e3,e4,hR _ _ q⟩
theorem ua{x:V}{xs:List V}:fg (x::xs) (some 1) none=xs:=by
 unfold fg HT.oR;simp
def fb{α β:Type}(f:α->Option β):List α->Option (List β)
 |[]=>some []
 |x::xs=>match f x with
  |none=>none
  |some y=>(fb f xs).map (y::·)
theorem qN{α β:Type}{f:α->Option β}:∀{l:List α}{ys:List β}{x:α}{y:β},fb f l=some ys->f x=some y->fb f (l++[x])=some (ys++[y])
 |[],ys,x,y,h,e=>by
  cases h;show(match f x with|none=>none|some y=>(fb f []).map (y::·))=_;rw[e];rfl
 |a::l,ys,x,y,h,e=>by
  unfold fb at h;rw[List.cons_append];unfold fb
  cases ea:f a with
  |none=>rw[ea]at h;cases h
  |some b=>
   rw[ea]at h;dsimp only at h⊢
   cases el:fb f l with
   |none=>rw[el]at h;cases h
   |some zs=>
    rw[el]at h;cases h;rw[qN el e];rfl
theorem mr{α β:Type}{f:α->Option β}:∀{l:List α}{i:Nat}{x:α},l[i]?=some x->f x=none->fb f l=none
 |[],i,x,h,_=>by simp at h
 |a::l,0,x,h,e=>by
  cases h;unfold fb;rw[e]
 |a::l,i+1,x,h,e=>by
  unfold fb;rw[mr (l:=l) (i:=i) (by simpa using h) e];cases f a<;>rfl
theorem mK{α β:Type}{f:α->Option β}{l:List α}{i:Nat}{x:α}{y:β}{ys:List β}(h:fb f (l.take i)=some ys)(hx:l[i]?=some x)(e:f x=some y):fb f (l.take (i+1))=some (ys++[y]):=by
 rw[List.take_add_one,hx];exact qN h e
theorem tR{α β:Type}{f:α->Option β}:∀{l:List α}{ys:List β},fb f l=some ys->∀{i:Nat}{x:α},l[i]?=some x->∃y,ys[i]?=some y/\f x=some y
 |[],ys,h,i,x,hx=>by simp at hx
 |a::l,ys,h,i,x,hx=>by
  unfold fb at h
  cases ea:f a with
  |none=>rw[ea]at h;cases h
  |some b=>
   rw[ea]at h;dsimp only at h
   cases el:fb f l with
   |none=>rw[el]at h;cases h
   |some zs=>
    rw[el]at h;cases h
    cases i with
    |zero=>cases hx;exact⟨b,rfl,ea⟩
    |succ i=>exact tR el (i:=i) (by simpa using hx)
theorem Fb{p A B:Prop}[Decidable p](hp:p)(h:A):if p then A else B:=by rw[if_pos hp];exact h
theorem eG{p A B:Prop}[Decidable p](hp:¬p)(h:B):if p then A else B:=by rw[if_neg hp];exact h
theorem oQ{xs:List Str}{i:Nat}{v:V}(h:(xs.map V.str)[i]?=some v):∃x,xs[i]?=some x/\v= .str x:=by
 rw[Mv]at h
 cases e:xs[i]? with
 |none=>rw[e]at h;cases h
 |some x=>rw[e]at h;exact⟨x,rfl,(MV h).symm⟩
end L2
namespace Sw
open PySem L2
inductive Wd where
 |txt (x:Str)
 |num (k:Int)
 |row (R:List (Int×Int))
 |ord (xs:List Int)
def ud(H:Hp)(v:V):Wd->Prop
 | .txt x=>v= .str x
 | .num k=>v= .int k
 | .row R=>cY H v R
 | .ord xs=>∃t,v= .ref t/\H t=some (.tup (xs.map V.int))
theorem ud.same {H H':Hp}{v:V}{x:Wd}(h:ud H v x)(s:ah H H'):ud H' v x:=by
 cases x with
 |txt x=>exact h
 |num k=>exact h
 |row R=>exact cY.same h s
 |ord xs=>obtain⟨t,e,q⟩:=h;exact⟨t,e,s _ _ q⟩
def wH(H:Hp)(vs:List V)(xs:List Wd):Prop:=Paired (fun v x=>ud H v x) vs xs
theorem wH.same {H H':Hp}{vs:List V}{xs:List Wd}(h:wH H vs xs)(s:ah H H'):wH H' vs xs:=Paired.rX h fun _ _ z=>z.same s
theorem wH.len {H:Hp}{vs:List V}{xs:List Wd}(h:wH H vs xs):vs.length=xs.length:=Paired.EU h
theorem wH.snoc {H:Hp}{vs:List V}{xs:List Wd}{v:V}{x:Wd}(h:wH H vs xs)(z:ud H v x):wH H (vs++[v]) (xs++[x]):=Paired.En h (.cons z .nil)
inductive Out where
 |nu (c:MY)
 |ans (s:Str)
 |Kr
 |put (x:Str) (R:List (Int×Int))
 |del (x:Str)
structure dE where
 due:Str->Option (List Str)
 okd:Str->Bool
 Ed:Int->Str->Str->Option Wd
 isA:Str->Bool
 ans:Str->Int->List Wd->Option (Except MY Str)
 Ge:Str->List Wd->Option (Except MY (List (Int×Int)))
 CT:MY
 CN:MY
def pW(m:Kept)(d:Str)(x:Wd):Option Wd:=
 if d=Mt "name"then match x with
  | .txt s=>(rowOf m s).map Wd.row
  |_=>none
 else some x
def dE.out (L:dE)(n:Int)(m:Kept):List Str->Option Out
 |[]=>none
 |word::args=>match L.due word with
  |none=>none
  |some dues=>
   if dues.length≠args.length then none else
   if dues.all L.okd=false then none else
   match fb (fun p:Str×Str=>L.Ed n p.1 p.2) (dues.zip args)with
   |none=>none
   |some read=>match fb (fun p:Str×Wd=>pW m p.1 p.2) (dues.zip read)with
    |none=>some (.nu L.CN)
    |some given=>
     if word=Mt "names"then some .Kr else
     if L.isA word=true then match L.ans word n given with
      |none=>none
      |some (.ok s)=>some (.ans s)
      |some (.error c)=>some (.nu c)
     else match read with
      | .txt x::_=>if word=Mt "drop"then(rowOf m x).map fun _=> .del x else match L.Ge word given with
       |none=>none
       |some (.ok R)=>some (.put x R)
       |some (.error c)=>some (.nu c)
      |_=>none
def jV(m:Kept)(x:Str)(R:List (Int×Int)):Kept:=if(m.any fun p=>decide (p.1=x))=true then m.map (fun p=>if p.1=x then(p.1,R)else p)else m++[(x,R)]
def uH(m:Kept)(x:Str):Kept:=m.filter fun p=>decide (p.1≠x)
theorem cY.Bv {H:Hp}{v:V}{R:List (Int×Int)}{d:MY}{kvs kvs':List (Key×V)}(h:cY H v R)(e:H d=some (.dK kvs)):cY (upd H d (.dK kvs')) v R:=by
 obtain⟨l,es,e1,h1,h2⟩:=h;have ne:∀b o,H b=some o->(∀q,o≠.dK q)->b≠d:=fun b o hb hn z=>by rw[z,e]at hb;cases hb;exact hn _ rfl
 refine⟨l,es,e1,by rw[aq (ne _ _ h1 fun q z=>nomatch z)];exact h1,h2.keep fun b xs hb=>by rw[aq (ne _ _ hb fun q z=>nomatch z)];exact hb⟩
theorem bA.Bv {H:Hp}{d:MY}{kvs kvs':List (Key×V)}{ks:List (Key×V)}{m:Kept}(h:bA H ks m)(e:H d=some (.dK kvs)):bA (upd H d (.dK kvs')) ks m:=Paired.rX h fun _ _ z=>⟨z.1,z.2.Bv e⟩
theorem bA.any {H:Hp}{x:Str}:∀{kvs:List (Key×V)}{m:Kept},bA H kvs m->(kvs.any fun kv=>decide (kv.1=Sum.inr x))=m.any fun p=>decide (p.1=x)
 |_,_,.nil=>rfl
 |_,_,.cons h r=>by
  rw[List.any_cons,List.any_cons,bA.any r,h.1];congr 1;rw[Bool.eq_iff_iff,decide_eq_true_eq,decide_eq_true_eq];exact⟨fun z=>Sum.inr.inj z,fun z=>by rw[z]⟩
theorem bA.Bi {H:Hp}{x:Str}{v:V}{R:List (Int×Int)}(hv:cY H v R):∀{kvs:List (Key×V)}{m:Kept},bA H kvs m->bA H (kvs.map fun kv=>if kv.1=Sum.inr x then(kv.1,v)else kv) (m.map fun p=>if p.1=x then(p.1,R)else p)
 |_,_,.nil=> .nil
 |_,_,.cons (a:=p) (b:=q) h r=>by
  rw[MA,MA];refine .cons ?_ (bA.Bi hv r);by_cases c:q.1=x
  .rw[if_pos (by rw[h.1,c]),if_pos c]
   exact⟨h.1,hv⟩
  .rw[if_neg (by rw[h.1];exact fun z=>c (Sum.inr.inj z)),if_neg c]
   exact h
theorem bA.put {H:Hp}{x:Str}{v:V}{R:List (Int×Int)}{kvs:List (Key×V)}{m:Kept}(h:bA H kvs m)(hv:cY H v R):bA H (putK kvs (.inr x) v) (jV m x R):=by
 unfold putK jV;rw[h.any]
 split
 .exact h.Bi hv
 .exact Paired.En h (.cons ⟨rfl,hv⟩ .nil)
theorem bA.drop {H:Hp}{x:Str}:∀{kvs:List (Key×V)}{m:Kept},bA H kvs m->bA H (kG kvs (.inr x)) (uH m x)
 |_,_,.nil=> .nil
 |_,_,.cons (a:=p) (b:=q) (l₁:=kvs) (l₂:=m) h r=>by
  unfold kG uH;rw[List.filter_cons,List.filter_cons];have ih:=bA.drop (x:=x) r;unfold kG uH at ih;by_cases c:q.1=x
  .rw[if_neg (by rw[h.1,c];simp),if_neg (by rw[c];simp)]
   exact ih
  .rw[if_pos (by rw[h.1];simpa using c),if_pos (by simpa using c)]
   exact .cons h ih
def cX(ws:List Str):Str:=if ws=[]then Mt "none"else Str.join (Mt ",") ws
def J3(L:dE):Sp:=fun vs H Q _=>∃(n:Int)(d w:Str)(x:Wd),vs=[.int n,.str d,.str w]/\1<=n/\n<=12/\w.length<=990/\L.okd d=true/\L.Ed n d w=some x/\∀v H',ud H' v x->ah H H'->Q v H'
def JB(L:dE):Sp:=fun vs H Q E=>∃(word:Str)(l:MY)(us:List V)(xs:List Wd),vs=[.str word,.ref l]/\H l=some (.lst us)/\wH H us xs/\((∃R,L.Ge word xs=some (.ok R)/\∀v H',cY H' v R->ah H H'->Q v H')\/∃c,L.Ge word xs=some (.error c)/\∀b H',ah H H'->E (.ref c) b H')
def iX(L:dE)(word:Str):Sp:=fun vs H Q E=>∃(n:Int)(l:MY)(us:List V)(xs:List Wd),vs=[.int n,.ref l]/\1<=n/\n<=12/\H l=some (.lst us)/\wH H us xs/\((∃s,L.ans word n xs=some (.ok s)/\∀H',ah H H'->Q (.str s) H')\/∃c,L.ans word n xs=some (.error c)/\∀b H',ah H H'->E (.ref c) b H')
def D6:Sp:=fun vs H Q _=>∃(l:MY)(ws:List Str),vs=[.ref l]/\H l=some (.lst (ws.map V.str))/\ws.length<=100/\(∀w∈ws,w.length<=990)/\Q (.str (cX ws)) H
structure J2(K:W.Frag)(L:dE)(due ans:List (Str×MY)):Prop where
 due:∀w,(L.due w=none/\tabOf due w=none)\/∃xs b,L.due w=some xs/\tabOf due w=some b/\xs.length<=10/\∀H,dI K H b (xs.map V.str)
 ans:∀w,L.isA w=(tabOf ans w).isSome
 name:∀n w x,L.Ed n (Mt "name") w=some x->∃s,x= .txt s
structure IM(P:M0)(w:M3)(K:W.Frag)(mg:Str->Option MX)(base:Nc)(C AD AA:MY)(due ans:List (Str×MY))(L:dE):Prop extends xI K C,T1 mg K where
 BU:mg "zip" =none
 cB:mg "sorted" =none
 cC:mg "NoText" =some (.ref L.CT)
 eW:j4 K L.CT
 yU:mg "DUE" =some (.ref AD)
 yO:RelV (.ref AD) (.ref AD)
 yy:KTab K w.params AD due
 mE:mg "ANSWERS" =some (.ref AA)
 lM:RelV (.ref AA) (.ref AA)
 lW:KTab K w.params AA ans
 tabs:J2 K L due ans
 jQ:MethAt P w K mg base (i3 P w) C "row_of" 1 ["self","name"] (xT C L.CN)
 mX:eV P w K mg base "read_word" 9 ["n","due","word"] (J3 L)
 qu:eV P w K mg base "row_due" 9 ["word","given"] (JB L)
 cT:FnAt P w K mg base "with_commas" 1 ["words"] D6
 Fw:∀f sp,(∃word,tabOf ans word=some f/\sp=iX L word)->DW P w K mg base 20 f sp
def Fy(C:MY)(L:dE):Sp:=fun vs H Q E=>∃(a d:MY)(t:Str)(n:Int)(m:Kept)(o:Out),vs=[.ref a,.str t]/\t.length<=990/\1<=n/\n<=12/\m.length<=40/\(∀p∈m,p.1.length<=990)/\cM C H a d n m/\L.out n m (Txt.split t (Mt " "))=some o/\
 match o with
 | .nu c=>∀b H',ah H H'->E (.ref c) b H'
 | .ans s=>∀H',ah H H'->Q (.str s) H'
 | .Kr=>∀ks:List Str,ks.Perm (m.map (·.1))->PyProof.Rows.sortedS ks=true->∀H',ah H H'->Q (.str (cX ks)) H'
 | .put x R=>∀H',cM C H' a d n (jV m x R)->(∀b o,b≠d->H b=some o->H' b=some o)->Q (.str (Mt "ok")) H'
 | .del x=>∀H',cM C H' a d n (uH m x)->(∀b o,b≠d->H b=some o->H' b=some o)->Q (.str (Mt "ok")) H'
section
variable{P:M0}{w:M3}{K:W.Frag}{mg:Str->Option MX}{base:Nc}{C AD AA:MY}{due ans:List (Str×MY)}{L:dE}
theorem dt:aA ["self","row","words","word","dues","read","given","answer"] ["self","row"] (ar (mem (top 114) 2)):=⟨rfl,rfl,rfl,by decide+kernel,rfl,by decide+kernel,by decide+kernel⟩
theorem Il{f:MY}{fd:Nb}(F:dO K "say" "Desk.say" (mem (top 114) 2) f fd)(T:IM P w K mg base C AD AA due ans L):aR P w K mg base (i3 P w) 30 f fd ["self","row"] (Fy C L):=by
 refine F.Aa dt (fun vs H Q E h=>?_) (fun cdv A outer s H vs Q E hr h=>?_)
 .obtain⟨a,d,t,n,m,o,rfl,_⟩:=h
  rfl
 .obtain⟨a,d,t,n,m,o,rfl,ht,n1,n2,hm,hmw,hd,ho,k⟩:=h
  have hu:=kJ hr;have big:(10000000:Nat)<=M5:=by decide
  refine⟨_,(ag (aC (i:=2) dt.nd rfl (Or.inl rfl) (bZ (K:=K) rfl PySem.F.plainAttrs_str PySem.F.slot_str_split PySem.F.type_str_split oP (pv 1) (aa aK af)))
   (qz (Ij (i:=3) dt.nd rfl (Or.inl rfl) (Ju (az (K:=K) rfl) (pv 2) le_int (fun _ _=>rfl)))
   (cz (QS.of (a8 (PW.pt (jK (iS (Ac T.yy (pv 3) (dR rfl T.yU T.yO))) (hV (ax iH (ak (aL (K:=K) rfl) rfl T.bE (by decide+kernel) (aa (mw T.yy (dR rfl T.yU T.yO) (pv 3) (fun _ _=>rfl)) af)) (av bU (ak (aL (K:=K) rfl) rfl T.bE (by decide+kernel) (aa (pv 2) af)) ai) (aG _))))) (aj (dP pU T.eW rfl rfl T.cC (aa aK af))) aE))
   (cz (QS.of (aC (i:=4) dt.nd rfl (Or.inl rfl) (mw T.yy (dR rfl T.yU T.yO) (pv 3) (fun _ _=>rfl))))
   (cz (QS.of (uG (N:=(["due","written","self"]:List Str)) (ix:=([none,none,some 0]:List (Option Nat))) (i:=5) F8 AE dt.nd rfl rfl (aT rfl rfl) rfl (yc (K:=K) rfl rfl T.BU (aa (pv 4) (aa (bN (bO (K:=K) rfl) (pv 2) (cP ai) cJ) af))) (fun _ _ _ _=>(cx (K:=K) (n:=2) rfl rfl (aO (aw (i:=0) (show List.Nodup (["due","written","self"]:List Str)from by decide+kernel) rfl (Or.inl rfl)) (aO (aw (i:=1) (show List.Nodup (["due","written","self"]:List Str)from by decide+kernel) rfl (Or.inl rfl)) cy)))) (fun _ _ _ _=>bc) (fun _ _ _ _=>(bG T.mX (nh.passes BZ) (hr.mono (by decide)) rfl (@aa _ _ _ _ _ (ig (K:=K) rfl (pv 2)) (@aa _ _ _ _ _ (pv 0) (@aa _ _ _ _ _ (pv 1) af bt) bt) (by rfl))))))
   (cz (QS.of (uG (N:=(["due","value","self"]:List Str)) (ix:=([none,none,some 0]:List (Option Nat))) (i:=6) F8 AE dt.nd rfl rfl (aT rfl rfl) rfl (yc (K:=K) rfl rfl T.BU (aa (pv 4) (aa (pv 5) af))) (fun _ _ _ _=>(cx (K:=K) (n:=2) rfl rfl (aO (aw (i:=0) (show List.Nodup (["due","value","self"]:List Str)from by decide+kernel) rfl (Or.inl rfl)) (aO (aw (i:=1) (show List.Nodup (["due","value","self"]:List Str)from by decide+kernel) rfl (Or.inl rfl)) cy)))) (fun _ _ _ _=>bc) (fun _ _ _ _=>(kO (ax cR (pv 0) aK (aG _)) (Ad T.jQ (nh.passes BZ) (hr.mono (by decide)) (pv 2) (aa (pv 1) af)) (pv 1)))))
   (cz (QS.of (a8 (ax cR (pv 3) aK (aG _)) (aj (ay (au T.cT (hr.mono (by first|decide|lia)) rfl (aa (ak (rN rfl) rfl T.cB (by decide+kernel) (aa (ig (K:=K) rfl (pv 0)) af)) af)))) aE))
   (cz (C3 (iS (BE T.lW (pv 3) (dR rfl T.mE T.lM))) (cz (QS.of (aC (i:=7) dt.nd rfl (Or.inl rfl) (mw T.lW (dR rfl T.mE T.lM) (pv 3) (fun _ _=>rfl))))
   (nN (rh (Bh (i:=7) T.Fw eT (hr.mono (by decide)) rfl (by first|exact Or.inl rfl|exact Or.inr (Or.inl rfl)|exact Or.inr (Or.inr rfl)) (aa (ig (K:=K) rfl (pv 0)) (aa (pv 6) af)))))) (vI.of aE))
   (vI.of (ag (a8 (ax cR (pv 3) aK (aG _)) (aj (Dk (ig (K:=K) rfl (pv 0)) (aU (az (K:=K) rfl) (pv 5) ai (fun _ _=>rfl)))) (aj (lq hu (ig (K:=K) rfl (pv 0)) (aU (az (K:=K) rfl) (pv 5) ai (fun _ _=>rfl)) (bG T.qu eT (hr.mono (by decide)) rfl (aa (pv 3) (aa (pv 6) af))) rfl)))
   (aj (ay aK)))))))))))),?_⟩
  have wl:=split_le t (Mt " ");have wp:∀z∈Txt.split t (Mt " "),z.length<=t.length:=fun z hz=>pX hz;have wne:=uj t (Mt " ");refine⟨_,rfl,rfl,t,_,rfl,rfl,by decide+kernel,by lia,fun l1 f1=>?_⟩;have s1:ah H (upd H l1 (.lst ((Txt.split t (Mt " ")).map V.str))):=ah.new f1;have h1:upd H l1 (.lst ((Txt.split t (Mt " ")).map V.str)) l1=some (.lst ((Txt.split t (Mt " ")).map V.str)):=ae;generalize upd H l1 (.lst ((Txt.split t (Mt " ")).map V.str))=H1 at s1 h1⊢;generalize Txt.split t (Mt " ")=ws at wl wp wne ho h1;obtain _|⟨word,args⟩:=ws
  .exact absurd rfl wne
  have one:1<=M5:=by decide
  have wl':args.length<=1000:=by rw[Mz]at wl;lia
  refine⟨_,rfl,l1,_,0,_,rfl,rfl,aJ.of h1,aZ (j:=0) rfl,?_⟩;refine⟨_,rfl,word,rfl,rfl,_,rfl,?_⟩;rcases T.tabs.due word with⟨e1,e2⟩|⟨xs,b,e1,e2,xl,hb⟩
  .rw[e2]
   simp only[Option.isSome_none,Bool.not_false,if_true];unfold dE.out at ho;dsimp only at ho;rw[e1]at ho;cases ho
  unfold dE.out at ho;dsimp only at ho;rw[e1]at ho;dsimp only at ho;rw[e2];simp only[Option.isSome_some,Bool.not_true,if_false,Bool.false_eq_true];refine⟨_,rfl,word,b,rfl,rfl,e2,b,_,rfl,.inr (hb _),_,rfl,l1,_,rfl,.inl (aJ.of h1),_,_,rfl,rfl,rfl,_,rfl,?_⟩;by_cases hl:xs.length=args.length
  case neg=>
   rw[if_pos hl]at ho;cases ho
  rw[if_neg (fun z=>z hl)]at ho;have aX:xs.all L.okd=true:=by
   cases e:xs.all L.okd with
   |true=>rfl
   |false=>rw[if_pos e]at ho;cases ho
  rw[if_neg (by rw[aX];decide)]at ho;rw[if_neg (by
    simp only[Mu,Mz,Bool.not_eq_true',decide_eq_false_iff_not,V.int.injEq];lia)]
  refine⟨_,rfl,word,b,rfl,rfl,e2,?_⟩;refine⟨_,rfl,_,rfl,1,rfl,l1,_,rfl,aJ.of h1,fun l2 f2=>⟨b,l2,xs.map V.str,args.map V.str,rfl,hb _,aJ.of (by rw[ae,MA,ua]),?_⟩⟩;have h2:upd H1 l2 (.lst (fg ((word::args).map V.str) (some 1) none)) l2=some (.lst (args.map V.str)):=by rw[ae,MA,ua]
  have s2:ah H (upd H1 l2 (.lst (fg ((word::args).map V.str) (some 1) none))):=s1.trans (ah.new f2);generalize upd H1 l2 (.lst (fg ((word::args).map V.str) (some 1) none))=H2 at h2 s2⊢;obtain⟨dx,fs,kvs,ha,hf,hkd,dne,km,ml⟩:=id hd;refine Bt (fun i zs σ' H'=>(∃v0 v1,σ'=[v0,v1,some (.ref a)])/\ah H2 H'/\∃ys,fb (fun p:Str×Str=>L.Ed n p.1 p.2) ((xs.zip args).take i)=some ys/\wH H' zs ys/\ys.length=i) (by simp only[Mu];lia) ⟨⟨none,none,rfl⟩,ah.refl _,[],rfl,.nil,rfl⟩ (fun i zs σ' H' _ ⟨_,sm,_⟩=>⟨hb _,aJ.of (sm _ _ h2)⟩) (fun i zs σ' H' ⟨_,_,ys,_,wz,yl⟩=>by have:=wz.len;lia) (fun i zs σ' H' t' v u R hv hu ⟨⟨v0,v1,e3⟩,sm,ys,em,wz,yl⟩ ft r=>?_) Lw (fun zs σ' H' l3 ⟨_,sm,ys,em,wz,yl⟩ f3=>?_)
  .subst e3
   obtain⟨dj,e4,rfl⟩:=oQ hv;obtain⟨wj,e5,rfl⟩:=oQ hu;have ez:(xs.zip args)[i]?=some (dj,wj):=by rw[List.getElem?_zip_eq_some];exact⟨e4,e5⟩
   have st:ah H' (upd H' t' (.tup [.str dj,.str wj])):=ah.new ft;have ha':=st _ _ (sm _ _ (s2 _ _ ha));have wlen:wj.length<=990:=MS (wp wj (MH _ (MF e5))) ht;refine⟨t',_,rfl,dI.of ae,rfl,_,_,rfl,_,_,rfl,rfl,?_⟩;refine⟨_,rfl,a,C,dx,fs,_,rfl,ha',T.cls,T.Hm,hf.n_,_,rfl,_,rfl,?_⟩
   cases ex:L.Ed n dj wj with
   |none=>
    rw[mr (f:=fun p:Str×Str=>L.Ed n p.1 p.2) ez ex]at ho;cases ho
   |some x=>exact⟨n,dj,wj,x,rfl,n1,n2,wlen,List.all_eq_true.mp aX dj (MF e4),ex,fun v' H5 wv sv=>r _ _ _ ⟨⟨_,_,rfl⟩,sm.trans (st.trans sv),ys++[x],mK em ez ex,(wz.same (st.trans sv)).snoc wv,by rw[Mw,yl];rfl⟩⟩
  rw[MI (by simp only[List.length_zip,Mu];lia)]at em;have ee:=em;rw[em]at ho;dsimp only at ho;have yl2:ys.length=xs.length:=by rw[yl];simp only[Mu];lia
  have h3:upd H' l3 (.lst zs) l3=some (.lst zs):=ae;have s3:ah H (upd H' l3 (.lst zs)):=s2.trans (sm.trans (ah.new f3));have wz3:wH (upd H' l3 (.lst zs)) zs ys:=wz.same (ah.new f3);generalize upd H' l3 (.lst zs)=H3 at h3 s3 wz3⊢;clear wz em yl sm f3 h1 h2 s1 s2 f1 f2;refine⟨_,rfl,_,rfl,b,l3,xs.map V.str,zs,rfl,hb _,aJ.of h3,?_⟩;refine Bt (fun i vs' σ' H'=>(∃v0 v1,σ'=[v0,v1,some (.ref a)])/\ah H3 H'/\∃gs,fb (fun p:Str×Wd=>pW m p.1 p.2) ((xs.zip ys).take i)=some gs/\wH H' vs' gs/\gs.length=i) (by simp only[Mu];lia) ⟨⟨none,none,rfl⟩,ah.refl _,[],rfl,.nil,rfl⟩ (fun i zs σ' H' _ ⟨_,sm,_⟩=>⟨hb _,aJ.of (sm _ _ h3)⟩) (fun i zs σ' H' ⟨_,_,ys,_,wz,yl⟩=>by have:=wz.len;lia) (fun i vs' σ' H' t' v u R hv hu ⟨⟨v0,v1,e3⟩,sm,gs,em,wz,gl⟩ ft r=>?_) Lw (fun vs' σ' H' l4 ⟨_,sm,gs,em,wz,gl⟩ f4=>?_)
  .subst e3
   obtain⟨dj,e4,rfl⟩:=oQ hv;obtain⟨x,e5,wx⟩:∃x,ys[i]?=some x/\ud H3 u x:=by
    rcases Paired.at' i wz3 with⟨u',x,q1,q2,q3⟩|⟨q1,q2⟩
    .rw[hu]at q1;cases q1;exact⟨x,q2,q3⟩
    .rw[hu]at q1;cases q1
   have ez:(xs.zip ys)[i]?=some (dj,x):=by rw[List.getElem?_zip_eq_some];exact⟨e4,e5⟩
   have st:ah H' (upd H' t' (.tup [.str dj,u])):=ah.new ft;have sH:ah H (upd H' t' (.tup [.str dj,u])):=s3.trans (sm.trans st);refine⟨t',_,rfl,dI.of ae,rfl,_,_,rfl,_,_,rfl,rfl,?_⟩;refine⟨_,rfl,rfl,_,rfl,?_⟩;by_cases hn:dj=Mt "name"
   .dsimp only
    rw[if_pos (by rw[hn];decide)];have il:i<args.length:=by have:=(List.getElem?_eq_some_iff.mp e4).1;lia
    obtain⟨y,e6,e7⟩:=tR ee (i:=i) (x:=(dj,args[i])) (by rw[List.getElem?_zip_eq_some];exact⟨e4,Mx il⟩);rw[e5]at e6;cases e6;dsimp only at e7;rw[hn]at e7;obtain⟨z,rfl⟩:=T.tabs.name _ _ _ e7;cases wx;have hd':cM C (upd H' t' (.tup [.str dj,.str z])) a d n m:=⟨dx,fs,kvs,sH _ _ ha,hf,sH _ _ hkd,dne,km.same sH,ml⟩;refine⟨_,rfl,a,dx,fs,rfl,sH _ _ ha,hf.GH,_,rfl,a,d,z,n,m,rfl,hd',fun en=>?_,fun R' v' er rv=>?_⟩
    .rw[mr (f:=fun p:Str×Wd=>pW m p.1 p.2) ez (by show pW m dj (.txt z)=none;unfold pW;rw[if_pos hn];dsimp only;rw[en];rfl)]at ho
     cases ho;exact k none _ sH
    .exact r _ _ _ ⟨⟨_,_,rfl⟩,sm.trans st,gs++[.row R'],mK em ez (by show pW m dj (.txt z)=some (.row R');unfold pW;rw[if_pos hn];dsimp only;rw[er];rfl),(wz.same st).snoc (x:= .row R') rv,by rw[Mw,gl];rfl⟩
   .dsimp only
    rw[if_neg (by simpa using hn)];exact⟨_,rfl,r _ _ _ ⟨⟨_,_,rfl⟩,sm.trans st,gs++[x],mK em ez (by show pW m dj x=some x;unfold pW;rw[if_neg hn]),(wz.same st).snoc (wx.same (sm.trans st)),by rw[Mw,gl];rfl⟩⟩
  have zl3:=wz3.len;rw[MI (by simp only[List.length_zip,Mu];lia)]at em;rw[em]at ho;dsimp only at ho;have h4:upd H' l4 (.lst vs') l4=some (.lst vs'):=ae;have sx:ah H3 (upd H' l4 (.lst vs')):=sm.trans (ah.new f4);have s4:ah H (upd H' l4 (.lst vs')):=s3.trans sx;have wz4:wH (upd H' l4 (.lst vs')) vs' gs:=wz.same (ah.new f4);have h34:upd H' l4 (.lst vs') l3=some (.lst zs):=sx _ _ h3;have wz34:wH (upd H' l4 (.lst vs')) zs ys:=wz3.same sx;generalize upd H' l4 (.lst vs')=H4 at h4 s4 wz4 h34 wz34⊢;clear sx wz em sm f4 h3 s3 wz3 ee gl;have ha4:=s4 _ _ ha;have hkd4:=s4 _ _ hkd;have km4:=km.same s4;have kl:kvs.length=m.length:=Paired.EU km;refine⟨_,rfl,rfl,_,rfl,?_⟩;dsimp only;by_cases c1:word=Mt "names"
  .rw[if_pos (by rw[c1];decide)]
   rw[if_pos c1]at ho;cases ho;refine⟨_,rfl,a,C,dx,fs,_,rfl,ha4,T.cls,T.iw,hf.kept,d,kvs,m.map (·.1),rfl,hkd4,km4.keys,by lia,fun l ks' fl pm so=>⟨l,ks',rfl,ae,?_,?_,k ks' pm so _ (s4.trans (ah.new fl))⟩⟩
   .have:=pm.length_eq
    rw[Mu]at this;lia
   .intro w hw
    obtain⟨p,hp,e⟩:=List.mem_map.mp (pm.mem_iff.mp hw);rw[←e];exact hmw p hp
  rw[if_neg (by simpa using c1)];rw[if_neg c1]at ho;refine⟨_,rfl,word,rfl,rfl,_,rfl,?_⟩;dsimp only;rw[←T.tabs.ans word];by_cases c2:L.isA word=true
  .rw[if_pos c2]
   rw[if_pos c2]at ho;obtain⟨fA,eA⟩:=Option.isSome_iff_exists.mp ((T.tabs.ans word).symm.trans c2);refine⟨_,rfl,word,fA,rfl,rfl,eA,?_⟩;refine⟨fA,iX L word,rfl,⟨word,eA,rfl⟩,_,rfl,a,C,dx,fs,_,rfl,ha4,T.cls,T.Hm,hf.n_,_,rfl,n,l4,vs',gs,rfl,n1,n2,h4,wz4,?_⟩
   cases er:L.ans word n gs with
   |none=>rw[er]at ho;cases ho
   |some r=>
    rw[er]at ho
    cases r with
    |ok s'=>
     cases ho;exact .inl ⟨s',rfl,fun H' sx=>k H' (s4.trans sx)⟩
    |error c=>
     cases ho;exact .inr ⟨c,rfl,fun b H' sx=>k b H' (s4.trans sx)⟩
  rw[if_neg c2];rw[if_neg c2]at ho;obtain⟨x,rest,rfl⟩:∃x rest,ys= .txt x::rest:=by
   match ys,ho with
   | .txt x::rest,_=>exact⟨x,rest,rfl⟩
   |[],ho=>cases ho
   | .num _::_,ho=>cases ho
   | .row _::_,ho=>cases ho
   | .ord _::_,ho=>cases ho
  cases wz34 with
  |cons w1 w2=>
   cases(show _=V.str x from w1);dsimp only at ho;refine⟨_,rfl,rfl,_,rfl,?_⟩;dsimp only;by_cases c3:word=Mt "drop"
   .rw[if_pos (by rw[c3];decide)]
    rw[if_pos c3]at ho
    cases er:rowOf m x with
    |none=>rw[er]at ho;cases ho
    |some R=>
     rw[er]at ho;cases ho;have isS:(cj kvs (Sum.inr x:Key)).isSome=true:=by
      rcases km.get x with⟨q,_⟩|⟨_,_,_,q,_⟩
      .rw[er]at q;cases q
      .rw[q];rfl
     refine⟨_,rfl,a,C,dx,fs,_,rfl,ha4,T.cls,T.iw,hf.kept,_,rfl,l3,_,0,_,rfl,rfl,aJ.of h34,aZ (j:=0) rfl,d,kvs,.inr x,rfl,hkd4,rfl,isS,?_⟩;exact k _ ⟨dx,fs,kG kvs (.inr x),by rw[aq (Ne.symm dne)];exact ha4,hf,ae,dne,(km4.Bv hkd4).drop,MS (List.length_filter_le _ _) (by lia)⟩ fun b o hb e=>by rw[aq hb];exact s4 _ _ e
   .rw[if_neg (by simpa using c3)]
    rw[if_neg c3]at ho
    cases er:L.Ge word gs with
    |none=>rw[er]at ho;cases ho
    |some r=>
     rw[er]at ho
     cases r with
     |error c=>
      cases ho;exact⟨_,rfl,_,rfl,word,l4,vs',gs,rfl,h4,wz4,.inr ⟨c,er,fun b H' sx=>k b H' (s4.trans sx)⟩⟩
     |ok R=>
      cases ho;refine⟨_,rfl,_,rfl,word,l4,vs',gs,rfl,h4,wz4,.inl ⟨R,er,fun v H5 rv sx=>?_⟩⟩;have hkd5:=sx _ _ hkd4;refine⟨_,rfl,a,C,dx,fs,_,rfl,sx _ _ ha4,T.cls,T.iw,hf.kept,_,rfl,l3,_,0,_,rfl,rfl,aJ.of (sx _ _ h34),aZ (j:=0) rfl,d,_,rfl,rM.k (k:= .inr x) hkd5 (by lia),?_⟩;refine k _ ⟨dx,fs,putK kvs (.inr x) v,by rw[aq (Ne.symm dne)];exact sx _ _ ha4,hf,ae,dne,((km4.same sx).Bv hkd5).put (rv.Bv hkd5),?_⟩ fun b o hb e=>by rw[aq hb];exact sx _ _ (s4 _ _ e)
      unfold jV
      split
      .rw[Mu];lia
      .rw[Mw];exact MS (Nat.add_le_add_right hm 1) (by decide)
end
section
variable{P:M0}{w:M3}{K:W.Frag}{mg:Str->Option MX}{base:Nc}
theorem oq:aA ["words"] ["words"] (ar (top 95)):=⟨rfl,rfl,rfl,by decide+kernel,rfl,by decide+kernel,by decide+kernel⟩
theorem FN{f:MY}{fd:Nb}(F:dO K "with_commas" "with_commas" (top 95) f fd)(T:T1 mg K):aR P w K mg base gh 1 f fd ["words"] D6:=by
 refine F.ok oq (fun vs H Q E h=>?_) (fun cdv A outer s H vs Q E hr h=>?_)
 .obtain⟨l,ws,rfl,_⟩:=h
  rfl
 .obtain⟨l,ws,rfl,hl,h1,h2,k⟩:=h
  refine⟨_,(aj (ay (kO (ax cR (ak (aL (K:=K) rfl) rfl T.bE (by decide+kernel) (aa (pv 0) af)) ai (aG _)) aK (bZ (K:=K) rfl PySem.F.plainAttrs_str PySem.F.slot_str_join PySem.F.type_str_join (ic (K:=K) rfl) aK (aa (pv 0) af))))),?_⟩;have js:JoinOk (Mt ",") ws=true:=by
   have:=cO (z:=Mt ",") (ts:=ws) (B:=990) (by decide+kernel) h2 (by decide) (by lia);exact this
  refine⟨_,rfl,l,_,rfl,.inl (aJ.of hl),rfl,_,rfl,?_⟩;dsimp only;by_cases c:ws=[]
  .subst c
   rw[if_pos (by rfl)];unfold cX at k;rw[if_pos rfl]at k;exact k
  .rw[if_neg (by
    simp only[Mu,decide_eq_true_eq,V.int.injEq];intro z;exact c (List.length_eq_zero_iff.mp (by lia)))]
   unfold cX at k;rw[if_neg c]at k;exact⟨rfl,_,rfl,_,l,ws,rfl,rfl,aJ.of hl,js,k⟩
end
section
open PySem L2 PyProof.Rows
theorem BM{n:Int}(hn:n<1000){r q:List (Int×Int)}(gr:Good n r)(gq:Good n q)(h:kU r=kU q):r=q:=by
 have b:∀{z:List (Int×Int)},Good n z->∀e∈z,0<=e.1/\0<=e.2:=fun g e he=>by have:=g e he;lia
 by_cases hr:r=[]
 .by_cases hq:q=[]
  .rw[hr,hq]
  .exact absurd (h.symm.trans (by rw[hr];rfl)) (iV hq (b gq))
 .by_cases hq:q=[]
  .exact absurd (h.trans (by rw[hq];rfl)) (iV hr (b gr))
  .have e:=hG hr (b gr)
   rw[h,hG hq (b gq)]at e;clear h hr hq
   induction r generalizing q with
   |nil=>cases q with
    |nil=>rfl
    |cons _ _=>cases e
   |cons x r ih=>cases q with
    |nil=>cases e
    |cons y q=>
     rw[MA,MA]at e;injection e with e1 e2
     have gx:=gr x MG;have gy:=gq y MG;have p:=xG (a:=y.1) (b:=y.2) (by lia) (by lia);rw[show jd (y.1,y.2)=jd (x.1,x.2)from e1,xG (by lia) (by lia)]at p;injection p with p1 p2
     injection p2 with _ p3
     rw[ih (fun e he=>gr e (MH _ he)) (fun e he=>gq e (MH _ he)) e2,
      Prod.ext (su (by lia) (by lia) (by lia) (by lia) p1) (su (by lia) (by lia) (by lia) (by lia) p3)]
end
section
open PySem L2 PyProof.Rows
def La(r:List Int):Prop:=r≠[]/\∀i∈r,0<=i/\i<10^9
end
section
open PySem L2 PyProof.Rows
def Lb(d:PyData)(n:Int)(xs:List Int):Prop:=d= .str (KY (bT n xs))/\Ord n xs/\1<=n/\n<=12
theorem FI{n:Int}{xs:List Int}(o:Ord n xs)(n1:1<=n)(n12:n<=12):bT n xs≠[]/\(∀r∈bT n xs,La r)/\(∀r∈bT n xs,∀i∈r,1<=i/\i<=n)/\((bT n xs).flatten.length:Int)=n:=by
 obtain⟨f1,f2,_⟩:=gN o;refine⟨fun z=>?_,fun r hr=>⟨(f2 r hr).1,fun i hi=>by have:=(f2 r hr).2.2 i hi;lia⟩,fun r hr=>(f2 r hr).2.2,by lia⟩;rw[z]at f1;simp at f1;lia
end
end Sw
namespace L2
open PySem PySem.Spec PyProof.Rows
def J8(x:Str):It:=⟨fun i _=>i<x.length,fun i H v H'=>H'=H/\∃c,x.cps[i]?=some c/\v= .str ⟨#[c]⟩,fun i _=>x.length<=i⟩
theorem zS{P:M0}{w:M3}{K:W.Frag}{tg:Expr}(it:MY)(x:Str)(t:Tok):
  Turn P w K tg (J8 x) [it] it (fun i h=>h.IsStrIter it "str_ascii_iterator" x t i)where
 mem:=by simp
 obj:=fun i h st b hb=>by
  have e:b=it:=by simpa using hb
  subst e;obtain⟨o,e,c,d⟩:=st;exact⟨o,e,fun v z=>by rw[d]at z;cases z⟩
 keep:=fun i h h' st k=>by
  obtain⟨o,e,c,d⟩:=st;exact⟨o,k it (by simp) o e,c,d⟩
 item:=by
  intro X hP hw hK hc i pins s σ H E I hf st hg;subst hP hw hK;have hi:i<x.cps.size:=hg;obtain⟨f0,f1,f2,f3,f4,f5⟩:=hf it (by simp);refine wpAny_pyNext_ascii_item st (c:=x.cps[i]) (by simp[hi]) fun h' st' sb=>?_;have I1:Inv X pins σ H {s with heap:=h',toks:=s.toks+1}:=I.turned (fun b o hb e=>(sb.2 b hb).trans e) f0 f1 f3 f4 f5;obtain⟨o,e,c,d⟩:=id st';exact⟨_,rfl,uR (s:={s with heap:=h',toks:=s.toks+1}) e c d (by decide) ⟨.str ⟨#[x.cps[i]]⟩,H,I1,⟨_,rfl⟩,⟨rfl,_,by simp[hi],rfl⟩,st',fun b hb=>(hf b hb).1⟩⟩
 done:=by
  intro X hP hw hK hc i pins s σ H E I hf st hg;subst hP hw hK;have hi:x.cps.size<=i:=hg;obtain⟨f0,f1,f2,f3,f4,f5⟩:=hf it (by simp);exact wpAny_pyNext_ascii_end (I.ok.hd hc) st (by simp;lia) fun h' eb=>⟨rfl,I.turned (t':=s.toks) (fun b o hb e=>eb b o hb e) f0 f1 f3 f4 f5⟩
 self:=fun _ _ _ _ _ st h=>wpAny_pyIter_striter_ascii st h
theorem zU{P:M0}{w:M3}{K:W.Frag}{tg:Expr}(it:MY)(x:Str)(t:Tok):
  Turn P w K tg (J8 x) [it] it (fun i h=>h.IsStrIter it "str_iterator" x t i)where
 mem:=by simp
 obj:=fun i h st b hb=>by
  have e:b=it:=by simpa using hb
  subst e;obtain⟨o,e,c,d⟩:=st;exact⟨o,e,fun v z=>by rw[d]at z;cases z⟩
 keep:=fun i h h' st k=>by
  obtain⟨o,e,c,d⟩:=st;exact⟨o,k it (by simp) o e,c,d⟩
 item:=by
  intro X hP hw hK hc i pins s σ H E I hf st hg;subst hP hw hK;have hi:i<x.cps.size:=hg;obtain⟨f0,f1,f2,f3,f4,f5⟩:=hf it (by simp);refine wpAny_pyNext_wide_item st (c:=x.cps[i]) (by simp[hi]) fun h' st' sb=>?_;have I1:Inv X pins σ H {s with heap:=h',toks:=s.toks+1}:=I.turned (fun b o hb e=>(sb.2 b hb).trans e) f0 f1 f3 f4 f5;obtain⟨o,e,c,d⟩:=id st';exact⟨_,rfl,uR (s:={s with heap:=h',toks:=s.toks+1}) e c d (by decide) ⟨.str ⟨#[x.cps[i]]⟩,H,I1,⟨_,rfl⟩,⟨rfl,_,by simp[hi],rfl⟩,st',fun b hb=>(hf b hb).1⟩⟩
 done:=by
  intro X hP hw hK hc i pins s σ H E I hf st hg;subst hP hw hK;have hi:x.cps.size<=i:=hg;obtain⟨f0,f1,f2,f3,f4,f5⟩:=hf it (by simp);exact wpAny_pyNext_wide_end (I.ok.hd hc) st (by simp;lia) fun h' eb=>⟨rfl,I.turned (t':=s.toks) (fun b o hb e=>eb b o hb e) f0 f1 f3 f4 f5⟩
 self:=fun _ _ _ _ _ st h=>wpAny_pyIter_striter_wide st h
def Le(te:TE):TI:=fun σ H R=>te σ H fun v H1=>∃x,v= .str x/\R (J8 x) H1
theorem Gy{X:Cx}{e tg:Expr}{te:TE}(he:PE X e te):PI X tg e (Le te):=by
 intro pins s σ H R I h;refine aY (he pins s σ H _ I h) fun u s2 ⟨v,H2,I2,rv,x,ev,hR⟩=>?_;subst ev;obtain⟨t,rfl⟩:=rv;have fp:∀b∈[s2.heap.objs.size],iK X pins H2 b:=fun b hb=>by
  have e:b=s2.heap.objs.size:=by simpa using hb
  subst e;exact I2.sV (MP _) (I2.aX.fresh (MP _))
 cases ha:x.cps.all (·<128)
 .exact wpAny_pyIter_wide ha ⟨s2.heap.objs.size,[s2.heap.objs.size],_,_,H2,rfl,I2.kept (t':=s2.toks) fun b o e=>Nc.get?_push_of_some _ e,zU _ x t,⟨_,Nc.get?_push_size _ rfl,rfl,rfl⟩,fp,hR⟩
 .exact wpAny_pyIter_ascii ha ⟨s2.heap.objs.size,[s2.heap.objs.size],_,_,H2,rfl,I2.kept (t':=s2.toks) fun b o e=>Nc.get?_push_of_some _ e,zS _ x t,⟨_,Nc.get?_push_size _ rfl,rfl,rfl⟩,fp,hR⟩
theorem EN{ix:List (Option Nat)}{tc:TT}{te:TE}{σ:St}{Q:VK}{H:Hp}{x:Str}{k:Nat}(Pv:Nat->List V->St->Hp->Prop)(hn:x.length<=1000000)(h0:Pv 0 [] (dJ ix σ) H)
  (hlen:∀i ys σ H,Pv i ys σ H->ys.length<=i)
  (hs:∀i ys σ H c(R:St->List V->Hp->Prop),x.cps[i]?=some c->Pv i ys σ H->(∀σ2 ys2 H5,Pv (i+1) ys2 σ2 H5->R σ2 ys2 H5)->
   tc (σ.set k (some (.str ⟨#[c]⟩))) H fun b H4=>if b=true then te (σ.set k (some (.str ⟨#[c]⟩))) H4 fun v H5=>R (σ.set k (some (.str ⟨#[c]⟩))) (ys++[v]) H5 else R (σ.set k (some (.str ⟨#[c]⟩))) ys H4)
  (hd:∀ys σ' H' p,Pv x.length ys σ' H'->H' p=none->Q (.ref p) (upd H' p (.lst ys))):fz ix (cF k) tc te σ Q (J8 x) H:=by
 refine fZ Pv hn h0 (fun i ys σ H hi p=>hi) (fun ys σ H p=>MP _) hlen (fun i ys σ H v H2 R hi p y r=>?_) hd;obtain⟨rfl,c,hc,rfl⟩:=y;unfold cF;exact hs i ys σ _ c R hc p r
theorem Jv{ix:List (Option Nat)}{te:TE}{σ:St}{Q:VK}{H:Hp}{x:Str}{k:Nat}(Pv:Nat->List V->St->Hp->Prop)(hn:x.length<=1000000)(h0:Pv 0 [] (dJ ix σ) H)
  (hlen:∀i ys σ H,Pv i ys σ H->ys.length<=i)
  (hs:∀i ys σ H c(R:St->List V->Hp->Prop),x.cps[i]?=some c->Pv i ys σ H->(∀σ2 ys2 H5,Pv (i+1) ys2 σ2 H5->R σ2 ys2 H5)->
   te (σ.set k (some (.str ⟨#[c]⟩))) H fun v H5=>R (σ.set k (some (.str ⟨#[c]⟩))) (ys++[v]) H5)
  (hd:∀ys σ' H' p,Pv x.length ys σ' H'->H' p=none->Q (.ref p) (upd H' p (.lst ys))):fz ix (cF k) dS te σ Q (J8 x) H:=by
 refine EN Pv hn h0 hlen (fun i ys σ H c R hc p r=>?_) hd;unfold dS;simp only[if_true];exact hs i ys σ H c R hc p r
def KI:R2:=fun x y H Q=>∃a b,x= .str a/\y= .str b/\Q (.bl (Txt.contains b a)) H
theorem GA{X:Cx}:jP X (compareOp .In) KI:=by
 intro pins s σ H x y v u Q I rx ry h;obtain⟨a,b,rfl,rfl,q⟩:=h;obtain⟨t,rfl⟩:=rx;obtain⟨t',rfl⟩:=ry;exact P.in_str ⟨.bl _,H,I,rfl,q⟩
end L2
namespace Sw
open PySem L2
def C2(n:Int)(d:PyData)(row:List (Int×Int)):Prop:=d= .str (kU row)/\Good n row/\row.length<=60
def isNm(w:Str):Prop:=1<=w.length/\w.length<=8/\∀c∈signs w,97<=c/\c<=122
theorem xg(c:Nat):Txt.contains (Mt "abcdefghijklmnopqrstuvwxyz") ⟨#[c]⟩=decide (97<=c/\c<=122):=by
 unfold Txt.contains;rw[StrLaws.found_one,Bool.eq_iff_iff,decide_eq_true_eq,decide_eq_true_eq];have e:(Mt "abcdefghijklmnopqrstuvwxyz").cps.toList=List.range' 97 26:=by decide+kernel
 rw[e,List.mem_range'_1];lia
open Classical in
noncomputable def fD(n:Int)(d w:Str):Option Wd:=
 if d=Mt "number"then(if h:∃i:Int,w=aH i/\0<=i/\i<10^9 then some (.num h.choose)else none)
 else if d=Mt "row"then(if h:∃R,C2 n (.str (bl w)) R then some (.row h.choose)else none)
 else if d=Mt "order"then(if h:∃xs,Lb (.str (bl w)) n xs then some (.ord h.choose)else none)
 else if isNm w then some (.txt w)else none
theorem kX{n:Int}{w:Str}(h:isNm w):fD n (Mt "name") w=some (.txt w):=by
 unfold fD;rw[if_neg (by decide+kernel),if_neg (by decide+kernel),if_neg (by decide+kernel),if_pos h]
theorem Ea{n:Int}{w:Str}(h:isNm w):fD n (Mt "new") w=some (.txt w):=by
 unfold fD;rw[if_neg (by decide+kernel),if_neg (by decide+kernel),if_neg (by decide+kernel),if_pos h]
theorem sD{n i:Int}(h0:0<=i)(h9:i<10^9):fD n (Mt "number") (aH i)=some (.num i):=by
 unfold fD;have h:∃j:Int,aH i=aH j/\0<=j/\j<10^9:=⟨i,rfl,h0,h9⟩;rw[if_pos rfl,dif_pos h];have:=h.choose_spec;rw[su (a:=h.choose) (b:=i) this.2.1 h0 (by lia) (by lia) this.1.symm]
theorem uX{n:Int}{w:Str}{R:List (Int×Int)}(hn:n<1000)(h:C2 n (.str (bl w)) R):fD n (Mt "row") w=some (.row R):=by
 unfold fD;have hx:∃R',C2 n (.str (bl w)) R':=⟨R,h⟩;rw[if_neg (by decide+kernel),if_pos rfl,dif_pos hx];have q:=hx.choose_spec;have q1:=q.1.symm.trans h.1;injection q1 with q1
 rw[BM hn q.2.1 h.2.1 q1]
theorem ES{n:Int}{R:List (Int×Int)}(hn:n<1000)(g:Good n R)(l:R.length<=60):fD n (Mt "row") (jE R)=some (.row R):=
 uX hn ⟨by rw[D8 fun e he=>by have:=g e he;lia],g,l⟩
def Ji:Sp:=fun vs H Q _=>∃t:Str,vs=[.str t]/\t.length<=100000/\Q (.str (cm t)) H
def Gh(C:MY):Sp:=fun vs H Q E=>∃x:Str,vs=[.str x]/\x.length<=1000/\(isNm x->∀v H',ah H H'->Q v H')/\(¬isNm x->∀H',ah H H'->E (.ref C) none H')
structure IZ(mg:Str->Option MX)(K:W.Frag)(u8 ul:MX)(C:MY):Prop extends T1 mg K where
 jj:mg "MOST_LETTERS" =some u8
 jc:RelV (.int 8) u8
 qy:mg "LETTERS" =some ul
 qp:RelV (.str (Mt "abcdefghijklmnopqrstuvwxyz")) ul
 cC:mg "NoText" =some (.ref C)
 eW:j4 K C
def HU(L:dE):Sp:=fun vs H Q E=>L.okd (Mt "number")=true/\wa vs H Q E
def HQ(L:dE):Sp:=fun vs H Q E=>L.okd (Mt "row")=true/\qF vs H Q E
def Gj(L:dE):Sp:=fun vs H Q _=>L.okd (Mt "order")=true/\∃(n:Int)(w':Str)(xs:List Int),vs=[.str (bl w')]/\fD n (Mt "order") w'=some (.ord xs)/\∀t H',H' t=some (.tup (xs.map V.int))->n=xs.length->ah H H'->Q (.ref t) H'
structure JM(P:M0)(w:M3)(K:W.Frag)(mg:Str->Option MX)(base:Nc)(L:dE):Prop extends T1 mg K where
 dQ:eV P w K mg base "read_number" 1 ["word"] (HU L)
 oW:eV P w K mg base "read_row" 7 ["n","text"] (HQ L)
 kC:eV P w K mg base "read_order" 5 ["text"] (Gj L)
 lC:eV P w K mg base "check_name" 1 ["word"] (Gh L.CT)
 cC:mg "NoText" =some (.ref L.CT)
 eW:j4 K L.CT
section
variable{P:M0}{w:M3}{K:W.Frag}{mg:Str->Option MX}{base:Nc}{u8 ul:MX}{C:MY}{L:dE}
theorem uy:aA ["text"] ["text"] (ar (top 94)):=⟨rfl,rfl,rfl,by decide+kernel,rfl,by decide+kernel,by decide+kernel⟩
theorem Jk{f:MY}{fd:Nb}(F:dO K "one_word" "one_word" (top 94) f fd):iD P w K mg base (i3 P w) 1 f fd ["text"] Ji:=by
 refine F.LG uy (fun vs H Q E h=>?_) (fun cdv A outer s H vs Q E hr h=>?_)
 .obtain⟨t,rfl,_⟩:=h
  rfl
 .obtain⟨t,rfl,ht,k⟩:=h
  exact⟨_,(nN (rh (sI (by decide+kernel) (by decide+kernel) (QE.of (pv 0)) ⟨rfl,rfl,rfl,rfl⟩))),_,rfl,t,rfl,ht,k⟩
theorem pM:aA ["word"] ["word"] (ar (top 96)):=⟨rfl,rfl,rfl,by decide+kernel,rfl,by decide+kernel,by decide+kernel⟩
theorem Gu{f:MY}{fd:Nb}(F:dO K "check_name" "check_name" (top 96) f fd)(T:IZ mg K u8 ul C):aR P w K mg base (i3 P w) 1 f fd ["word"] (Gh C):=by
 refine F.Aa pM (fun vs H Q E h=>?_) (fun cdv A outer s H vs Q E hr h=>?_)
 .obtain⟨x,rfl,_⟩:=h
  rfl
 .obtain⟨x,rfl,xl,kY,kN⟩:=h
  refine⟨_,(aj (a8 (PW.pt (jK (eZ (uT t8 t8 ai (ak lj rfl T.bE (by decide+kernel) (aa (pv 0) af)) (dR rfl T.jj T.jc))) (hV (eZ (fe (ak (lT (K:=K) rfl rfl) rfl T.yj (by decide+kernel) (aa (bw (N:=(["letter"]:List Str)) (ix:=([none]:List (Option Nat))) (aT rfl rfl) rfl (Gy (pv 0)) (fun _ _ _ _=>(aw (i:=0) (show List.Nodup (["letter"]:List Str)from by decide+kernel) rfl (Or.inl rfl))) (fun _ _ _ _=>bc) (fun _ _ _ _=>(rW GA (pv 0) (dR rfl T.qy T.qp) rfl))) af))))))) (aj (dP pU T.eW rfl rfl T.cC (aa aK af))) aE)),?_⟩;have big:(10000000:Nat)<=M5:=by decide
  have one:1<=M5:=by decide
  have no:¬isNm x->(1:Nat)<=M5/\E (.ref C) none H:=fun z=>⟨one,kN z H (ah.refl _)⟩;refine⟨_,rfl,x,rfl,by lia,_,_,rfl,rfl,_,rfl,?_⟩;by_cases c1:1<=x.length
  case neg=>
   rw[if_neg (by rw[decide_eq_true_eq];lia)];exact⟨_,rfl,no fun z=>c1 z.1⟩
  rw[if_pos (by rw[decide_eq_true_eq];lia)];refine⟨_,_,rfl,rfl,_,rfl,?_⟩;by_cases c2:x.length<=8
  case neg=>
   rw[decide_eq_false (by lia)];exact no fun z=>c2 z.2.1
  rw[decide_eq_true (by lia)];refine⟨_,rfl,x,rfl,?_⟩;refine Jv (fun i ys σ' H'=>H'=H/\(∃v0,σ'=[v0])/\∃bs:List Bool,ys=bs.map V.bl/\bs=((signs x).take i).map fun c=>decide (97<=c/\c<=122)) (by lia) ⟨rfl,⟨none,rfl⟩,[],rfl,rfl⟩ (fun i ys σ' H' ⟨_,_,bs,e1,e2⟩=>by
   rw[e1,Mu,e2,Mu,MB];lia) (fun i ys σ' H' c R hc ⟨eH,⟨v0,e0⟩,bs,e1,e2⟩ r=>?_) (fun ys σ' H' l ⟨eH,_,bs,e1,e2⟩ fl=>?_)
  .subst e0
   refine⟨_,rfl,_,_,rfl,rfl,r _ _ _ ⟨eH,⟨_,rfl⟩,bs++[decide (97<=c/\c<=122)],?_,?_⟩⟩
   .rw[e1,My,xg]
    rfl
   .have hs:(signs x)[i]?=some c:=by unfold signs;simpa using hc
    rw[e2,MO,hs,My];rfl
  .subst eH
   subst e1;refine⟨l,bs,rfl,aJ.of ae,_,rfl,?_⟩;have e3:bs.all id=true↔∀c∈signs x,97<=c/\c<=122:=by
    rw[e2,MI (by rw[fJ];exact MP _),List.all_eq_true];simp
   cases e4:bs.all id with
   |true=>exact kY ⟨c1,c2,e3.mp e4⟩ _ _ (ah.new fl)
   |false=>exact⟨one,kN (fun z=>by rw[e3.mpr z.2.2]at e4;cases e4) _ (ah.new fl)⟩
theorem kK:aA ["n","due","word","order"] ["n","due","word"] (ar (top 97)):=⟨rfl,rfl,rfl,by decide+kernel,rfl,by decide+kernel,by decide+kernel⟩
theorem IQ{f:MY}{fd:Nb}(F:dO K "read_word" "read_word" (top 97) f fd)(hL:L.Ed=fD)(T:JM P w K mg base L):aR P w K mg base (i3 P w) 9 f fd ["n","due","word"] (J3 L):=by
 refine F.Aa kK (fun vs H Q E h=>?_) (fun cdv A outer s H vs Q E hr h=>?_)
 .obtain⟨n,d,w',x,rfl,_⟩:=h
  rfl
 .obtain⟨n,d,w',x,rfl,n1,n2,wl,aX,ex,k⟩:=h
  refine⟨_,(qz (Jg (DH cR (pv 1) le_str (aG _)) (aj (ay (bG T.dQ eT (hr.mono (by decide)) rfl (aa (pv 2) af)))) aE)
   (cz (C3 (ax cR (pv 1) aK (aG _)) (nN (rh (sh T.oW.toQ eT (hr.mono (by decide)) rfl (nK (QE.of (pv 0)) (nK (sI (by decide+kernel) (by decide+kernel) (QE.of (pv 2)) ⟨rfl,rfl,rfl,rfl⟩) wy))))) (vI.of aE))
   (cz (C3 (ax cR (pv 1) aK (aG _)) (cz (GJ (i:=3) kK.nd rfl (Or.inl rfl) (sh T.kC.toQ eT (hr.mono (by decide)) rfl (nK (sI (by decide+kernel) (by decide+kernel) (QE.of (pv 2)) ⟨rfl,rfl,rfl,rfl⟩) wy)))
   (vI.of (ag (a8 (ax iH (ak (aL (K:=K) rfl) rfl T.bE (by decide+kernel) (aa (pv 3) af)) (pv 0) (aG _)) (aj (dP pU T.eW rfl rfl T.cC (aa aK af))) aE)
   (aj (ay (pv 3)))))) (vI.of aE))
   (vI.of (ag (cZ (bG T.lC eT (hr.mono (by decide)) rfl (aa (pv 2) af)))
   (aj (ay (pv 2)))))))),?_⟩
  rw[hL]at ex;have kY:∀y,fD n d w'=some y->∀v H',ud H' v y->ah H H'->Q v H':=fun y e=>by rw[ex]at e;cases e;exact k
  have ex':=ex;unfold fD at ex;refine⟨_,rfl,rfl,_,rfl,cN (fun c=>?_) (fun c1=>?_)⟩
  .obtain rfl:d=Mt "number" :=by simpa using c
   rw[if_pos rfl]at ex
   split at ex
   .rename_i h
    obtain⟨i,rfl,i0,i9⟩:=id h;exact⟨_,rfl,aX,i,rfl,i0,i9,kY _ (sD i0 i9) _ _ rfl (ah.refl _)⟩
   .cases ex
  have ne:∀x:Str,decide (V.str d=V.str x)≠true->d≠x:=fun x z e=>z (by rw[e];simp);rw[if_neg (ne _ c1)]at ex;refine⟨_,rfl,rfl,_,rfl,cN (fun c=>?_) (fun c2=>?_)⟩
  .obtain rfl:d=Mt "row" :=by simpa using c
   rw[if_pos rfl]at ex
   split at ex
   .rename_i h
    obtain⟨R,hR⟩:=id h;have e:=hR.1;injection e with e
    exact⟨_,rfl,_,rfl,w',rfl,by lia,aX,n,R,by rw[←e];rfl,hR.2.1,by lia,hR.2.2,fun l es H' fl hl hx sm=>kY _ (uX (by lia) hR) _ _ ⟨l,es,rfl,hl,hx⟩ sm⟩
   .cases ex
  rw[if_neg (ne _ c2)]at ex;refine⟨_,rfl,rfl,_,rfl,cN (fun c=>?_) (fun c3=>?_)⟩
  .obtain rfl:d=Mt "order" :=by simpa using c
   obtain⟨xs,rfl⟩:∃xs,x= .ord xs:=by
    rw[if_pos rfl]at ex
    split at ex
    .cases ex;exact⟨_,rfl⟩
    .cases ex
   refine⟨_,rfl,w',rfl,by lia,aX,n,w',xs,rfl,ex',fun t H' ht nl sm=>?_⟩;refine⟨_,rfl,_,_,rfl,.inr (dI.of ht),_,rfl,rfl,_,rfl,eG ?_ ⟨_,rfl,k _ _ ⟨t,rfl,ht⟩ sm⟩⟩;simp only[Mu,Bool.not_eq_true',decide_eq_false_iff_not,V.int.injEq];lia
  rw[if_neg (ne _ c3)]at ex
  split at ex
  .rename_i hn
   cases ex;exact⟨_,rfl,w',rfl,by lia,fun _ v H' sm=>⟨_,rfl,k _ _ rfl sm⟩,fun z=>absurd hn z⟩
  .cases ex
end
section
variable{P:M0}{w:M3}{K:W.Frag}{mg:Str->Option MX}{base:Nc}
theorem hJ:aA ["exchange","thing","a","b"] ["exchange","thing"] (ar (top 32)):=⟨rfl,rfl,rfl,by decide+kernel,rfl,by decide+kernel,by decide+kernel⟩
theorem FV{f:MY}{fd:Nb}(F:dO K "exchanged" "exchanged" (top 32) f fd):aR P w K mg base gh 1 f fd ["exchange","thing"] G0:=by
 refine F.ok hJ (fun vs H Q E h=>?_) (fun cdv A outer s H vs Q E hr h=>?_)
 .obtain⟨t,a,b,x,rfl,_⟩:=h
  rfl
 .obtain⟨t,a,b,x,rfl,ht,k⟩:=h
  refine⟨_,(ag (j3 (pv 0) (cx (K:=K) (n:=2) rfl rfl (aO (aw (i:=2) hJ.nd rfl (Or.inl rfl)) (aO (aw (i:=3) hJ.nd rfl (Or.inl rfl)) cy))))
   (ag (a8 (ax cR (pv 1) (pv 2) (aG _)) (aj (ay (pv 3))) aE)
   (ag (a8 (ax cR (pv 1) (pv 3) (aG _)) (aj (ay (pv 2))) aE)
   (aj (ay (pv 1)))))),?_⟩
  refine⟨_,rfl,t,_,rfl,dI.of ht,rfl,_,_,rfl,_,_,rfl,rfl,?_⟩;unfold aQ at k;refine⟨_,rfl,_,rfl,rfl,_,rfl,cN (fun c=>?_) (fun c=>?_)⟩
  .have c:x=a:=by simpa using c
   rw[if_pos c]at k;exact⟨_,rfl,k⟩
  .have c:¬x=a:=by simpa using c
   rw[if_neg c]at k;refine⟨_,rfl,_,rfl,rfl,_,rfl,cN (fun c=>?_) (fun c=>?_)⟩
   .have c:x=b:=by simpa using c
    rw[if_pos c]at k;exact⟨_,rfl,k⟩
   .have c:¬x=b:=by simpa using c
    rw[if_neg c]at k;exact⟨_,rfl,k⟩
end
theorem dD.take {H:Hp}:∀{vs:List V}{r:List (Int×Int)}(k:Nat),dD H vs r->dD H (vs.take k) (r.take k)
 |_,_,_,.nil=>by rw[List.take_nil,List.take_nil];exact .nil
 |_,_,0,.cons _ _=> .nil
 |_,_,k+1,.cons h x=> .cons h (x.take k)
theorem dD.drop {H:Hp}:∀{vs:List V}{r:List (Int×Int)}(k:Nat),dD H vs r->dD H (vs.drop k) (r.drop k)
 |_,_,_,.nil=>by rw[List.drop_nil,List.drop_nil];exact .nil
 |_,_,0,.cons h x=> .cons h x
 |_,_,k+1,.cons h x=>x.drop k
theorem Dq{xs:List V}{a:Int}(h0:0<=a)(h:a<=xs.length):fg xs none (some a)=xs.take a.toNat:=by
 have e:HT.oR xs.length 0 none=0:=rfl;have e2:HT.oR xs.length xs.length (some a)=a.toNat:=by
  simp[HT.oR];rw[if_neg (by lia)];lia
 unfold fg;rw[e,e2,List.drop_zero,Nat.sub_zero]
theorem cutD{xs:List V}{a:Int}(h0:0<=a):fg xs (some a) none=xs.drop a.toNat:=by
 have e:HT.oR xs.length 0 (some a)=min a.toNat xs.length:=by
  show(if a<0 then(a+(xs.length:Int)).toNat else min a.toNat xs.length)=_;rw[if_neg (by lia)]
 have e2:HT.oR xs.length xs.length none=xs.length:=rfl;unfold fg;rw[e,e2,MI (by rw[List.length_drop];exact MP _)];by_cases h:a.toNat<=xs.length
 .rw[Nat.min_eq_left h]
 .rw[Nat.min_eq_right (by lia),List.drop_length,List.drop_eq_nil_of_le (by lia)]
def Fs:Sp:=fun vs H Q _=>∃(t1 t2:MY)(a b c d:Int),vs=[.ref t1,.ref t2]/\H t1=some (.tup [.int a,.int b])/\H t2=some (.tup [.int c,.int d])/\∀t H',H t=none->H' t=some (.tup [.int (D4 (a,b) (c,d)).1,.int (D4 (a,b) (c,d)).2])->ah H H'->Q (.ref t) H'
def Gd(C:MY):Sp:=fun vs H Q E=>∃(l:MY)(es:List V)(row:List (Int×Int))(k:Int)(way:Str),vs=[.ref l,.int k,.str way]/\H l=some (.lst es)/\dD H es row/\row.length<=1000/\
 (∀f:Bool,way=fN f->1<=k->k<row.length->∀l' es' H',H l'=none->H' l'=some (.lst es')->dD H' es' (uB row (k-1).toNat f)->ah H H'->Q (.ref l') H')/\
 (¬(1<=k/\k<row.length/\∃f,way=fN f)->∀H',ah H H'->E (.ref C) none H')
def jw:List (Str×Str):=[(Mt "forth",Mt "back"),(Mt "back",Mt "forth")]
structure LH(P:M0)(w:M3)(K:W.Frag)(mg:Str->Option MX)(base:Nc):Prop extends T1 mg K where
 cB:mg "sorted" =none
 eU:FnAt P w K mg base "exchanged" 1 ["exchange","thing"] G0
structure LB(P:M0)(w:M3)(K:W.Frag)(mg:Str->Option MX)(base:Nc)(U C:MY):Prop extends T1 mg K where
 dW:FnAt P w K mg base "is_between" 2 ["thing","low","high"] JU
 mF:FnAt P w K mg base "carried" 2 ["exchange","other"] Fs
 qS:mg "UNDOING" =some (.ref U)
 qf:RelV (.ref U) (.ref U)
 qL:AV K w.params U jw
 gK:mg "NoMove" =some (.ref C)
 oS:j4 K C
theorem IX{p q:Int}{ns:List Int}(pm:ns.Perm [p,q])(pw:ns.Pairwise (·<=·)):ns=[min p q,max p q]:=by
 have hl:=pm.length_eq
 match ns,hl with
 |[x,y],_=>
  have xy:x<=y:=(List.pairwise_cons.mp pw).1 y (by simp);have hx:x∈[p,q]:=pm.mem_iff.mp (by simp);have hp:p∈[x,y]:=pm.mem_iff.mpr (by simp);have hq:q∈[x,y]:=pm.mem_iff.mpr (by simp);have hy:y∈[p,q]:=pm.mem_iff.mp (by simp);simp only[MC,MM,or_false]at hx hp hq hy;have e1:x=min p q:=by lia
  have e2:y=max p q:=by lia
  rw[e1,e2]
section
variable{P:M0}{w:M3}{K:W.Frag}{mg:Str->Option MX}{base:Nc}{U C:MY}
theorem xf:aA ["exchange","other"] ["exchange","other"] (ar (top 63)):=⟨rfl,rfl,rfl,by decide+kernel,rfl,by decide+kernel,by decide+kernel⟩
theorem Hd{f:MY}{fd:Nb}(F:dO K "carried" "carried" (top 63) f fd)(T:LH P w K mg base):aR P w K mg base gh 2 f fd ["exchange","other"] Fs:=by
 refine F.ok xf (fun vs H Q E h=>?_) (fun cdv A outer s H vs Q E hr h=>?_)
 .obtain⟨t1,t2,a,b,c,d,rfl,_⟩:=h
  rfl
 .obtain⟨t1,t2,a,b,c,d,rfl,h1,h2,k⟩:=h
  refine⟨_,(aj (ay (aF (bo (K:=K) rfl) rfl T.cu (by decide+kernel) (aa (ak (jg (K:=K) rfl) rfl T.cB (by decide+kernel) (aa (bw (N:=(["thing","other"]:List Str)) (ix:=([none,some 1]:List (Option Nat))) (aT rfl rfl) rfl (xN (K:=K) rfl (pv 0)) (fun _ _ _ _=>(aw (i:=0) (show List.Nodup (["thing","other"]:List Str)from by decide+kernel) rfl (Or.inl rfl))) (fun _ _ _ _=>bc) (fun _ _ _ _=>(au T.eU (hr.mono (by first|decide|lia)) rfl (aa (pv 1) (aa (pv 0) af))))) af)) af)))),?_⟩;refine⟨_,rfl,t1,rfl,⟨_,dI.of h1⟩,Fp (K:=K) (a:=t1) (xs:=[a,b].map V.int) (k:=0) (fun i ys σ' H'=>ys=(([a,b].take i).map fun x=>V.int (aQ x (c,d)))/\(∃v,σ'=[v,some (.ref t2)])/\H'=H) (by show 2<=1000000;decide) ⟨rfl,⟨none,rfl⟩,rfl⟩ (fun i ys σ' H' _ q=>by rw[q.2.2];exact dI.of h1) (fun i ys σ' H' q=>by rw[q.1,Mu,MB];lia) ?_ ?_⟩
  .rintro i ys σ' H' z R hz ⟨rfl,⟨v,rfl⟩,rfl⟩ done
   obtain⟨x,rfl,hx⟩:=ku hz;refine⟨_,rfl,_,rfl,t2,c,d,x,rfl,h2,?_⟩;refine done _ _ _ ⟨?_,⟨_,rfl⟩,rfl⟩;rw[bh _ hx]
  .rintro ys σ' Hb q ⟨rfl,⟨v,rfl⟩,e0⟩ fq
   have e0:=e0.symm;subst e0;have s1:ah H (upd H q (.lst [.int (aQ a (c,d)),.int (aQ b (c,d))])):=ah.new fq;refine⟨q,[aQ a (c,d),aQ b (c,d)],rfl,aJ.of ae,(by show 2<64;decide),fun l2 ns' f2 pm pw=>?_⟩;have en:=IX pm pw;subst en;have s2:=s1.trans (ah.new (o:= .lst ([min (aQ a (c,d)) (aQ b (c,d)),max (aQ a (c,d)) (aQ b (c,d))].map V.int)) f2);refine⟨l2,_,rfl,.inl ⟨aJ.of ae,fun t ft=>?_⟩⟩;exact k t _ (s2.free ft) ae (s2.trans (ah.new ft))
theorem oh:aA ["row","k","way","pair","s","t"] ["row","k","way"] (ar (top 64)):=⟨rfl,rfl,rfl,by decide+kernel,rfl,by decide+kernel,by decide+kernel⟩
theorem Ia{f:MY}{fd:Nb}(F:dO K "moved" "moved" (top 64) f fd)(T:LB P w K mg base U C):aR P w K mg base (i3 P w) 3 f fd ["row","k","way"] (Gd C):=by
 refine F.Aa oh (fun vs H Q E h=>?_) (fun cdv A outer s H vs Q E hr h=>?_)
 .obtain⟨l,es,row,k,way,rfl,_⟩:=h
  rfl
 .obtain⟨l,es,row,k,way,rfl,hl,hx,rl,kQ,kE⟩:=h
  refine⟨_,(ag (a8 (eZ (fe (au T.dW (hr.mono (by first|decide|lia)) rfl (@aa _ _ _ _ _ (pv 1) (@aa _ _ _ _ _ ai (@aa _ _ _ _ _ (av bU (ak (aL (K:=K) rfl) rfl T.bE (by decide+kernel) (aa (pv 0) af)) ai) af pj) lI) bt)))) (aj (dP pU T.oS rfl rfl T.gK (aa aK af))) aE)
   (ag (a8 (iS (zQ T.qL (pv 2) (dR rfl T.qS T.qf))) (aj (dP pU T.oS rfl rfl T.gK (aa aK af))) aE)
   (ag (GD (i:=4) (j:=5) rfl oh.nd rfl rfl (by decide) rfl rfl (aa (aU (az (K:=K) rfl) (pv 0) (av bU (pv 1) ai) (fun _ _=>rfl)) (aa (aU (az (K:=K) rfl) (pv 0) (pv 1) (fun _ _=>rfl)) af)) rfl)
   (ag (aC (i:=3) oh.nd rfl (Or.inl rfl) (kO (ax cR (pv 2) aK (aG _)) (bu (aa (pv 5) (aa (au T.mF (hr.mono (by first|decide|lia)) rfl (aa (pv 4) (aa (pv 5) af))) af))) (bu (aa (au T.mF (hr.mono (by first|decide|lia)) rfl (aa (pv 5) (aa (pv 4) af))) (aa (pv 4) af)))))
   (aj (ay (av dM (av dM (bN (bO (K:=K) rfl) (pv 0) cJ (cP (av bU (pv 1) ai))) (pv 3)) (bN (bO (K:=K) rfl) (pv 0) (cP (av aS (pv 1) ai)) cJ)))))))),?_⟩
  have big:(10000000:Nat)<=M5:=by decide
  have two:2<=M5:=by decide
  have xl:=hx.length;refine⟨_,rfl,_,rfl,l,_,rfl,.inl (aJ.of hl),_,_,rfl,rfl,k,1,_,rfl,_,rfl,?_⟩;by_cases hk:1<=k/\k<=(es.length:Int)-1
  .refine gG (by rw[decide_eq_true hk];rfl) ?_
   refine⟨_,rfl,way,rfl,rfl,_,rfl,?_⟩;by_cases hw:way∈jw.map (·.1)
   .refine gG (by rw[decide_eq_true hw];rfl) ?_
    obtain⟨v1,hv1⟩:∃v,es[(k-1).toNat]?=some v:=⟨_,Mx (by lia)⟩;obtain⟨v2,hv2⟩:∃v,es[k.toNat]?=some v:=⟨_,Mx (by lia)⟩;obtain⟨ts,a,b,rfl,hts,hr1⟩:=hx.get hv1;obtain⟨tt,c,d,rfl,htt,hr2⟩:=hx.get hv2;have er1:row.getD (k-1).toNat (0,0)=(a,b):=by rw[ME,hr1];rfl
    have er2:row.getD ((k-1).toNat+1) (0,0)=(c,d):=by rw[show(k-1).toNat+1=k.toNat by lia,ME,hr2];rfl
    have at1:uu es (k-1)=some (.ref ts):=by rw[←Int.toNat_of_nonneg (show 0<=k-1 by lia)];exact aZ hv1
    have at2:uu es k=some (.ref tt):=by rw[←Int.toNat_of_nonneg (show 0<=k by lia)];exact aZ hv2
    refine⟨_,rfl,_,rfl,_,_,rfl,rfl,l,_,_,_,rfl,rfl,aJ.of hl,at1,_,rfl,_,rfl,l,_,_,_,rfl,rfl,aJ.of hl,at2,_,_,rfl,?_⟩;have s1:ah H H:=ah.refl H;refine⟨_,rfl,rfl,_,rfl,cN (fun cw=>?_) (fun cw=>?_)⟩
    .have hway:way=fN true:=by
      have:=of_decide_eq_true cw;injection this
     refine⟨_,rfl,_,rfl,_,rfl,ts,tt,a,b,c,d,rfl,s1 _ _ hts,s1 _ _ htt,fun tn HA ftn htn sA=>⟨two,fun lp flp=>?_⟩⟩;have s2:=(s1.trans sA).trans (ah.new (o:= .lst [.ref tt,.ref tn]) flp);have hlp:upd HA lp (.lst [.ref tt,.ref tn]) lp=some (.lst [.ref tt,.ref tn]):=ae;have htn2:=ah.new (o:= .lst [.ref tt,.ref tn]) flp _ _ htn;generalize upd HA lp (.lst [.ref tt,.ref tn])=H2 at s2 hlp htn2⊢;have xp:dD H2 [.ref tt,.ref tn] (Eu (a,b) (c,d) true):= .cons (s2 _ _ htt) (.cons htn2 .nil);obtain⟨ps,eps⟩:∃ps:List V,ps=[.ref tt,.ref tn]:=⟨_,rfl⟩;rw[←eps]at hlp xp;have psl:ps.length=2:=by rw[eps];rfl
     have el2:es.length=row.length:=xl;have hl2:=s2 _ _ hl;have hx2:=hx.keep (ah.bH s2);refine⟨_,rfl,_,rfl,_,_,rfl,rfl,k-1,rfl,l,es,rfl,aJ.of hl2,fun p1 f1=>?_⟩;rw[Dq (by lia) (by lia)];have s3:ah H2 (upd H2 p1 (.lst (es.take (k-1).toNat))):=ah.new f1;have h3:upd H2 p1 (.lst (es.take (k-1).toNat)) p1=some (.lst (es.take (k-1).toNat)):=ae;generalize upd H2 p1 (.lst (es.take (k-1).toNat))=H3 at s3 h3⊢;refine⟨_,rfl,p1,lp,_,_,rfl,rfl,h3,s3 _ _ hlp,by rw[MB];lia,fun p2 f2=>?_⟩;have s4:=s3.trans (ah.new (o:= .lst (es.take (k-1).toNat++ps)) f2);have h4:upd H3 p2 (.lst (es.take (k-1).toNat++ps)) p2=some (.lst (es.take (k-1).toNat++ps)):=ae;generalize upd H3 p2 (.lst (es.take (k-1).toNat++ps))=H4 at s4 h4⊢;refine⟨_,rfl,_,rfl,_,_,rfl,rfl,k+1,rfl,?_⟩;unfold dG;refine⟨l,es,rfl,aJ.of (s4 _ _ hl2),fun p3 f3=>?_⟩;rw[cutD (by lia)];have s5:=s4.trans (ah.new (o:= .lst (es.drop (k+1).toNat)) f3);have h5:upd H4 p3 (.lst (es.drop (k+1).toNat)) p3=some (.lst (es.drop (k+1).toNat)):=ae;have h45:=ah.new (o:= .lst (es.drop (k+1).toNat)) f3 _ _ h4;generalize upd H4 p3 (.lst (es.drop (k+1).toNat))=H5 at s5 h5 h45⊢;refine⟨p2,p3,_,_,rfl,rfl,h45,h5,by rw[Mw,MB,List.length_drop];lia,fun p4 f4=>?_⟩;have s6:=s5.trans (ah.new (o:= .lst (es.take (k-1).toNat++ps++es.drop (k+1).toNat)) f4);refine kQ true hway (by lia) (by lia) p4 _ _ ((s2.trans s5).free f4) ae ?_ (s2.trans s6);unfold uB;rw[er1,er2,show(k-1).toNat+2=(k+1).toNat by lia];exact(((hx2.keep (ah.bH s6)).take _).append (xp.keep (ah.bH s6))).append ((hx2.keep (ah.bH s6)).drop _)
    .have hway:way=fN false:=by
      have cw:¬way=Mt "forth" :=fun z=>cw (decide_eq_true (by rw[z]));have:way=Mt "forth"\/way=Mt "back" :=by simpa [jw]using hw
      exact this.resolve_left cw
     refine⟨_,rfl,_,rfl,tt,ts,c,d,a,b,rfl,s1 _ _ htt,s1 _ _ hts,fun tn HA ftn htn sA=>⟨_,rfl,two,fun lp flp=>?_⟩⟩;have s2:=(s1.trans sA).trans (ah.new (o:= .lst [.ref tn,.ref ts]) flp);have hlp:upd HA lp (.lst [.ref tn,.ref ts]) lp=some (.lst [.ref tn,.ref ts]):=ae;have htn2:=ah.new (o:= .lst [.ref tn,.ref ts]) flp _ _ htn;generalize upd HA lp (.lst [.ref tn,.ref ts])=H2 at s2 hlp htn2⊢;have xp:dD H2 [.ref tn,.ref ts] (Eu (a,b) (c,d) false):= .cons htn2 (.cons (s2 _ _ hts) .nil);obtain⟨ps,eps⟩:∃ps:List V,ps=[.ref tn,.ref ts]:=⟨_,rfl⟩;rw[←eps]at hlp xp;have psl:ps.length=2:=by rw[eps];rfl
     have el2:es.length=row.length:=xl;have hl2:=s2 _ _ hl;have hx2:=hx.keep (ah.bH s2);refine⟨_,rfl,_,rfl,_,_,rfl,rfl,k-1,rfl,l,es,rfl,aJ.of hl2,fun p1 f1=>?_⟩;rw[Dq (by lia) (by lia)];have s3:ah H2 (upd H2 p1 (.lst (es.take (k-1).toNat))):=ah.new f1;have h3:upd H2 p1 (.lst (es.take (k-1).toNat)) p1=some (.lst (es.take (k-1).toNat)):=ae;generalize upd H2 p1 (.lst (es.take (k-1).toNat))=H3 at s3 h3⊢;refine⟨_,rfl,p1,lp,_,_,rfl,rfl,h3,s3 _ _ hlp,by rw[MB];lia,fun p2 f2=>?_⟩;have s4:=s3.trans (ah.new (o:= .lst (es.take (k-1).toNat++ps)) f2);have h4:upd H3 p2 (.lst (es.take (k-1).toNat++ps)) p2=some (.lst (es.take (k-1).toNat++ps)):=ae;generalize upd H3 p2 (.lst (es.take (k-1).toNat++ps))=H4 at s4 h4⊢;refine⟨_,rfl,_,rfl,_,_,rfl,rfl,k+1,rfl,?_⟩;unfold dG;refine⟨l,es,rfl,aJ.of (s4 _ _ hl2),fun p3 f3=>?_⟩;rw[cutD (by lia)];have s5:=s4.trans (ah.new (o:= .lst (es.drop (k+1).toNat)) f3);have h5:upd H4 p3 (.lst (es.drop (k+1).toNat)) p3=some (.lst (es.drop (k+1).toNat)):=ae;have h45:=ah.new (o:= .lst (es.drop (k+1).toNat)) f3 _ _ h4;generalize upd H4 p3 (.lst (es.drop (k+1).toNat))=H5 at s5 h5 h45⊢;refine⟨p2,p3,_,_,rfl,rfl,h45,h5,by rw[Mw,MB,List.length_drop];lia,fun p4 f4=>?_⟩;have s6:=s5.trans (ah.new (o:= .lst (es.take (k-1).toNat++ps++es.drop (k+1).toNat)) f4);refine kQ false hway (by lia) (by lia) p4 _ _ ((s2.trans s5).free f4) ae ?_ (s2.trans s6);unfold uB;rw[er1,er2,show(k-1).toNat+2=(k+1).toNat by lia];exact(((hx2.keep (ah.bH s6)).take _).append (xp.keep (ah.bH s6))).append ((hx2.keep (ah.bH s6)).drop _)
   .have e0:decide (way∈jw.map (·.1))=false:=decide_eq_false hw
    rw[e0];refine uv ⟨(by show 1<=M5;decide),kE (fun z=>?_) _ (ah.refl H)⟩;obtain⟨_,_,f,rfl⟩:=z;refine hw ?_;cases f<;>simp[jw,fN]
  .have e0:decide (1<=k/\k<=(es.length:Int)-1)=false:=decide_eq_false hk
   rw[e0];refine uv ⟨(by show 1<=M5;decide),kE (fun z=>hk ?_) _ (ah.refl H)⟩;lia
end
open Classical in
noncomputable def rF(U:Str->Bool)(CB CM:MY)(word:Str)(xs:List Wd):Option (Except MY (List (Int×Int))):=
 if U word=false then none else
 match xs with
 |[.txt _,.ord os]=>if word=Mt "star"/\Ord (os.length:Int) os/\os.length<=12 then some (.ok (AN (os.length:Int) os))else if word=Mt "home"/\Ord (os.length:Int) os/\os.length<=12 then some (.ok (o4 os))else none
 |[.txt _,.row R]=>if word=Mt "row"\/word=Mt "copy"then some (.ok R)else none
 |[.txt _,.row R,.row S]=>if word=Mt "join"/\R.length<=60/\S.length<=60 then(if 60<R.length+S.length then some (.error CB)else some (.ok (R++S)))else none
 |[.row R,.num k]=>if R.length<=60 then(if word=fN true then some (if 1<=k/\k<R.length then .ok (uB R (k-1).toNat true)else .error CM)else if word=fN false then some (if 1<=k/\k<R.length then .ok (uB R (k-1).toNat false)else .error CM)else none)else none
 |_=>none
inductive tU(U:Str->Bool)(CB CM:MY):Str->List Wd->Except MY (List (Int×Int))->Prop
 |star (x:Str) (os:List Int):U (Mt "star")=true->Ord (os.length:Int) os->os.length<=12->tU U CB CM (Mt "star") [.txt x,.ord os] (.ok (AN (os.length:Int) os))
 |rB (x:Str) (os:List Int):U (Mt "home")=true->Ord (os.length:Int) os->os.length<=12->tU U CB CM (Mt "home") [.txt x,.ord os] (.ok (o4 os))
 |row (x:Str) (R:List (Int×Int)):tU U CB CM (Mt "row") [.txt x,.row R] (.ok R)
 |copy (x:Str) (R:List (Int×Int)):tU U CB CM (Mt "copy") [.txt x,.row R] (.ok R)
 |join (x:Str) (R S:List (Int×Int)):U (Mt "join")=true->R.length<=60->S.length<=60->tU U CB CM (Mt "join") [.txt x,.row R,.row S] (if 60<R.length+S.length then .error CB else .ok (R++S))
 |move (R:List (Int×Int)) (k:Int) (f:Bool):U (fN f)=true->R.length<=60->tU U CB CM (fN f) [.row R,.num k] (if 1<=k/\k<R.length then .ok (uB R (k-1).toNat f)else .error CM)
theorem zc{U:Str->Bool}{CB CM:MY}{word:Str}{xs:List Wd}{r:Except MY (List (Int×Int))}(h:rF U CB CM word xs=some r):tU U CB CM word xs r:=by
 unfold rF at h;by_cases hu:U word=false
 .rw[if_pos hu]at h;cases h
 rw[if_neg hu]at h;have hu:U word=true:=by simpa using hu
 split at h
 .rename_i x os
  split at h
  .rename_i c
   cases h;rw[c.1]at hu⊢;exact .star x os hu c.2.1 c.2.2
  .split at h
   .rename_i c
    cases h;rw[c.1]at hu⊢;exact .rB x os hu c.2.1 c.2.2
   .cases h
 .rename_i x R
  split at h
  .rename_i c
   cases h;rcases c with c|c
   .rw[c];exact .row x R
   .rw[c];exact .copy x R
  .cases h
 .rename_i x R S
  split at h
  .rename_i c
   rw[c.1]at hu⊢;have q:=tU.join (CB:=CB) (CM:=CM) x R S hu c.2.1 c.2.2
   split at h
   .rename_i d
    cases h;rw[if_pos d]at q;exact q
   .rename_i d
    cases h;rw[if_neg d]at q;exact q
  .cases h
 .rename_i R k
  split at h
  .rename_i l
   split at h
   .rename_i c
    cases h;rw[c]at hu⊢;exact .move R k true hu l
   .split at h
    .rename_i c
     cases h;rw[c]at hu⊢;exact .move R k false hu l
    .cases h
  .cases h
 .cases h
def Eg(U:Str->Bool):Sp:=fun vs H Q E=>U (Mt "star")=true/\∃(t:MY)(n:Int)(xs:List Int),vs=[.ref t]/\H t=some (.tup (xs.map V.int))/\Ord n xs/\n<=50/\∀l es H',H l=none->H' l=some (.lst es)->dD H' es (AN n xs)->ah H H'->Q (.ref l) H'
def DU(U:Str->Bool):Sp:=fun vs H Q E=>U (Mt "home")=true/\Gm vs H Q E
def AQ(U:Str->Bool)(CM:MY):Sp:=fun vs H Q E=>(∃f,U (fN f)=true)/\Gd CM vs H Q E
structure LL(P:M0)(w:M3)(K:W.Frag)(mg:Str->Option MX)(base:Nc)(U:Str->Bool)(u60:MX)(CB CM:MY):Prop extends T1 mg K where
 C6:FnAt P w K mg base "star" 6 ["order"] (Eg U)
 BR:FnAt P w K mg base "home" 6 ["order"] (DU U)
 ym:eV P w K mg base "moved" 6 ["row","k","way"] (AQ U CM)
 cE:mg "MOST_EXCHANGES" =some u60
 cG:RelV (.int 60) u60
 dv:mg "NoBound" =some (.ref CB)
 gW:j4 K CB
section
variable{P:M0}{w:M3}{K:W.Frag}{mg:Str->Option MX}{base:Nc}{U:Str->Bool}{u60:MX}{CB CM:MY}{L:dE}
theorem oI:aA ["word","given","row"] ["word","given"] (ar (top 98)):=⟨rfl,rfl,rfl,by decide+kernel,rfl,by decide+kernel,by decide+kernel⟩
theorem Hq{f:MY}{fd:Nb}(F:dO K "row_due" "row_due" (top 98) f fd)(hL:L.Ge=rF U CB CM)(T:LL P w K mg base U u60 CB CM):aR P w K mg base (i3 P w) 9 f fd ["word","given"] (JB L):=by
 refine F.Aa oI (fun vs H Q E h=>?_) (fun cdv A outer s H vs Q E hr h=>?_)
 .obtain⟨word,l,us,xs,rfl,_⟩:=h
  rfl
 .obtain⟨word,l,us,xs,rfl,hl,hw,h⟩:=h
  refine⟨_,(ag (a8 (ax cR (pv 0) aK (aG _)) (aj (ay (au T.C6 (hr.mono (by first|decide|lia)) rfl (aa (aU (az (K:=K) rfl) (pv 1) ai (fun _ _=>rfl)) af)))) aE)
   (ag (a8 (ax cR (pv 0) aK (aG _)) (aj (ay (au T.BR (hr.mono (by first|decide|lia)) rfl (aa (aU (az (K:=K) rfl) (pv 1) ai (fun _ _=>rfl)) af)))) aE)
   (ag (a8 (ax cR (pv 0) aK (aG _)) (ag (aC (i:=2) oI.nd rfl (Or.inl rfl) (av dM (aU (az (K:=K) rfl) (pv 1) ai (fun _ _=>rfl)) (aU (az (K:=K) rfl) (pv 1) ai (fun _ _=>rfl))))
   (ag (a8 (ax jS (ak (aL (K:=K) rfl) rfl T.bE (by decide+kernel) (aa (pv 2) af)) (dR rfl T.cE T.cG) (aG _)) (aj (dP pU T.gW rfl rfl T.dv (aa aK af))) aE)
   (aj (ay (pv 2))))) aE)
   (ag (a8 (PW.pt (jK (ax cR (pv 0) aK (aG _)) (hV (ax cR (pv 0) aK (aG _))))) (aj (ay (bG T.ym eT (hr.mono (by decide)) rfl (@aa _ _ _ _ _ (aU (az (K:=K) rfl) (pv 1) ai (fun _ _=>rfl)) (@aa _ _ _ _ _ (aU (az (K:=K) rfl) (pv 1) ai (fun _ _=>rfl)) (@aa _ _ _ _ _ (pv 0) af bt) C5) C5)))) aE)
   (aj (ay (aU (az (K:=K) rfl) (pv 1) ai (fun _ _=>rfl)))))))),?_⟩
  have hc:∃r,L.Ge word xs=some r:=by
   rcases h with⟨R,e,_⟩|⟨c,e,_⟩
   .exact⟨_,e⟩
   .exact⟨_,e⟩
  obtain⟨r,er⟩:=hc;have kY:∀R,r= .ok R->∀v H',cY H' v R->ah H H'->Q v H':=fun R z=>by
   rcases h with⟨R',e,k⟩|⟨c,e,_⟩
   .rw[er,z]at e;cases e;exact k
   .rw[er,z]at e;cases e
  have kN:∀c,r= .error c->∀b H',ah H H'->E (.ref c) b H':=fun c z=>by
   rcases h with⟨R',e,k⟩|⟨c',e,k⟩
   .rw[er,z]at e;cases e
   .rw[er,z]at e;cases e;exact k
  clear h;rw[hL]at er;have one:1<=M5:=by decide
  cases zc er with
  |star x os hu o lo=>
   cases hw with
   |cons w1 hw=>cases hw with
    |cons w2 hw=>cases hw with
     |nil=>
      obtain⟨t,rfl,ht⟩:=w2;refine⟨_,rfl,rfl,_,rfl,Fb (by decide) ?_⟩;exact⟨_,rfl,l,_,1,_,rfl,rfl,aJ.of hl,aZ (j:=1) rfl,hu,t,_,os,rfl,ht,o,by lia,fun l' es H' _ h1 h2 sm=>kY _ rfl _ _ ⟨l',es,rfl,h1,h2⟩ sm⟩
  |rB x os hu o lo=>
   cases hw with
   |cons w1 hw=>cases hw with
    |cons w2 hw=>cases hw with
     |nil=>
      obtain⟨t,rfl,ht⟩:=w2;refine⟨_,rfl,rfl,_,rfl,eG (by decide) ?_⟩;refine⟨_,rfl,rfl,_,rfl,Fb (by decide) ?_⟩;exact⟨_,rfl,l,_,1,_,rfl,rfl,aJ.of hl,aZ (j:=1) rfl,hu,t,_,os,rfl,ht,o,by lia,fun l' es H' _ h1 h2 sm=>kY _ rfl _ _ ⟨l',es,rfl,h1,h2⟩ sm⟩
  |row x R=>
   cases hw with
   |cons w1 hw=>cases hw with
    |cons w2 hw=>cases hw with
     |nil=>
      refine⟨_,rfl,rfl,_,rfl,eG (by decide) ?_⟩;refine⟨_,rfl,rfl,_,rfl,eG (by decide) ?_⟩;refine⟨_,rfl,rfl,_,rfl,eG (by decide) ?_⟩;refine⟨_,rfl,rfl,_,rfl,eG (by decide) ?_⟩;refine⟨_,rfl,rfl,_,rfl,eG (by decide) ?_⟩;exact⟨_,rfl,l,_,1,_,rfl,rfl,aJ.of hl,aZ (j:=1) rfl,kY _ rfl _ _ w2 (ah.refl _)⟩
  |copy x R=>
   cases hw with
   |cons w1 hw=>cases hw with
    |cons w2 hw=>cases hw with
     |nil=>
      refine⟨_,rfl,rfl,_,rfl,eG (by decide) ?_⟩;refine⟨_,rfl,rfl,_,rfl,eG (by decide) ?_⟩;refine⟨_,rfl,rfl,_,rfl,eG (by decide) ?_⟩;refine⟨_,rfl,rfl,_,rfl,eG (by decide) ?_⟩;refine⟨_,rfl,rfl,_,rfl,eG (by decide) ?_⟩;exact⟨_,rfl,l,_,1,_,rfl,rfl,aJ.of hl,aZ (j:=1) rfl,kY _ rfl _ _ w2 (ah.refl _)⟩
  |join x R S hu l1 l2=>
   cases hw with
   |cons w1 hw=>cases hw with
    |cons w2 hw=>cases hw with
     |cons w3 hw=>cases hw with
      |nil=>
       obtain⟨b1,es1,rfl,g1,x1⟩:=w2;obtain⟨b2,es2,rfl,g2,x2⟩:=w3;refine⟨_,rfl,rfl,_,rfl,eG (by decide) ?_⟩;refine⟨_,rfl,rfl,_,rfl,eG (by decide) ?_⟩;refine⟨_,rfl,rfl,_,rfl,Fb (by decide) ?_⟩;refine⟨_,rfl,l,_,1,_,rfl,rfl,aJ.of hl,aZ (j:=1) rfl,_,rfl,l,_,2,_,rfl,rfl,aJ.of hl,aZ (j:=2) rfl,b1,b2,es1,es2,rfl,rfl,g1,g2,?_⟩;have e1:=x1.length;have e2:=x2.length;refine⟨MS (by lia:es1.length+es2.length<=120) (by decide),fun p fp=>?_⟩;refine⟨_,rfl,p,_,rfl,.inl (aJ.of ae),_,_,rfl,rfl,_,rfl,cN (fun c=>?_) (fun c=>?_)⟩
       .have c:60<R.length+S.length:=by
         rw[decide_eq_true_eq,Mw]at c;lia
        exact⟨one,kN _ (if_pos c) none _ (ah.new fp)⟩
       .have c:¬60<R.length+S.length:=by
         rw[decide_eq_true_eq,Mw]at c;lia
        exact⟨_,rfl,kY _ (if_neg c) _ _ ⟨p,_,rfl,ae,(x1.append x2).keep fun b xs hb=>ah.new fp b _ hb⟩ (ah.new fp)⟩
  |move R k f hu l1=>
   cases hw with
   |cons w1 hw=>cases hw with
    |cons w2 hw=>cases hw with
     |nil=>
      cases(show _=V.int k from w2);obtain⟨b1,es1,rfl,g1,x1⟩:=w1;have fin:∀(way:Str),way=fN f->AQ U CM [.ref b1,.int k,.str way] H Q E:=fun way hw=>⟨⟨f,hu⟩,b1,es1,R,k,way,rfl,g1,x1,by lia,fun g eg k1 k2 l' es' H' _ h1 h2 sm=>by
       obtain rfl:=CA (hw.symm.trans eg);exact kY _ (if_pos ⟨k1,k2⟩) _ _ ⟨l',es',rfl,h1,h2⟩ sm,fun nc H' sm=>kN _ (if_neg fun c=>nc ⟨c.1,c.2,f,hw⟩) none H' sm⟩
      have go:∀c:Bool,U (fN f)=true->CJ (tS (AQ U CM) [] E (dN (yg (EK K) (gY 1) (tC (V.int 0))) (dN (yg (EK K) (gY 1) (tC (V.int 1))) (dN (gY 0) iO)))) {nx:=fun x H'=>Q V.de H',rt:=Q} (L2.start [Mt "word",Mt "given",Mt "row"] [V.str (fN f),V.ref l]) H:=fun _ _=>
       ⟨_,rfl,l,_,0,_,rfl,rfl,aJ.of hl,aZ (j:=0) rfl,_,rfl,l,_,1,_,rfl,rfl,aJ.of hl,aZ (j:=1) rfl,_,rfl,fin _ rfl⟩
      cases f with
      |true=>exact⟨_,rfl,rfl,_,rfl,eG (by decide) ⟨_,rfl,rfl,_,rfl,eG (by decide) ⟨_,rfl,rfl,_,rfl,eG (by decide) ⟨_,rfl,rfl,_,rfl,Fb (by decide) (go true hu)⟩⟩⟩⟩
      |false=>exact⟨_,rfl,rfl,_,rfl,eG (by decide) ⟨_,rfl,rfl,_,rfl,eG (by decide) ⟨_,rfl,rfl,_,rfl,eG (by decide) ⟨_,rfl,rfl,_,rfl,eG (by decide) ⟨_,rfl,rfl,_,rfl,go false hu⟩⟩⟩⟩⟩
end
def Ec:List (Str×List Str):=[("row",["new","row"]),("star",["new","order"]),("home",["new","order"]),("copy",["new","name"]),("join",["new","name","name"]),("forth",["name","number"]),("back",["name","number"]),("drop",["name"]),
 ("show",["name"]),("order",["name"]),("kind",["name"]),("least",["name"]),("parts",["name"]),("holes",["name"]),("lead",["name","name"]),("tree",["name"]),("cars",["name"]),("begun",["name","number"]),("count",["name","number"]),("joined",["name","number"]),("names",[])]
def u5:List Str:=["show","order","kind","least","parts","holes","lead","tree","cars","begun","count","joined"]
def qY(w:Str):Option (List Str):=(Ec.find? fun p=>p.1=w).map (·.2)
noncomputable def jW(okd:Str->Bool)(ans:Str->Int->List Wd->Option (Except MY Str))(U:Str->Bool)(CT CN CB CM:MY):dE:=
 {due:=qY,okd:=okd,Ed:=fD,isA:=fun w=>decide (w∈u5),ans:=ans,Ge:=rF U CB CM,CT:=CT,CN:=CN}
theorem ma(a b c:Str):a++Mt " " ++b++Mt " " ++c=Str.join (Mt " ") [a,b,c]:=by
 refine dz ?_;show signs (a++Mt " " ++b++Mt " " ++c)=signs (a++Mt " " ++(b++Mt " " ++c));simp only[cV,List.append_assoc]
section
variable{okd:Str->Bool}{ans:Str->Int->List Wd->Option (Except MY Str)}{U:Str->Bool}{CT CN CB CM:MY}{n:Int}{m:Kept}{nm:Str}
theorem DO{R:List (Int×Int)}(h1:okd "new" =true)(h2:okd "row" =true)(hu:U "row" =true)(hn:isNm nm)(n12:n<=12)(g:Good n R)(l:R.length<=60):
  (jW okd ans U CT CN CB CM).out n m [Mt "row",nm,jE R]=some (.put nm R):=by
 have e1:qY (Mt "row")=some [Mt "new",Mt "row"]:=by decide+kernel
 have e2:decide (Mt "row"∈u5)=false:=by decide+kernel
 have r1:fD n (Mt "new") nm=some (.txt nm):=Ea hn;have r2:fD n (Mt "row") (jE R)=some (.row R):=ES (by lia) g l;have r3:rF U CB CM (Mt "row") [.txt nm,.row R]=some (.ok R):=by
  unfold rF;rw[if_neg (by rw[show U (Mt "row")=true from hu];decide)];dsimp only;rw[if_pos (.inl rfl)]
 have g1:pW m (Mt "new") (.txt nm)=some (.txt nm):=if_neg (by decide+kernel);have g2:pW m (Mt "row") (.row R)=some (.row R):=if_neg (by decide+kernel);unfold dE.out jW;dsimp only;rw[e1];dsimp only;rw[if_neg (by simp),if_neg (by show¬([Mt "new",Mt "row"].all okd=false);rw[List.all_cons,List.all_cons,List.all_nil,show okd (Mt "new")=true from h1,show okd (Mt "row")=true from h2];decide)];simp only[List.zip_cons_cons,List.zip_nil_right,fb,r1,r2,MW,g1,g2,e2];rw[if_neg (by decide+kernel),if_neg (by decide),if_neg (by decide+kernel),r3]
theorem CY{R:List (Int×Int)}{k:Int}{f:Bool}(h1:okd "name" =true)(h2:okd "number" =true)(hu:U (fN f)=true)(hn:isNm nm)(k0:0<=k)(k9:k<10^9)(hR:rowOf m nm=some R)(l:R.length<=60):
  (jW okd ans U CT CN CB CM).out n m [fN f,nm,aH k]=some (if 1<=k/\k<R.length then .put nm (uB R (k-1).toNat f)else .nu CM):=by
 have e1:qY (fN f)=some [Mt "name",Mt "number"]:=by cases f<;>decide+kernel
 have e2:decide (fN f∈u5)=false:=by cases f<;>decide+kernel
 have r1:fD n (Mt "name") nm=some (.txt nm):=kX hn;have r2:fD n (Mt "number") (aH k)=some (.num k):=sD k0 k9;have r3:rF U CB CM (fN f) [.row R,.num k]=some (if 1<=k/\k<R.length then .ok (uB R (k-1).toNat f)else .error CM):=by
  unfold rF;rw[if_neg (by rw[hu];decide)];dsimp only;rw[if_pos l]
  cases f with
  |true=>rw[if_pos rfl]
  |false=>rw[if_neg (by decide+kernel),if_pos rfl]
 have g1:pW m (Mt "name") (.txt nm)=some (.row R):=by
  unfold pW;rw[if_pos rfl];dsimp only;rw[hR];rfl
 have g2:pW m (Mt "number") (.num k)=some (.num k):=if_neg (by decide+kernel);unfold dE.out jW;dsimp only;rw[e1];dsimp only;rw[if_neg (by simp),if_neg (by show¬([Mt "name",Mt "number"].all okd=false);rw[List.all_cons,List.all_cons,List.all_nil,show okd (Mt "name")=true from h1,show okd (Mt "number")=true from h2];decide)];simp only[List.zip_cons_cons,List.zip_nil_right,fb,r1,r2,MW,g1,g2,e2];rw[if_neg (by cases f<;>decide+kernel),if_neg (by decide),if_neg (by cases f<;>decide+kernel),r3];by_cases c:1<=k/\k<R.length
 .rw[if_pos c,if_pos c]
 .rw[if_neg c,if_neg c]
theorem Dm{word:Str}(h1:okd "name" =true)(e1:qY word=some [Mt "name"])(e2:decide (word∈u5)=true)(hn:isNm nm):
  (rowOf m nm=none->(jW okd ans U CT CN CB CM).out n m [word,nm]=some (.nu CN))/\
  ∀R,rowOf m nm=some R->(∀s,ans word n [.row R]=some (.ok s)->(jW okd ans U CT CN CB CM).out n m [word,nm]=some (.ans s))/\∀c,ans word n [.row R]=some (.error c)->(jW okd ans U CT CN CB CM).out n m [word,nm]=some (.nu c):=by
 have r1:fD n (Mt "name") nm=some (.txt nm):=kX hn;have nn:¬word=Mt "names" :=fun z=>by rw[z]at e1;revert e1;decide+kernel
 have ok:¬([Mt "name"].all okd=false):=by rw[List.all_cons,List.all_nil,show okd (Mt "name")=true from h1];decide
 constructor
 .intro e
  have g1:pW m (Mt "name") (.txt nm)=none:=by
   unfold pW;rw[if_pos rfl];dsimp only;rw[e];rfl
  unfold dE.out jW;dsimp only;rw[e1];dsimp only;rw[if_neg (by simp),if_neg ok];simp only[List.zip_cons_cons,List.zip_nil_right,fb,r1,MW,g1]
 .intro R e
  have g1:pW m (Mt "name") (.txt nm)=some (.row R):=by
   unfold pW;rw[if_pos rfl];dsimp only;rw[e];rfl
  constructor
  .intro s es
   unfold dE.out jW;dsimp only;rw[e1];dsimp only;rw[if_neg (by simp),if_neg ok];simp only[List.zip_cons_cons,List.zip_nil_right,fb,r1,MW,g1,e2];rw[if_neg nn,if_pos trivial,es]
  .intro s es
   unfold dE.out jW;dsimp only;rw[e1];dsimp only;rw[if_neg (by simp),if_neg ok];simp only[List.zip_cons_cons,List.zip_nil_right,fb,r1,MW,g1,e2];rw[if_neg nn,if_pos trivial,es]
theorem yE{a b:Str}(ha:PyData.strOk a=true)(hb:PyData.strOk b=true):PyData.strOk (a++b)=true:=by
 unfold PyData.strOk at*;rw[Array.all_eq_true_iff_forall_mem]at*;intro c hc;have hc:c∈signs (a++b):=by simpa [signs]using hc
 rw[cV]at hc;rcases List.mem_append.mp hc with h|h
 .exact ha c (by simpa [signs]using h)
 .exact hb c (by simpa [signs]using h)
theorem ou{z:Str}(hz:PyData.strOk z=true):∀{ts:List Str},(∀t∈ts,PyData.strOk t=true)->PyData.strOk (Str.join z ts)=true
 |[],_=>by show PyData.strOk (⟨#[]⟩:Str)=true;decide+kernel
 |[t],h=>h t MG
 |t::u::r,h=>by
  have e:Str.join z (t::u::r)=t++z++Str.join z (u::r):=rfl;rw[e];exact yE (yE (h t MG) hz) (ou hz fun x hx=>h x (MH _ hx))
theorem EY(i:Int):PyData.strOk (aH i)=true:=gI _
theorem uL(r:List Int):PyData.strOk (Fx r)=true:=ou (gI ",") fun t ht=>by
 obtain⟨i,_,rfl⟩:=List.mem_map.mp ht;exact EY i
theorem Gz{K:W.Frag}{H:Hp}{l k:MY}{ss:List Str}{Q:VK}(h1:H l=some (.lst (ss.map V.str)))(h2:H k=some (.lst (ss.map V.str)))(ok:∀x∈ss,PyData.strOk x=true)(q:Q (.bl false) H):Fd K (.ref l) (.ref k) H Q:=by
 have ds:∀{ss:List Str},rS H (fun _=>True) (ss.map V.str) (ss.map PyData.str):=fun{ss}=>by
  induction ss with
  |nil=>exact .nil
  |cons x r ih=>exact .cons (.str x) ih
 have nn:zj 2 (.list (ss.map PyData.str)):=zh fun d hd=>by
  obtain⟨x,hx,rfl⟩:=List.mem_map.mp hd;exact AF (ok x hx)
 refine⟨fun _=>True,_,_,(DT.lst h1 trivial ds).dat,(DT.lst h2 trivial ds).dat,nn.lay,nn.lay,by have:=nn.dp;lia,?_⟩;rw[PySem.SeqAt.eqv_refl _ nn.lay];exact q
theorem dh(p:Str×List (Int×Int))(m:Kept)(y:Str):rowOf (p::m) y=if p.1=y then some p.2 else rowOf m y:=by
 unfold rowOf;by_cases c:p.1=y
 .rw[List.find?_cons_of_pos (by simpa using c),if_pos c]
  rfl
 .rw[List.find?_cons_of_neg (by simpa using c),if_neg c]
theorem qP{x y:Str}{R:List (Int×Int)}:∀m:Kept,rowOf (m.map fun p=>if p.1=x then(p.1,R)else p) y=if x=y then(rowOf m y).map fun _=>R else rowOf m y
 |[]=>by
  have e:rowOf ([]:Kept) y=none:=rfl;rw[List.map_nil,e]
  split<;>rfl
 |p::m=>by
  rw[MA,dh,dh,qP m];by_cases c:p.1=x
  .rw[if_pos c]
   dsimp only;by_cases d:p.1=y
   .rw[if_pos d,if_pos (c.symm.trans d),if_pos d]
    rfl
   .rw[if_neg d,if_neg d]
  .rw[if_neg c]
   by_cases d:p.1=y
   .rw[if_pos d,if_neg (fun z=>c (d.trans z.symm)),if_pos d]
   .rw[if_neg d,if_neg d]
theorem mC{x:Str}:∀{m:Kept},(rowOf m x).isSome=m.any fun p=>decide (p.1=x)
 |[]=>rfl
 |p::m=>by
  rw[dh,List.any_cons,←mC];by_cases c:p.1=x
  .rw[if_pos c,decide_eq_true c];rfl
  .rw[if_neg c,decide_eq_false c];rfl
theorem q8{x y:Str}{R:List (Int×Int)}:∀{m:Kept},rowOf m x=none->rowOf (m++[(x,R)]) y=if x=y then some R else rowOf m y
 |[],_=>by
  rw[List.nil_append,dh]
 |p::m,h=>by
  rw[dh]at h;by_cases c:p.1=x
  .rw[if_pos c]at h;cases h
  .rw[if_neg c]at h
   rw[List.cons_append,dh,dh,q8 h];by_cases d:p.1=y
   .rw[if_pos d,if_pos d,if_neg (fun z=>c (d.trans z.symm))]
   .rw[if_neg d,if_neg d]
theorem jz{x y:Str}{R:List (Int×Int)}:rowOf (jV m x R) y=if x=y then some R else rowOf m y:=by
 unfold jV;rw[←mC]
 cases e:rowOf m x with
 |some v=>
  rw[if_pos (show(some v).isSome=true from rfl),qP];by_cases c:x=y
  .rw[if_pos c,if_pos c,←c,e];rfl
  .rw[if_neg c,if_neg c]
 |none=>
  rw[if_neg (by decide),q8 e]
theorem qM{x:Str}{R:List (Int×Int)}:∀{m:Kept},rowOf m x=some R->(x,R)∈m
 |[],h=>by cases h
 |p::m,h=>by
  rw[dh]at h;by_cases c:p.1=x
  .rw[if_pos c]at h
   cases h;rw[←c];exact MG
  .rw[if_neg c]at h
   exact MH _ (qM h)
def kW(n:Int)(m:Kept):Prop:=∀p∈m,Good n p.2/\p.2.length<=60/\isNm p.1
theorem kW.put {x:Str}{R:List (Int×Int)}(h:kW n m)(hx:isNm x)(g:Good n R)(l:R.length<=60):kW n (jV m x R):=by
 intro p hp;unfold jV at hp
 split at hp
 .obtain⟨q,hq,rfl⟩:=List.mem_map.mp hp
  have:=h q hq
  split
  .exact⟨g,l,this.2.2⟩
  .exact this
 .rcases List.mem_append.mp hp with hp|hp
  .exact h p hp
  .rw[List.mem_singleton.mp hp]
   exact⟨g,l,hx⟩
theorem kW.names {m:Kept}{n:Int}(h:kW n m):∀p∈m,p.1.length<=990:=fun p hp=>MS (h p hp).2.2.2.1 (by decide)
theorem cY.off {H H':Hp}{v:V}{R:List (Int×Int)}{d:MY}{q:List (Key×V)}(h:cY H v R)(e:H d=some (.dK q))(k:∀b o,b≠d->H b=some o->H' b=some o):cY H' v R:=by
 obtain⟨l,es,e1,h1,h2⟩:=h;have ne:∀b o,H b=some o->(∀q,o≠.dK q)->b≠d:=fun b o hb hn z=>by rw[z,e]at hb;cases hb;exact hn _ rfl
 exact⟨l,es,e1,k _ _ (ne _ _ h1 fun q z=>nomatch z) h1,h2.keep fun b xs hb=>k _ _ (ne _ _ hb fun q z=>nomatch z) hb⟩
end
def qD(C:MY):Sp:=fun vs H Q E=>∃(l:MY)(ws:List V)(row:List (Int×Int)),vs=[.ref l]/\H l=some (.lst ws)/\dD H ws row/\row.length<=500/\(bp ((row.length:Int)+1) row=lG ((row.length:Int)+1)->∀l' H',H l'=none->H' l'=some (.lst ((row.map (·.1)).map V.int))->ah H H'->Q (.ref l') H')/\(bp ((row.length:Int)+1) row≠lG ((row.length:Int)+1)->∀H',ah H H'->E (.ref C) none H')
def KH(H:Hp)(v:V)(S:List (List Int)):Prop:=∃(a:MY)(us:List V),v= .ref a/\H a=some (.lst us)/\bX H us S
def uM(R:List (Int×Int)):List (List (List Int)):=(List.range (R.length+1)).map fun i=>jT ((R.length:Int)+1) (bp ((R.length:Int)+1) (R.take i))
def C4(C:MY):Sp:=fun vs H Q E=>∃(l:MY)(es:List V)(R:List (Int×Int)),vs=[.ref l]/\H l=some (.lst es)/\dD H es R/\R.length<=11/\Good ((R.length:Int)+1) R/\(bp ((R.length:Int)+1) R=lG ((R.length:Int)+1)->∀q ys H',H' q=some (.lst ys)->Paired (KH H') ys (uM R)->ah H H'->Q (.ref q) H')/\(bp ((R.length:Int)+1) R≠lG ((R.length:Int)+1)->∀H',ah H H'->E (.ref C) none H')
structure Ik(P:M0)(w:M3)(K:W.Frag)(mg:Str->Option MX)(base:Nc)(C:MY):Prop extends T1 mg K where
 cS:eV P w K mg base "check_great" 4 ["row"] (nW C)
structure JF(P:M0)(w:M3)(K:W.Frag)(mg:Str->Option MX)(base:Nc)(C:MY):Prop extends Ik P w K mg base C where
 mT:FnAt P w K mg base "shared_by" 4 ["order"] FC
 u4:FnAt P w K mg base "led" 3 ["n","row"] tf
theorem dD.yI {H:Hp}:∀{vs:List V}{r:List (Int×Int)}(k:Nat),dD H vs r->dD H (vs.take k) (r.take k)
 |_,_,_,.nil=>by rw[List.take_nil,List.take_nil];exact .nil
 |_,_,0,.cons _ _=> .nil
 |_,_,k+1,.cons h x=> .cons h (x.yI k)
section
variable{P:M0}{w:M3}{K:W.Frag}{mg:Str->Option MX}{base:Nc}{C:MY}
theorem wt:aA ["row"] ["row"] (ar (top 41)):=⟨rfl,rfl,rfl,by decide+kernel,rfl,by decide+kernel,by decide+kernel⟩
theorem wc{f:MY}{fd:Nb}(F:dO K "cars_of" "cars_of" (top 41) f fd)(T:Ik P w K mg base C):aR P w K mg base (i3 P w) 5 f fd ["row"] (qD C):=by
 refine F.Aa wt (fun vs H Q E h=>?_) (fun cdv A outer s H vs Q E hr h=>?_)
 .obtain⟨l,ws,row,rfl,_⟩:=h
  rfl
 .obtain⟨l,ws,row,rfl,hl,hx,h100,kQ,kE⟩:=h
  refine⟨_,(ag (cZ (bG T.cS eT (hr.mono (by decide)) rfl (aa (pv 0) af)))
   (aj (ay (bw (N:=(["a","b"]:List Str)) (ix:=([none,none]:List (Option Nat))) (aT rfl rfl) rfl (a6 (K:=K) rfl (pv 0)) (fun _ _ _ _=>(cx (K:=K) (n:=2) rfl rfl (aO (aw (i:=0) (show List.Nodup (["a","b"]:List Str)from by decide+kernel) rfl (Or.inl rfl)) (aO (aw (i:=1) (show List.Nodup (["a","b"]:List Str)from by decide+kernel) rfl (Or.inl rfl)) cy)))) (fun _ _ _ _=>bc) (fun _ _ _ _=>(pv 0)))))),?_⟩
  have wl:=hx.length;refine⟨_,rfl,l,ws,row,rfl,hl,hx,h100,fun hgr H1 s1=>?_,kE⟩;have k:=kQ hgr;have hl1:=s1 _ _ hl;refine⟨_,rfl,l,rfl,⟨_,aJ.of hl1⟩,xc (K:=K) (a:=l) (xs:=ws) (fun j ys σ' H'=>(∃v0 v1,σ'=[v0,v1])/\H'=H1/\ys=((row.take j).map (·.1)).map V.int) (by lia) ⟨⟨none,none,rfl⟩,rfl,rfl⟩ (fun j ys σ' H' _ q=>by rw[q.2.1];exact aJ.of hl1) (fun j ys σ' H' q=>by rw[q.2.2,Mu,Mu,MB];lia) ?_ ?_⟩
  .rintro j ys σ' H' x R hx' ⟨⟨v0,v1,rfl⟩,rfl,rfl⟩ done
   obtain⟨te,a,b,rfl,hte,hrow⟩:=hx.get hx';refine⟨te,_,rfl,dI.of (s1 _ _ hte),rfl,_,_,rfl,_,_,rfl,rfl,_,rfl,done _ _ _ ⟨⟨_,_,rfl⟩,rfl,?_⟩⟩;rw[MO,hrow,My,My];rfl
  .rintro ys σ' H' q ⟨_,rfl,rfl⟩ fq
   rw[MI (by lia)];exact k q _ (s1.free fq) ae (s1.trans (ah.new fq))
theorem jG:aA ["row","n"] ["row"] (ar (top 73)):=⟨rfl,rfl,rfl,by decide+kernel,rfl,by decide+kernel,by decide+kernel⟩
theorem E2{f:MY}{fd:Nb}(F:dO K "beginnings" "beginnings" (top 73) f fd)(T:JF P w K mg base C):aR P w K mg base (i3 P w) 5 f fd ["row"] (C4 C):=by
 refine F.Aa jG (fun vs H Q E h=>?_) (fun cdv A outer s H vs Q E hr h=>?_)
 .obtain⟨l,es,R,rfl,_⟩:=h
  rfl
 .obtain⟨l,es,R,rfl,hl,xr,r11,hg,kQ,kE⟩:=h
  refine⟨_,(ag (cZ (bG T.cS eT (hr.mono (by decide)) rfl (aa (pv 0) af)))
   (ag (aC (i:=1) jG.nd rfl (Or.inr rfl) (av aS (ak (aL (K:=K) rfl) rfl T.bE (by decide+kernel) (aa (pv 0) af)) ai))
   (aj (ay (bw (N:=(["many","n","row"]:List Str)) (ix:=([none,some 1,some 0]:List (Option Nat))) (aT rfl rfl) rfl (eI rfl T.bQ (aa (pv 1) af)) (fun _ _ _ _=>(aw (i:=0) (show List.Nodup (["many","n","row"]:List Str)from by decide+kernel) rfl (Or.inl rfl))) (fun _ _ _ _=>bc) (fun _ _ _ _=>(au T.mT (hr.mono (by first|decide|lia)) rfl (aa (au T.u4 (hr.mono (by first|decide|lia)) rfl (aa (pv 1) (aa (bN (bO (K:=K) rfl) (pv 2) cJ (cP (pv 0))) af))) af)))))))),?_⟩
  have el:=xr.length;refine⟨_,rfl,l,es,R,rfl,hl,xr,by lia,fun gr H1 s1=>?_,kE⟩;have k:=kQ gr;have hl1:=s1 _ _ hl;have xr1:=xr.keep (ah.bH s1);refine⟨_,rfl,l,_,rfl,.inl (aJ.of hl1),_,_,rfl,rfl,?_⟩;rw[el];have bl:(uM R).length=R.length+1:=by unfold uM;rw[Mu,List.length_range]
  refine⟨_,rfl,_,rfl,by lia,by lia,t6 (k:=0) (fun i ys σ' H'=>Paired (KH H') ys ((uM R).take i)/\(∃v,σ'=[v,some (.int ((R.length:Int)+1)),some (.ref l)])/\ah H1 H') (by lia) ⟨.nil,⟨none,rfl⟩,ah.refl _⟩ (fun i ys σ' H' z=>by have:=Paired.EU z.1;rw[this,MB];lia) ?_ ?_⟩
  .rintro i ys σ' H2 RR hi ⟨x2,⟨v,rfl⟩,s2⟩ done
   have hl2:=s2 _ _ hl1;have hi':i<R.length+1:=by lia
   have ci:fg es none (some (0+(i:Int)))=es.take i:=by rw[FP (by lia) (by lia),show(0+(i:Int)).toNat=i by lia]
   refine⟨_,rfl,_,rfl,?_⟩;dsimp only[dG];refine⟨_,rfl,_,rfl,l,es,rfl,aJ.of hl2,fun l3 f3=>?_⟩;have s3:ah H2 (upd H2 l3 (.lst (fg es none (some (0+(i:Int)))))):=ah.new f3;have g3:upd H2 l3 (.lst (fg es none (some (0+(i:Int))))) l3=some (.lst (es.take i)):=by rw[ae,ci]
   generalize upd H2 l3 (.lst (fg es none (some (0+(i:Int)))))=H3 at s3 g3⊢;have x3:dD H3 (es.take i) (R.take i):=(xr1.keep (ah.bH (s2.trans s3))).yI i;have hg':Good ((R.length:Int)+1) (R.take i):=fun e he=>hg e (List.mem_of_mem_take he);refine⟨_,l3,_,_,rfl,by lia,by lia,g3,x3,fun t H4 ft ht s4=>?_⟩;refine⟨t,(R.length:Int)+1,_,rfl,ht,nM hg',by lia,fun q H5 sq s5=>?_⟩;obtain⟨us,fq,hq,xq,frq,nq⟩:=sq;have a5:=s3.trans (s4.trans s5);have ht2:(uM R)[i]?=some (jT ((R.length:Int)+1) (bp ((R.length:Int)+1) (R.take i))):=by unfold uM;rw[Mv,List.getElem?_range hi'];rfl
   refine done _ _ _ ⟨?_,⟨_,rfl⟩,s2.trans a5⟩;rw[take_snoc ht2];exact Paired.En (Paired.rX x2 fun v S ⟨a,us,e,h1,h2⟩=>⟨a,us,e,a5 _ _ h1,h2.keep a5⟩) (.cons ⟨q,us,rfl,hq,xq⟩ .nil)
  .rintro ys σ' H2 q ⟨x2,_,s2⟩ fq
   rw[MI (by lia)]at x2;have sn:=ah.new (o:= .lst ys) fq;exact k q ys _ ae (Paired.rX x2 fun v S ⟨a,us,e,h1,h2⟩=>⟨a,us,e,sn _ _ h1,h2.keep sn⟩) (s1.trans (s2.trans sn))
end
def xM:Sp:=fun vs H Q _=>∃(p:MY)(c:Nat)(t:MY)(n:Int)(xs:List Int),vs=[.ref p,.ref t]/\bD H p c/\c<=80000/\H t=some (.tup (xs.map V.int))/\Ord n xs/\1<=n/\n<=50/\
 ∀l es row H',H l=none->H' l=some (.lst es)->dD H' es row->Good n row->bp n row=xs->row.length+cnt n xs=n.toNat->bD H' p (c+400)->aN p H H'->Q (.ref l) H'
structure Ml(P:M0)(w:M3)(K:W.Frag)(mg:Str->Option MX)(base:Nc):Prop extends T1 mg K where
 iF:mg "min" =none
 kr:mg "max" =none
 aI:FnAt P w K mg base "_law_take" 1 ["_law_purse_here","_law_many"] mH
 cU:FnAt P w K mg base "_law_rounds" 1 ["_law_order_here"] fR
theorem xO(n:Int)(xs:List Int):cnt n xs<=n.toNat:=by
 unfold cnt;have:=List.length_filter_le (least xs) (bK 1 (n+1));rw[aB]at this;lia
theorem CI{n:Int}{gs:List Int}(o:Ord n gs)(h:∀r∈bT n gs,r.length<=1):gs=bK 1 (n+1):=by
 refine EH o.length (by rw[aB];lia) fun x h1 h2=>?_;have e:ld (bK 1 (n+1)) x=x:=(AR n).rest x h1 h2 (by simp);rw[e];obtain⟨m,hm,hl,_⟩:=wC o h1 h2;have b:=iu o h1 h2 hm;have hr:cq gs m∈bT n gs:=by
  unfold bT;exact List.mem_map_of_mem (List.mem_filter.mpr ⟨bj.mpr ⟨b.1,by lia⟩,hl⟩)
 have l1:=h _ hr;have one:∀y,y∈cq gs m->y=m:=fun y hy=>by
  have hm':m∈cq gs m:=dn m;generalize cq gs m=q at l1 hy hm'
  cases q with
  |nil=>cases hy
  |cons k r=>
   cases r with
   |nil=>rw[List.mem_singleton.mp hy,List.mem_singleton.mp hm']
   |cons k' r=>rw[Mz,Mz]at l1;lia
 have xm:=one x (eB o h1 h2 hm);rw[xm];exact one _ (BS o b.1 b.2 (dn m))
theorem Hh{n:Int}{gs:List Int}(o:Ord n gs){m x y:Int}(m1:1<=m)(m2:m<=n)(hx:x∈cq gs m)(hy:y∈cq gs m)(ne:x≠y):1<=(if y<x then y else x)/\(if y<x then y else x)<(if y>x then y else x)/\(if y>x then y else x)<=n/\(if y>x then y else x)∈cq gs (if y<x then y else x):=by
 have bx:=iu o m1 m2 hx;have by_:=iu o m1 m2 hy;have xy:y∈cq gs x:=fG o bx.1 bx.2 (eB o m1 m2 hx) hy;have yx:x∈cq gs y:=eB o bx.1 bx.2 xy;by_cases c:y<x
 .rw[if_pos c,if_neg (by lia)]
  exact⟨by_.1,c,bx.2,yx⟩
 .rw[if_neg c,if_pos (by lia)]
  exact⟨bx.1,by lia,by_.2,xy⟩
theorem Hu{i r:Int}{k:Nat}(h0:0<=i)(h1:i<k)(r0:0<=r)(r1:r<(k:Int)-1):0<=(i+1+r)%(k:Int)/\(i+1+r)%(k:Int)<k/\(i+1+r)%(k:Int)≠i:=by
 by_cases c:i+1+r<k
 .rw[Int.emod_eq_of_lt (by lia) c];lia
 .have e:(i+1+r)%(k:Int)=i+1+r-k:=by
   rw[←Int.sub_emod_right,Int.emod_eq_of_lt (by lia) (by lia)]
  rw[e];lia
theorem kT{ws:List V}{i:Int}{v:V}(h0:0<=i)(h:ws[i.toNat]?=some v):uu ws i=some v:=by
 have e:((i.toNat:Nat):Int)=i:=Int.toNat_of_nonneg h0;rw[←e];exact aZ h
def i8(r:List Int):Bool:=decide (1<r.length)
def WI(p t lw:MY)(c:Nat)(n:Int)(xs:List Int)(H:Hp)(m:Nat)(σ:St)(H':Hp):Prop:=∃(lg lf:MY)(zs:List V)(gs:List Int)(es:List V)(row:List (Int×Int))(v5 v6 v7 v8 v9:Option V),m=n.toNat-cnt n gs/\σ=[some (.ref p),some (.ref t),some (.ref lw),some (.ref lg),some (.ref lf),v5,v6,v7,v8,v9]/\aN p H H'/\H' lw=some (.lst es)/\dD H' es row/\Good n row/\H' lg=some (.lst (gs.map V.int))/\lw≠lg/\p≠lg/\
 Ord n gs/\gs.map (go row)=xs/\cnt n gs=cnt n xs+row.length/\H' lf=some (.lst zs)/\p≠lf/\bX H' zs ((bT n gs).filter i8)/\V.ref p∉zs/\bD H' p (c+3*row.length)
section
variable{P:M0}{w:M3}{K:W.Frag}{mg:Str->Option MX}{base:Nc}
theorem aP:aA ["_law_purse_here","_law_order_here","_law_row","_law_goals","_law_rounds_left","_law_some","_law_one","_law_other_here","_law_a","_law_b"] ["_law_purse_here","_law_order_here"] (ar (top 121)):=⟨rfl,rfl,rfl,by decide+kernel,rfl,by decide+kernel,by decide+kernel⟩
theorem GQ{f:MY}{fd:Nb}(F:dO K "_law_least_row" "_law_least_row" (top 121) f fd)(T:Ml P w K mg base):aR P w K mg base gh 2 f fd ["_law_purse_here","_law_order_here"] xM:=by
 refine F.ok aP (fun vs H Q E h=>?_) (fun cdv A outer s H vs Q E hr h=>?_)
 .obtain⟨p,c,t,n,xs,rfl,_⟩:=h
  rfl
 .obtain⟨p,c,t,n,xs,rfl,pu,hc,ht,o,n1,n2,k⟩:=h
  have hu:=kJ hr;refine⟨_,(ag (aC (i:=2) aP.nd rfl (Or.inl rfl) (bu af))
   (ag (aC (i:=3) aP.nd rfl (Or.inl rfl) (aF (jO (K:=K) rfl) rfl T.o7 (by decide+kernel) (aa (pv 1) af)))
   (ag (gX (i:=4) aP.nd rfl rfl (N:=(["_law_some"]:List Str)) (ix:=([none]:List (Option Nat))) (aT rfl rfl) rfl (a6 (K:=K) rfl (au T.cU (hr.mono (by first|decide|lia)) rfl (aa (aF (bo (K:=K) rfl) rfl T.cu (by decide+kernel) (aa (pv 3) af)) af))) (fun _ _ _ _=>(aw (i:=0) (show List.Nodup (["_law_some"]:List Str)from by decide+kernel) rfl (Or.inl rfl))) (fun _ _ _ _=>(sE (ax jS (ak (aL (K:=K) rfl) rfl T.bE (by decide+kernel) (aa (pv 0) af)) ai (aG _)))) (fun _ _ _ _=>(pv 0)))
   (ag (iU PassesOwn.never (ax jS (ak (aL (K:=K) rfl) rfl T.bE (by decide+kernel) (aa (pv 4) af)) ai (aG _)) (ag (aC (i:=5) aP.nd rfl (Or.inl rfl) (aU (az (K:=K) rfl) (pv 4) (au T.aI (hr.mono (by first|decide|lia)) rfl (aa (pv 0) (aa (ak (aL (K:=K) rfl) rfl T.bE (by decide+kernel) (aa (pv 4) af)) af))) (fun _ _=>rfl)))
   (ag (aC (i:=6) aP.nd rfl (Or.inl rfl) (au T.aI (hr.mono (by first|decide|lia)) rfl (aa (pv 0) (aa (ak (aL (K:=K) rfl) rfl T.bE (by decide+kernel) (aa (pv 5) af)) af))))
   (ag (aC (i:=7) aP.nd rfl (Or.inl rfl) (av gC (av aS (av aS (pv 6) ai) (au T.aI (hr.mono (by first|decide|lia)) rfl (aa (pv 0) (aa (av bU (ak (aL (K:=K) rfl) rfl T.bE (by decide+kernel) (aa (pv 5) af)) ai) af)))) (ak (aL (K:=K) rfl) rfl T.bE (by decide+kernel) (aa (pv 5) af))))
   (ag (aC (i:=8) aP.nd rfl (Or.inr rfl) (ak (jn rfl) rfl T.iF (by decide+kernel) (aa (aU (az (K:=K) rfl) (pv 5) (pv 6) (fun _ _=>rfl)) (aa (aU (az (K:=K) rfl) (pv 5) (pv 7) (fun _ _=>rfl)) af))))
   (ag (aC (i:=9) aP.nd rfl (Or.inr rfl) (ak (jC rfl) rfl T.kr (by decide+kernel) (aa (aU (az (K:=K) rfl) (pv 5) (pv 6) (fun _ _=>rfl)) (aa (aU (az (K:=K) rfl) (pv 5) (pv 7) (fun _ _=>rfl)) af))))
   (ag (gX (i:=3) aP.nd rfl rfl (N:=(["_law_goal","_law_a","_law_b"]:List Str)) (ix:=([none,some 8,some 9]:List (Option Nat))) (aT rfl rfl) rfl (a6 (K:=K) rfl (pv 3)) (fun _ _ _ _=>(aw (i:=0) (show List.Nodup (["_law_goal","_law_a","_law_b"]:List Str)from by decide+kernel) rfl (Or.inl rfl))) (fun _ _ _ _=>bc) (fun _ _ _ _=>(gJ hu (fY (bW (pv 1) (pv 2) (bW (pv 2) (pv 1) gj)) rfl rfl (by simp) (by decide)) (pv 0) (pv 0) ⟨rfl,rfl,rfl,rfl⟩)))
   (ag (cZ (bZ (K:=K) rfl PySem.F.plainAttrs_list PySem.F.slot_list_insert PySem.F.type_list_insert zT (pv 2) (aa ai (aa (fU (aa (pv 8) (aa (pv 9) af))) af))))
   (aj (gX (i:=4) aP.nd rfl rfl (N:=(["_law_some"]:List Str)) (ix:=([none]:List (Option Nat))) (aT rfl rfl) rfl (a6 (K:=K) rfl (au T.cU (hr.mono (by first|decide|lia)) rfl (aa (aF (bo (K:=K) rfl) rfl T.cu (by decide+kernel) (aa (pv 3) af)) af))) (fun _ _ _ _=>(aw (i:=0) (show List.Nodup (["_law_some"]:List Str)from by decide+kernel) rfl (Or.inl rfl))) (fun _ _ _ _=>(sE (ax jS (ak (aL (K:=K) rfl) rfl T.bE (by decide+kernel) (aa (pv 0) af)) ai (aG _)))) (fun _ _ _ _=>(pv 0))))))))))))
   (aj (ay (pv 2))))))),?_⟩
  have big:(10000000:Nat)<=M5:=by decide
  refine⟨MT _,fun lw flw=>?_⟩;have sw:=ah.new (o:= .lst []) flw;refine⟨_,rfl,t,_,rfl,.inr (dI.of (sw _ _ ht)),fun lg flg=>?_⟩;have sg:=ah.new (o:= .lst (xs.map V.int)) flg;have fg0:H lg=none:=sw.free flg;have npw:p≠lw:=pu.ne flw;have npg:p≠lg:=pu.ne fg0;have ngw:lw≠lg:=ao (ae (H:=H) (a:=lw) (o:= .lst [])) flg;have hw1:=sg _ _ (ae (H:=H) (a:=lw) (o:= .lst []));have hg1:=ae (H:=upd H lw (.lst [])) (a:=lg) (o:= .lst (xs.map V.int));have s1:=sw.trans sg;generalize upd (upd H lw (.lst [])) lg (.lst (xs.map V.int))=H1 at hw1 hg1 s1 sg⊢;have pu1:=pu.keep s1;refine⟨_,rfl,lg,_,rfl,.inl ⟨aJ.of hg1,fun tg ftg=>?_⟩⟩;have zt:=ah.new (o:= .tup (xs.map V.int)) ftg;refine⟨tg,n,xs,rfl,ae,o,by lia,fun lr wr Hr flr hlr xr frr nlr zr=>⟨lr,rfl,⟨_,aJ.of hlr⟩,?_⟩⟩;have wl:=xr.length;have rl:=sr (n:=n) (xs:=xs) (by lia);refine rD (K:=K) (a:=lr) (xs:=wr) (k:=0) (fun i zs σ' H''=>(∃v,σ'=[v])/\H''=Hr/\zs.Sublist (wr.take i)/\bX Hr zs (((bT n xs).take i).filter i8)) (by lia) ⟨⟨none,rfl⟩,rfl,List.nil_sublist _,.nil⟩ (fun i zs σ' H'' _ q=>by rw[q.2.1];exact aJ.of hlr) (fun i zs σ' H'' q=>by have:=q.2.2.1.length_le;rw[MB]at this;lia) ?_ ?_
  .rintro i zs σ' H'' x R hx ⟨⟨v,rfl⟩,rfl,sb,lx⟩ done
   obtain⟨a,ns,rfl,ha,hns⟩:=xr.get hx;have et:((bT n xs).take (i+1)).filter i8=((bT n xs).take i).filter i8++[ns].filter i8:=by rw[MO,hns,List.filter_append];rfl
   have es':wr.take (i+1)=wr.take i++[V.ref a]:=by rw[MO,hx];rfl
   refine⟨_,rfl,a,_,rfl,.inl (aJ.of ha),_,_,rfl,rfl,_,rfl,cN (fun c=>?_) (fun c=>?_)⟩
   .have c:i8 ns=true:=by
     have:=of_decide_eq_true c;rw[Mu]at this;exact decide_eq_true (by lia)
    refine⟨_,rfl,done _ _ _ ⟨⟨_,rfl⟩,rfl,?_,?_⟩⟩
    .rw[es'];exact sb.append (List.Sublist.refl _)
    .rw[et,List.filter_cons,if_pos c];exact lx.snoc ha
   .have c:i8 ns=false:=by
     have c:(ns.length:Int)<=1:=by simpa using c
     exact decide_eq_false (by lia)
    refine done _ _ _ ⟨⟨_,rfl⟩,rfl,?_,?_⟩
    .rw[es'];exact sb.trans (List.sublist_append_left _ _)
    .rw[et,List.filter_cons,if_neg (by rw[c];exact MU)];rw[List.filter_nil,MN];exact lx
  rintro zs σ' H'' ll ⟨⟨v,rfl⟩,rfl,sb,lx⟩ fll;rw[MI (by lia)]at lx sb;have zl:=ah.new (o:= .lst zs) fll;have zall:=zt.trans (zr.trans zl);have pz:∀v,v∈zs->∃a,v=V.ref a/\H1 a=none:=fun v hv=>by
   obtain⟨a,e,h⟩:=frr.2 v (sb.subset hv);exact⟨a,e,zt.free h⟩
  have fll0:H1 ll=none:=(zt.trans zr).free fll;have hll:upd H'' ll (.lst zs) ll=some (.lst zs):=ae;have lx2:=lx.keep zl;generalize upd H'' ll (.lst zs)=HL at zall hll lx2⊢;clear zl zt zr fll lx sb frr nlr xr hlr flr ftg;refine⟨WI p t lw c n xs H,⟨_,lg,ll,zs,xs,[],[],_,_,_,_,_,rfl,rfl,(s1.trans zall).x,zall _ _ hw1,.nil,(fun e he=>(by cases he)),zall _ _ hg1,ngw,npg,o,?_,rfl,hll,fun z=>?_,lx2,fun z=>?_,pu1.keep zall⟩,?_⟩
  .exact List.map_id' xs
  .subst z;obtain⟨_,e⟩:=pu1.at;rw[fll0]at e;cases e
  .obtain⟨a,e,h⟩:=pz _ z
   cases e;obtain⟨_,e⟩:=pu1.at;rw[h]at e;cases e
  clear hll lx2 pz zall HL fll0 ll zs hg1 hw1 sg s1 pu1 H1 npg ngw fg0 flg lg;rintro m σ H1 ⟨lg,lf,zs,gs,es,row,v5,v6,v7,v8,v9,rfl,rfl,s1,hw1,xe1,gr,hg1,ngw,npg,og,hgo,hcnt,hf1,npf,xz1,nz,pu1⟩;have cl:=xO n gs;have rl50:=sr (n:=n) (xs:=gs) (by lia);have zl:=xz1.length;have fle:=List.length_filter_le i8 (bT n gs);refine⟨_,rfl,lf,_,rfl,.inl (aJ.of hf1),_,_,rfl,rfl,_,rfl,cN (fun c1=>?_) (fun c1=>?_)⟩
  .have c1:0<zs.length:=by have:=of_decide_eq_true c1;lia
   refine⟨fun σ' H'=>∃m',m'<n.toNat-cnt n gs/\WI p t lw c n xs H m' σ' H',fun σ' H' z=>z,?_⟩;refine⟨_,rfl,_,rfl,_,rfl,lf,_,rfl,.inl (aJ.of hf1),p,_,_,rfl,pu1,by lia,by lia,by lia,fun r1 H2 r10 r11 pu2 s2=>?_⟩;have xz2:bX H2 zs ((bT n gs).filter i8):=xz1.gM fun hb e=>s2 _ _ (fun z=>nz (z▸hb)) e;obtain⟨y,hy⟩:∃y,zs[r1.toNat]?=some y:=⟨_,Mx (by lia)⟩;obtain⟨sa,r,rfl,ha2,hrr⟩:=xz2.get hy;have nsp:sa≠p:=fun z=>nz (z▸MF hy);have hrm:=List.mem_filter.mp (MF hrr);have r1l:1<r.length:=of_decide_eq_true hrm.2;have r50:=BA og (by lia) hrm.1;refine⟨lf,_,_,_,rfl,rfl,aJ.of (s2 _ _ npf.symm hf1),kT r10 hy,?_⟩;refine⟨_,rfl,_,rfl,sa,_,rfl,.inl (aJ.of ha2),p,_,_,rfl,pu2,by lia,by rw[Mu];lia,by rw[Mu];lia,fun r2 H3 r20 r21 pu3 s3=>?_⟩;rw[Mu]at r21;have ha3:=s3 _ _ nsp ha2;refine⟨_,rfl,_,_,rfl,rfl,_,rfl,_,rfl,sa,_,rfl,.inl (aJ.of ha3),_,_,rfl,rfl,p,_,_,rfl,pu3,by lia,by rw[Mu];lia,by rw[Mu];lia,fun r3 H4 r30 r31 pu4 s4=>?_⟩;rw[Mu]at r31;have ha4:=s4 _ _ nsp ha3;refine⟨_,_,rfl,rfl,_,rfl,sa,_,rfl,.inl (aJ.of ha4),_,_,rfl,rfl,(by show(0:Int)<((r.map V.int).length:Int);rw[Mu];lia),?_⟩;obtain⟨io,hio⟩:∃io:Int,(r2+1+r3)%((r.map V.int).length:Int)=io:=⟨_,rfl⟩;have q:=Hu r20 r21 r30 r31;rw[Mu]at hio;rw[hio]at q;rw[Mu];show cF 7 (V.int ((r2+1+r3)%(r.length:Int))) _ _ _;rw[hio];obtain⟨x,hx⟩:=iW (ns:=r) (k:=r2.toNat) (by lia);obtain⟨y,hy'⟩:=iW (ns:=r) (k:=io.toNat) (by lia);obtain⟨md,hmd,em⟩:∃md,md∈(bK 1 (n+1)).filter (least gs)/\cq gs md=r:=by
    have:=hrm.1;unfold bT at this;obtain⟨md,h1,h2⟩:=List.mem_map.mp this;exact⟨md,h1,h2⟩
   have mb:=bj.mp (List.mem_filter.mp hmd).1;have xne:x≠y:=fun z=>by
    subst z;have nd:=mx og mb.1 (by lia:md<=n);rw[em]at nd;obtain⟨b1,e1⟩:=List.getElem?_eq_some_iff.mp hx;obtain⟨b2,e2⟩:=List.getElem?_eq_some_iff.mp hy';have:=(List.getElem_inj nd).mp (e1.trans e2.symm);lia
   have tw:=Hh og mb.1 (by lia:md<=n) (by rw[em];exact MF hx) (by rw[em];exact MF hy') xne;refine⟨_,rfl,_,rfl,sa,_,_,_,rfl,rfl,aJ.of ha4,eY r20 hx,_,rfl,_,rfl,sa,_,_,_,rfl,rfl,aJ.of ha4,eY q.1 hy',_,_,rfl,?_⟩;refine⟨_,rfl,_,rfl,sa,_,_,_,rfl,rfl,aJ.of ha4,eY r20 hx,_,rfl,_,rfl,sa,_,_,_,rfl,rfl,aJ.of ha4,eY q.1 hy',_,_,rfl,?_⟩;obtain⟨ea,hea⟩:∃ea:Int,(if y<x then y else x)=ea:=⟨_,rfl⟩;obtain⟨eb,heb⟩:∃eb:Int,(if y>x then y else x)=eb:=⟨_,rfl⟩;rw[hea,heb]at tw;rw[hea,heb];obtain⟨g1,g2,g3,g4⟩:=tw;have s14:=s1.trans ((s2.trans s3).trans s4);have hg4:=s4 _ _ npg.symm (s3 _ _ npg.symm (s2 _ _ npg.symm hg1));have hw4:=s4 _ _ npw.symm (s3 _ _ npw.symm (s2 _ _ npw.symm hw1));have xe4:=aN.FY s4 pu3 (aN.FY s3 pu2 (aN.FY s2 pu1 xe1));have gl:=og.length;refine⟨_,rfl,lg,rfl,⟨_,aJ.of hg4⟩,jU (K:=K) (a:=lg) (xs:=gs.map V.int) (k:=0) (fun j ys σ' H'=>ys=((gs.take j).map (aQ · (ea,eb))).map V.int/\(∃v,σ'=[v,some (.int ea),some (.int eb)])/\ah H4 H') (by rw[Mu];lia) ⟨rfl,⟨none,rfl⟩,ah.refl _⟩ (fun j ys σ' H' _ z=>aJ.of (z.2.2 _ _ hg4)) (fun j ys σ' H' z=>by rw[z.1,Mu,Mu,MB];lia) ?_ ?_⟩
   .rintro j ys σ' H' v R hv ⟨rfl,⟨v0,rfl⟩,sj⟩ done
    obtain⟨z,rfl,hz⟩:=ku hv;refine fun pd fpd=>?_;refine⟨_,rfl,_,rfl,_,rfl,_,rfl,ae,[(Sum.inl ea,.int eb),(Sum.inl eb,.int ea)],rfl,(show 2<=15 by decide),pd,rfl,.inl ⟨_,.inl ae⟩,_,rfl,_,rfl,_,dg.k (k:=(Sum.inl z:Key)) ae,?_⟩;rw[gT ea eb z (by lia),xJ];refine done _ _ _ ⟨?_,⟨_,rfl⟩,sj.trans (ah.new fpd)⟩;rw[MO,hz,My,My];rfl
   rintro ys σ' H5 lg' ⟨rfl,⟨v0,rfl⟩,s5⟩ flg';rw[Mu,List.take_length];have og':=yi og g1 g2 g3;have cc:=HR og g1 g2 g3 g4;have nw5:lw≠lg':=ao (s5 _ _ hw4) flg';have np5:p≠lg':=(pu4.keep s5).ne flg';have fg':H lg'=none:=dw s14 np5 (s5.free flg');have s6:=s5.trans (ah.new (o:= .lst ((gs.map (aQ · (ea,eb))).map V.int)) flg');have hg6:upd H5 lg' (.lst ((gs.map (aQ · (ea,eb))).map V.int)) lg'=some (.lst ((gs.map (aQ · (ea,eb))).map V.int)):=ae;have hw6:=s6 _ _ hw4;have xe6:=xe4.keep (ah.bH s6);have pu6:=pu4.keep s6;have s06:=s14.trans s6.x;generalize upd H5 lg' (.lst ((gs.map (aQ · (ea,eb))).map V.int))=H6 at s6 hg6 hw6 xe6 pu6 s06⊢;clear s5 xe4 hw4 hg4 hg1 hw1;have el:=xe6.length;have cn:=xO n (gs.map (aQ · (ea,eb)));refine⟨_,rfl,.inl ⟨rfl,_,aJ.of hw6⟩,_,rfl,_,rfl,(by show 2<=M5;decide),fun te fte=>⟨lw,_,0,_,rfl,rfl,ah.new fte _ _ hw6,Int.le_refl _,by lia,by lia,?_⟩⟩;have st:=ah.new (o:= .tup [V.int ea,V.int eb]) fte;have npt:p≠te:=pu6.ne fte;have fte0:H te=none:=dw s06 npt fte;have tk:∀b ys,upd H6 te (.tup [V.int ea,V.int eb]) b=some (.tup ys)->upd (upd H6 te (.tup [V.int ea,V.int eb])) lw (.lst (es.take (0:Int).toNat++V.ref te::es.drop (0:Int).toNat)) b=some (.tup ys):=fun b ys e=>by
    rw[aq (Ce e (st _ _ hw6) (by intro z;cases z))];exact e
   have hw7:upd (upd H6 te (.tup [V.int ea,V.int eb])) lw (.lst (es.take (0:Int).toNat++V.ref te::es.drop (0:Int).toNat)) lw=some (.lst (V.ref te::es)):=ae;have hg7:upd (upd H6 te (.tup [V.int ea,V.int eb])) lw (.lst (es.take (0:Int).toNat++V.ref te::es.drop (0:Int).toNat)) lg'=some (.lst ((gs.map (aQ · (ea,eb))).map V.int)):=by rw[aq nw5.symm];exact st _ _ hg6
   have xe7:dD (upd (upd H6 te (.tup [V.int ea,V.int eb])) lw (.lst (es.take (0:Int).toNat++V.ref te::es.drop (0:Int).toNat))) (V.ref te::es) ((ea,eb)::row):= .cons (tk _ _ ae) ((xe6.keep (ah.bH st)).keep tk);have pu7:bD (upd (upd H6 te (.tup [V.int ea,V.int eb])) lw (.lst (es.take (0:Int).toNat++V.ref te::es.drop (0:Int).toNat))) p _:=(pu6.upd npt).upd npw;have s07:aN p H (upd (upd H6 te (.tup [V.int ea,V.int eb])) lw (.lst (es.take (0:Int).toNat++V.ref te::es.drop (0:Int).toNat))):=aN.put (aN.put s06 fte0) flw;generalize upd (upd H6 te (.tup [V.int ea,V.int eb])) lw (.lst (es.take (0:Int).toNat++V.ref te::es.drop (0:Int).toNat))=H7 at hw7 hg7 xe7 pu7 s07 tk⊢;clear tk;refine⟨_,rfl,lg',_,rfl,.inl ⟨aJ.of hg7,fun tg ftg=>?_⟩⟩;have zt:=ah.new (o:= .tup ((gs.map (aQ · (ea,eb))).map V.int)) ftg;refine⟨tg,n,(gs.map (aQ · (ea,eb))),rfl,ae,og',by lia,fun lr wr Hr flr hlr xr frr nlr zr=>⟨lr,rfl,⟨_,aJ.of hlr⟩,?_⟩⟩;have wl:=xr.length;have rl:=sr (n:=n) (xs:=(gs.map (aQ · (ea,eb)))) (by lia);refine rD (K:=K) (a:=lr) (xs:=wr) (k:=0) (fun i zs σ' H''=>(∃v,σ'=[v])/\H''=Hr/\zs.Sublist (wr.take i)/\bX Hr zs (((bT n (gs.map (aQ · (ea,eb)))).take i).filter i8)) (by lia) ⟨⟨none,rfl⟩,rfl,List.nil_sublist _,.nil⟩ (fun i zs σ' H'' _ q=>by rw[q.2.1];exact aJ.of hlr) (fun i zs σ' H'' q=>by have:=q.2.2.1.length_le;rw[MB]at this;lia) ?_ ?_
   .rintro i zs σ' H'' x R hx ⟨⟨v,rfl⟩,rfl,sb,lx⟩ done
    obtain⟨a,ns,rfl,ha,hns⟩:=xr.get hx;have et:((bT n (gs.map (aQ · (ea,eb)))).take (i+1)).filter i8=((bT n (gs.map (aQ · (ea,eb)))).take i).filter i8++[ns].filter i8:=by rw[MO,hns,List.filter_append];rfl
    have es':wr.take (i+1)=wr.take i++[V.ref a]:=by rw[MO,hx];rfl
    refine⟨_,rfl,a,_,rfl,.inl (aJ.of ha),_,_,rfl,rfl,_,rfl,cN (fun c=>?_) (fun c=>?_)⟩
    .have c:i8 ns=true:=by
      have:=of_decide_eq_true c;rw[Mu]at this;exact decide_eq_true (by lia)
     refine⟨_,rfl,done _ _ _ ⟨⟨_,rfl⟩,rfl,?_,?_⟩⟩
     .rw[es'];exact sb.append (List.Sublist.refl _)
     .rw[et,List.filter_cons,if_pos c];exact lx.snoc ha
    .have c:i8 ns=false:=by
      have c:(ns.length:Int)<=1:=by simpa using c
      exact decide_eq_false (by lia)
     refine done _ _ _ ⟨⟨_,rfl⟩,rfl,?_,?_⟩
     .rw[es'];exact sb.trans (List.sublist_append_left _ _)
     .rw[et,List.filter_cons,if_neg (by rw[c];exact MU)];rw[List.filter_nil,MN];exact lx
   rintro zs σ' H'' ll ⟨⟨v,rfl⟩,rfl,sb,lx⟩ fll;rw[MI (by lia)]at lx sb;have zl:=ah.new (o:= .lst zs) fll;have zall:=zt.trans (zr.trans zl);have pz:∀v,v∈zs->∃a,v=V.ref a/\H7 a=none:=fun v hv=>by
    obtain⟨a,e,h⟩:=frr.2 v (sb.subset hv);exact⟨a,e,zt.free h⟩
   have fll0:H7 ll=none:=(zt.trans zr).free fll;have hll:upd H'' ll (.lst zs) ll=some (.lst zs):=ae;have lx2:=lx.keep zl;generalize upd H'' ll (.lst zs)=HL at zall hll lx2⊢;clear zl zt zr fll lx sb frr nlr xr hlr flr ftg;refine⟨n.toNat-cnt n (gs.map (aQ · (ea,eb))),by lia,lg',ll,zs,gs.map (aQ · (ea,eb)),V.ref te::es,(ea,eb)::row,_,_,_,_,_,rfl,rfl,s07.trans zall.x,zall _ _ hw7,xe7.keep (ah.bH zall),?_,zall _ _ hg7,nw5,np5,og',?_,?_,hll,fun z=>?_,lx2,fun z=>?_,(pu7.keep zall).mono (by rw[Mz];lia) (by rw[Mz];lia)⟩
   .intro e he
    rcases List.mem_cons.mp he with rfl|he
    .exact⟨g1,g2,g3⟩
    .exact gr e he
   .rw[←hgo,MD]
    refine List.map_congr_left fun u _=>?_;show go row (aQ (aQ u (ea,eb)) (ea,eb))=go row u;rw[gk]
   .rw[cc,hcnt,Mz];lia
   .subst z;obtain⟨_,e⟩:=pu7.at;rw[fll0]at e;cases e
   .obtain⟨a,e,h⟩:=pz _ z
    cases e;obtain⟨_,e⟩:=pu7.at;rw[h]at e;cases e
  .have c1:zs=[]:=by simpa using c1
   subst c1;have em:(bT n gs).filter i8=[]:=by
    have:=xz1.length;rw[List.length_nil]at this;exact List.length_eq_zero_iff.mp this.symm
   have rB:=CI og fun r hr=>by
    have:¬i8 r=true:=List.filter_eq_nil_iff.mp em r hr;have:¬1<r.length:=fun z=>this (decide_eq_true z);lia
   have led:bp n row=xs:=by rw[←hgo,rB];rfl
   have cp:cnt n gs=n.toNat:=by
    rw[rB,←oj];exact cnt_nil (by lia)
   exact⟨_,rfl,k lw es row H1 flw hw1 xe1 gr led (by lia) (pu1.mono (by lia) (by lia)) s1⟩
end
def t9(n:Int)(R:List (Int×Int)):Prop:=(R.length:Int)=n-1/\bp n R=lG n
open Classical in
noncomputable def oF(R:List (Int×Int)):List Int:=if h:∃(es:List Int)(f:Int->Int),iM es f R/\es.length=R.length then h.choose else []
theorem yh{n:Int}{R:List (Int×Int)}(g:Good n R)(h:t9 n R):∃f,iM (oF R) f R/\(oF R).length=R.length:=by
 have e:n=(R.length:Int)+1:=by have:=h.1;lia
 obtain⟨es,f,a,b⟩:=wQ (by rw[←e];exact g) (by rw[←e];exact h.2);have h:∃(es:List Int)(f:Int->Int),iM es f R/\es.length=R.length:=⟨es,f,b,a⟩;unfold oF;rw[dif_pos h];exact h.choose_spec
open Classical in
noncomputable def cI(CG CB:MY)(word:Str)(n:Int)(xs:List Wd):Option (Except MY Str):=match xs with
 |[.row R]=>if Good n R/\R.length<=60 then(if word=Mt "tree"then some (if t9 n R then .ok (cX ((oF R).map aH))else .error CG)else if word=Mt "cars"then some (if t9 n R then .ok (cX ((R.map (·.1)).map aH))else .error CG)else none)else none
 |[.row R,.num j]=>if Good n R/\R.length<=60/\0<=j/\word=Mt "begun"then some (if t9 n R then(if j<n then .ok (HE (jT n (bp n (R.take j.toNat))))else .error CB)else .error CG)else none
 |_=>none
theorem iX.IV {L:dE}{CG CB:MY}(hL:L.ans=cI CG CB){word:Str}(hw:word≠Mt "begun"){vs:List V}{H:Hp}{Q:VK}{E:XK}(h:iX L word vs H Q E):∃(n:Int)(l b:MY)(es:List V)(R:List (Int×Int))(r:Except MY Str),vs=[.int n,.ref l]/\1<=n/\n<=12/\H l=some (.lst [.ref b])/\H b=some (.lst es)/\dD H es R/\Good n R/\R.length<=60/\cI CG CB word n [.row R]=some r/\
  (∀s,r= .ok s->∀H',ah H H'->Q (.str s) H')/\∀c,r= .error c->∀bb H',ah H H'->E (.ref c) bb H':=by
 obtain⟨n,l,us,xs,rfl,n1,n2,hl,hw',h⟩:=h;rw[hL]at h;have hx:∃r,cI CG CB word n xs=some r:=by
  rcases h with⟨s,e,_⟩|⟨c,e,_⟩
  .exact⟨_,e⟩
  .exact⟨_,e⟩
 obtain⟨r,er⟩:=hx;have kk:(∀s,r= .ok s->∀H',ah H H'->Q (.str s) H')/\∀c,r= .error c->∀bb H',ah H H'->E (.ref c) bb H':=by
  refine⟨fun s z=>?_,fun c z=>?_⟩
  .rcases h with⟨s',e,k⟩|⟨c,e,k⟩
   .rw[er,z]at e;cases e;exact k
   .rw[er,z]at e;cases e
  .rcases h with⟨s',e,k⟩|⟨c,e,k⟩
   .rw[er,z]at e;cases e
   .rw[er,z]at e;cases e;exact k
 have er0:=er;unfold cI at er
 split at er
 .rename_i R
  split at er
  .rename_i c
   cases hw' with
   |cons w1 hw'=>cases hw' with
    |nil=>
     obtain⟨b,es,rfl,hb,xe⟩:=w1;exact⟨n,l,b,es,R,r,rfl,n1,n2,hl,hb,xe,c.1,c.2,er0,kk⟩
  .cases er
 .rename_i R j
  rw[if_neg (fun z=>hw z.2.2.2)]at er;cases er
 .cases er
theorem iX.KZ {L:dE}{CG CB:MY}(hL:L.ans=cI CG CB){vs:List V}{H:Hp}{Q:VK}{E:XK}(h:iX L "begun" vs H Q E):∃(n j:Int)(l b:MY)(es:List V)(R:List (Int×Int)),vs=[.int n,.ref l]/\1<=n/\n<=12/\0<=j/\H l=some (.lst [.ref b,.int j])/\H b=some (.lst es)/\dD H es R/\Good n R/\R.length<=60/\
  (t9 n R->j<n->∀H',ah H H'->Q (.str (HE (jT n (bp n (R.take j.toNat))))) H')/\(t9 n R->¬j<n->∀bb H',ah H H'->E (.ref CB) bb H')/\(¬t9 n R->∀bb H',ah H H'->E (.ref CG) bb H'):=by
 obtain⟨n,l,us,xs,rfl,n1,n2,hl,hw',h⟩:=h;rw[hL]at h;have hx:∃r,cI CG CB (Mt "begun") n xs=some r:=by
  rcases h with⟨s,e,_⟩|⟨c,e,_⟩
  .exact⟨_,e⟩
  .exact⟨_,e⟩
 obtain⟨r,er⟩:=hx;have kk:(∀s,r= .ok s->∀H',ah H H'->Q (.str s) H')/\∀c,r= .error c->∀bb H',ah H H'->E (.ref c) bb H':=by
  refine⟨fun s z=>?_,fun c z=>?_⟩
  .rcases h with⟨s',e,k⟩|⟨c,e,k⟩
   .rw[er,z]at e;cases e;exact k
   .rw[er,z]at e;cases e
  .rcases h with⟨s',e,k⟩|⟨c,e,k⟩
   .rw[er,z]at e;cases e
   .rw[er,z]at e;cases e;exact k
 unfold cI at er
 split at er
 .rw[if_neg (by decide+kernel:¬Mt "begun" =Mt "tree"),if_neg (by decide+kernel:¬Mt "begun" =Mt "cars")]at er
  split at er<;>cases er
 .rename_i R j
  split at er
  .rename_i c
   cases er
   cases hw' with
   |cons w1 hw'=>cases hw' with
    |cons w2 hw'=>cases hw' with
     |nil=>
      obtain⟨b,es,rfl,hb,xe⟩:=w1;cases(show _=V.int j from w2);refine⟨n,j,l,b,es,R,rfl,n1,n2,c.2.2.1,hl,hb,xe,c.1,c.2.1,fun g l=>kk.1 _ ?_,fun g l=>kk.2 _ ?_,fun g=>kk.2 _ (if_neg g)⟩
      .rw[if_pos g,if_pos l]
      .rw[if_pos g,if_neg l]
  .cases er
 .cases er
def FO(CG:MY):Sp:=fun vs H Q E=>∃(n:Int)(l:MY)(es:List V)(R:List (Int×Int)),vs=[.int n,.ref l]/\H l=some (.lst es)/\dD H es R/\R.length<=60/\((R.length:Int)=n-1->Q .de H)/\((R.length:Int)≠n-1->E (.ref CG) none H)
structure Lm(mg:Str->Option MX)(K:W.Frag)(CG:MY):Prop extends T1 mg K where
 cL:mg "NotGreat" =some (.ref CG)
 fP:j4 K CG
structure ED(P:M0)(w:M3)(K:W.Frag)(mg:Str->Option MX)(base:Nc)(CG CB:MY):Prop extends T1 mg K where
 dX:mg "str" =none
 dA:eV P w K mg base "check_great_of" 1 ["n","row"] (FO CG)
 qO:eV P w K mg base "tree_of" 5 ["row"] (qk CG)
 qv:eV P w K mg base "cars_of" 5 ["row"] (qD CG)
 kP:eV P w K mg base "beginnings" 5 ["row"] (C4 CG)
 cT:FnAt P w K mg base "with_commas" 1 ["words"] D6
 pk:Bc P w K mg base "one_word" 1 ["text"] Ji
 jh:FnAt P w K mg base "show_sharing" 2 ["sharing"] vd
 dv:mg "NoBound" =some (.ref CB)
 gW:j4 K CB
section
variable{P:M0}{w:M3}{K:W.Frag}{mg:Str->Option MX}{base:Nc}{CG CB:MY}{L:dE}
theorem kL:aA ["n","row"] ["n","row"] (ar (top 105)):=⟨rfl,rfl,rfl,by decide+kernel,rfl,by decide+kernel,by decide+kernel⟩
theorem Hx{f:MY}{fd:Nb}(F:dO K "check_great_of" "check_great_of" (top 105) f fd)(T:Lm mg K CG):aR P w K mg base (i3 P w) 1 f fd ["n","row"] (FO CG):=by
 refine F.Aa kL (fun vs H Q E h=>?_) (fun cdv A outer s H vs Q E hr h=>?_)
 .obtain⟨n,l,es,R,rfl,_⟩:=h
  rfl
 .obtain⟨n,l,es,R,rfl,hl,xe,l60,kY,kN⟩:=h
  refine⟨_,(aj (a8 (ax iH (ak (aL (K:=K) rfl) rfl T.bE (by decide+kernel) (aa (pv 1) af)) (av bU (pv 0) ai) (aG _)) (aj (dP pU T.fP rfl rfl T.cL (aa aK af))) aE)),?_⟩;have el:=xe.length;refine⟨_,rfl,l,_,rfl,.inl (aJ.of hl),_,rfl,_,_,rfl,rfl,rfl,_,rfl,cN (fun c=>?_) (fun c=>?_)⟩
  .exact⟨by decide,kN fun z=>by simp[el,z]at c⟩
  .exact kY (by simpa [el]using c)
theorem DX{H:Hp}{l:MY}{ns:List Int}{σ:St}{C:V->Hp->Prop}(hl:H l=some (.lst (ns.map V.int)))(hn:ns.length<=100)(bd:∀i∈ns,0<=i/\i<1000)(k:∀q H',H' q=some (.lst ((ns.map aH).map V.str))->ah H H'->C (.ref q) H'):
  fz [none] (cF 0) dS (GL (fun xs H Q=>∃i,xs=[V.int i]/\i.natAbs.log2<1920/\Q (V.str (Mt (toString i))) H) (dN (gY 0) iO)) σ C (Dd K l) H:=by
 refine jU (K:=K) (a:=l) (xs:=ns.map V.int) (k:=0) (fun i ys σ' H'=>ys=((ns.take i).map aH).map V.str/\(∃v0,σ'=[v0])/\H'=H) (by rw[Mu];lia) ⟨rfl,⟨none,rfl⟩,rfl⟩ (fun i ys σ' H' _ q=>by rw[q.2.2];exact aJ.of hl) (fun i ys σ' H' q=>by rw[q.1,Mu,Mu,MB];lia) ?_ ?_
 .rintro i ys σ' H' x R' hx ⟨rfl,⟨v0,rfl⟩,rfl⟩ done
  obtain⟨z,rfl,hz⟩:=ku hx;have zb:=bd z (MF hz);refine⟨_,rfl,z,rfl,fE (by lia) (by lia),done _ _ _ ⟨?_,⟨_,rfl⟩,rfl⟩⟩;rw[bh aH hz,My];rfl
 .rintro ys σ' H' q ⟨rfl,⟨v0,rfl⟩,rfl⟩ fq
  rw[MI (by rw[Mu];exact MP _)];exact k q _ ae (ah.new fq)
theorem Jl{H:Hp}{q:MY}{ns:List Int}{Q:VK}(h:H q=some (.lst ((ns.map aH).map V.str)))(hn:ns.length<=100)(bd:∀i∈ns,0<=i/\i<1000)(k:Q (.str (cX (ns.map aH))) H):D6 [.ref q] H Q E0:=
 ⟨q,ns.map aH,rfl,h,by rw[Mu];exact hn,fun w hw=>by
  obtain⟨z,hz,rfl⟩:=List.mem_map.mp hw;have zb:=bd z hz;have:=dC (i:=z) (by lia) (by lia);lia,k⟩
theorem sN:aA ["n","given"] ["n","given"] (ar (top 106)):=⟨rfl,rfl,rfl,by decide+kernel,rfl,by decide+kernel,by decide+kernel⟩
theorem Bu{f:MY}{fd:Nb}(F:dO K "show_tree" "show_tree" (top 106) f fd)(hL:L.ans=cI CG CB)(T:ED P w K mg base CG CB):aR P w K mg base (i3 P w) 7 f fd ["n","given"] (iX L "tree"):=by
 refine F.Aa sN (fun vs H Q E h=>?_) (fun cdv A outer s H vs Q E hr h=>?_)
 .obtain⟨n,l,us,xs,rfl,_⟩:=h
  rfl
 .obtain⟨n,l,b,es,R,r,rfl,n1,n2,hl,hb,xe,g,l60,er,kY,kN⟩:=h.IV hL (by decide)
  refine⟨_,(ag (cZ (bG T.dA eT (hr.mono (by decide)) rfl (aa (pv 0) (aa (aU (az (K:=K) rfl) (pv 1) ai (fun _ _=>rfl)) af))))
   (aj (ay (au T.cT (hr.mono (by first|decide|lia)) rfl (aa (bw (N:=(["elder"]:List Str)) (ix:=([none]:List (Option Nat))) (aT rfl rfl) rfl (a6 (K:=K) rfl (bG T.qO eT (hr.mono (by decide)) rfl (aa (aU (az (K:=K) rfl) (pv 1) ai (fun _ _=>rfl)) af))) (fun _ _ _ _=>(aw (i:=0) (show List.Nodup (["elder"]:List Str)from by decide+kernel) rfl (Or.inl rfl))) (fun _ _ _ _=>bc) (fun _ _ _ _=>(aF bJ rfl T.dX (by decide+kernel) (aa (pv 0) af)))) af))))),?_⟩
  unfold cI at er;simp only[g,l60,and_self,if_true]at er;cases er;refine⟨_,rfl,_,rfl,l,_,0,_,rfl,rfl,aJ.of hl,aZ (j:=0) rfl,n,b,es,R,rfl,hb,xe,l60,fun ln=>?_,fun ln=>kN _ (if_neg fun z=>ln z.1) none H (ah.refl _)⟩;have en:n=(R.length:Int)+1:=by lia
  refine⟨_,rfl,l,_,0,_,rfl,rfl,aJ.of hl,aZ (j:=0) rfl,b,es,R,rfl,hb,xe,by lia,fun gr=>?_,fun gr H' sm=>kN _ (if_neg fun z=>gr (by rw[←en];exact z.2)) none H' sm⟩;have gR:t9 n R:=⟨ln,by rw[en];exact gr⟩;obtain⟨f',ht,hlen⟩:=yh g gR;refine⟨_,f',ht,hlen,fun l1 H1 f1 h1 s1=>?_⟩;have kY:=kY _ (if_pos gR);have bd:∀i∈oF R,0<=i/\i<1000:=fun i hi=>by
   have:=ht.tree.K8 i hi;lia
  generalize oF R=ns at h1 kY bd hlen;exact⟨l1,rfl,⟨_,aJ.of h1⟩,DX h1 (by lia) bd fun q H2 h2 s2=>Jl h2 (by lia) bd (kY _ (s1.trans s2))⟩
theorem rO:aA ["n","given"] ["n","given"] (ar (top 107)):=⟨rfl,rfl,rfl,by decide+kernel,rfl,by decide+kernel,by decide+kernel⟩
theorem Az{f:MY}{fd:Nb}(F:dO K "show_cars" "show_cars" (top 107) f fd)(hL:L.ans=cI CG CB)(T:ED P w K mg base CG CB):aR P w K mg base (i3 P w) 7 f fd ["n","given"] (iX L "cars"):=by
 refine F.Aa rO (fun vs H Q E h=>?_) (fun cdv A outer s H vs Q E hr h=>?_)
 .obtain⟨n,l,us,xs,rfl,_⟩:=h
  rfl
 .obtain⟨n,l,b,es,R,r,rfl,n1,n2,hl,hb,xe,g,l60,er,kY,kN⟩:=h.IV hL (by decide)
  refine⟨_,(ag (cZ (bG T.dA eT (hr.mono (by decide)) rfl (aa (pv 0) (aa (aU (az (K:=K) rfl) (pv 1) ai (fun _ _=>rfl)) af))))
   (aj (ay (au T.cT (hr.mono (by first|decide|lia)) rfl (aa (bw (N:=(["number"]:List Str)) (ix:=([none]:List (Option Nat))) (aT rfl rfl) rfl (a6 (K:=K) rfl (bG T.qv eT (hr.mono (by decide)) rfl (aa (aU (az (K:=K) rfl) (pv 1) ai (fun _ _=>rfl)) af))) (fun _ _ _ _=>(aw (i:=0) (show List.Nodup (["number"]:List Str)from by decide+kernel) rfl (Or.inl rfl))) (fun _ _ _ _=>bc) (fun _ _ _ _=>(aF bJ rfl T.dX (by decide+kernel) (aa (pv 0) af)))) af))))),?_⟩
  unfold cI at er;simp only[g,l60,and_self,if_true]at er;rw[if_neg (by decide)]at er;cases er;refine⟨_,rfl,_,rfl,l,_,0,_,rfl,rfl,aJ.of hl,aZ (j:=0) rfl,n,b,es,R,rfl,hb,xe,l60,fun ln=>?_,fun ln=>kN _ (if_neg fun z=>ln z.1) none H (ah.refl _)⟩;have en:n=(R.length:Int)+1:=by lia
  refine⟨_,rfl,l,_,0,_,rfl,rfl,aJ.of hl,aZ (j:=0) rfl,b,es,R,rfl,hb,xe,by lia,fun gr=>?_,fun gr H' sm=>kN _ (if_neg fun z=>gr (by rw[←en];exact z.2)) none H' sm⟩;have gR:t9 n R:=⟨ln,by rw[en];exact gr⟩;refine fun l1 H1 f1 h1 s1=>?_;have kY:=kY _ (if_pos gR);have bd:∀i∈R.map (·.1),0<=i/\i<1000:=fun i hi=>by
   obtain⟨e,he,rfl⟩:=List.mem_map.mp hi;have:=g e he;lia
  have hlen:(R.map (·.1)).length=R.length:=Mu _;generalize R.map (·.1)=ns at h1 kY bd hlen;exact⟨l1,rfl,⟨_,aJ.of h1⟩,DX h1 (by lia) bd fun q H2 h2 s2=>Jl h2 (by lia) bd (kY _ (s1.trans s2))⟩
theorem jR:aA ["n","given","begun"] ["n","given"] (ar (top 108)):=⟨rfl,rfl,rfl,by decide+kernel,rfl,by decide+kernel,by decide+kernel⟩
theorem zV{f:MY}{fd:Nb}(F:dO K "show_begun" "show_begun" (top 108) f fd)(hL:L.ans=cI CG CB)(T:ED P w K mg base CG CB):iD P w K mg base (i3 P w) 7 f fd ["n","given"] (iX L "begun"):=by
 refine F.LG jR (fun vs H Q E h=>?_) (fun cdv A outer s H vs Q E hr h=>?_)
 .obtain⟨n,l,us,xs,rfl,_⟩:=h
  rfl
 .obtain⟨n,j,l,b,es,R,rfl,n1,n2,j0,hl,hb,xe,g,l60,kY,kB,kN⟩:=h.KZ hL
  refine⟨_,(cz (QS.of (cZ (bG T.dA eT (hr.mono (by decide)) rfl (aa (pv 0) (aa (aU (az (K:=K) rfl) (pv 1) ai (fun _ _=>rfl)) af)))))
   (cz (QS.of (aC (i:=2) jR.nd rfl (Or.inl rfl) (bG T.kP eT (hr.mono (by decide)) rfl (aa (aU (az (K:=K) rfl) (pv 1) ai (fun _ _=>rfl)) af))))
   (cz (QS.of (a8 (ax Ga (aU (az (K:=K) rfl) (pv 1) ai (fun _ _=>rfl)) (pv 0) (aG _)) (aj (dP pU T.gW rfl rfl T.dv (aa aK af))) aE))
   (nN (rh (sh T.pk eT (hr.mono (by decide)) rfl (nK (QE.of (au T.jh (hr.mono (by first|decide|lia)) rfl (aa (aU (az (K:=K) rfl) (pv 2) (aU (az (K:=K) rfl) (pv 1) ai (fun _ _=>rfl)) (fun _ _=>rfl)) af))) wy))))))),?_⟩
  refine⟨_,rfl,_,rfl,l,_,0,_,rfl,rfl,aJ.of hl,aZ (j:=0) rfl,n,b,es,R,rfl,hb,xe,l60,fun ln=>?_,fun ln=>kN (fun z=>ln z.1) none H (ah.refl _)⟩;obtain rfl:n=(R.length:Int)+1:=by lia
  refine⟨_,rfl,l,_,0,_,rfl,rfl,aJ.of hl,aZ (j:=0) rfl,b,es,R,rfl,hb,xe,by lia,g,fun gr q ys H1 hq xq s1=>?_,fun gr H' sm=>kN (fun z=>gr z.2) none H' sm⟩;have gR:t9 ((R.length:Int)+1) R:=⟨by lia,gr⟩;have kY:=kY gR;have kB:=kB gR;refine⟨_,rfl,l,_,1,_,rfl,rfl,aJ.of (s1 _ _ hl),aZ (j:=1) rfl,_,rfl,_,_,rfl,rfl,_,rfl,cN (fun c=>?_) (fun c=>?_)⟩
  .exact⟨by decide,kB (by simpa using c) none H1 s1⟩
  have c:j<(R.length:Int)+1:=by simpa using c
  have hj:(uM R)[j.toNat]?=some (jT ((R.length:Int)+1) (bp ((R.length:Int)+1) (R.take j.toNat))):=by unfold uM;rw[Mv,List.getElem?_range (by lia)];rfl
  have hys:∃v,ys[j.toNat]?=some v/\KH H1 v (jT ((R.length:Int)+1) (bp ((R.length:Int)+1) (R.take j.toNat))):=by
   rcases Paired.at' j.toNat xq with⟨v,x,q1,q2,q3⟩|⟨q1,q2⟩
   .rw[hj]at q2;cases q2;exact⟨v,q1,q3⟩
   .rw[hj]at q2;cases q2
  obtain⟨v,hv,a,us,rfl,ha,hx⟩:=hys;have o:Ord ((R.length:Int)+1) (bp ((R.length:Int)+1) (R.take j.toNat)):=nM fun e he=>g e (List.mem_of_mem_take he);generalize bp ((R.length:Int)+1) (R.take j.toNat)=xs at o hx kY;have rf:=gN o;have sl:=ji (rs:=bT ((R.length:Int)+1) xs) fun r hr=>(rf.2.1 r hr).1;have oo:=FI o n1 n2;have ol:=oo.2.2.2;have sb:(jT ((R.length:Int)+1) xs).length<=12/\∀r∈jT ((R.length:Int)+1) xs,r.length<=12/\∀x∈r,0<=x/\x<10^9:=by
   unfold jT;rw[Mu];refine⟨by lia,fun r hr=>?_⟩;obtain⟨r0,h0,rfl⟩:=List.mem_map.mp hr;have:=je h0;refine⟨by rw[(dF r0).length_eq];lia,fun x hx=>?_⟩;have:=oo.2.2.1 r0 h0 x ((dF r0).mem_iff.mp hx);lia
  refine⟨_,rfl,_,rfl,l,_,1,_,rfl,rfl,aJ.of (s1 _ _ hl),aZ (j:=1) rfl,q,_,_,_,rfl,rfl,aJ.of hq,kT j0 hv,a,us,_,rfl,ha,hx,sb.1,sb.2,fun H2 s2=>?_⟩;have:=E4 sb.1 sb.2;refine⟨_,rfl,by lia,?_⟩;rw[HJ fun r hr x hx=>(sb.2 r hr|>.2 x hx).1];exact kY c _ (s1.trans s2)
end
section
open PySem PySem.Spec L2 PyProof.Rows
def K4(K:W.Frag)(ta tb:TE):TE:=fun σ H Q=>ta σ H fun x H1=>∃k,Gw K x H1 k/\if k=true then Q x H1 else tb σ H1 Q
theorem Gr{X}{a b:Expr}{rest:List Expr}{pos}{ta tb:TE}(ha:PE X a ta)(hb:PE X (.BoolOp .Or (b::rest) pos) tb):PE X (.BoolOp .Or (a::b::rest) pos) (K4 X.K ta tb):=by
 intro pins s σ H Q I h;refine BoolOp_or (aY (ha pins s σ H _ I h) fun v s1 ⟨x,H1,I1,r1,q1⟩=>?_);obtain⟨k,e,q1⟩:=q1;refine M9 (Hy pins s1 σ H1 x v (fun k' H'=>k'=k/\H'=H1) I1 r1 ⟨k,e,rfl,rfl⟩) ?_ (fun _ _ z=>z);rintro k' s2 ⟨H2,I2,rfl,rfl⟩
 cases k' with
 |true=>exact⟨x,H2,I2,r1,q1⟩
 |false=>exact hb pins s2 σ H2 Q I2 q1
end
section
variable{P:M0}{w:M3}{K:W.Frag}{mg:Str->Option MX}{base:Nc}
theorem di:aA ["_law_n","_law_row","_law_found","_law_thing","_law_goal","_law_a","_law_b"] ["_law_n","_law_row"] (ar (top 119)):=⟨rfl,rfl,rfl,by decide+kernel,rfl,by decide+kernel,by decide+kernel⟩
theorem E5{f:MY}{fd:Nb}(F:dO K "_law_led" "_law_led" (top 119) f fd)(T:T1 mg K):aR P w K mg base gh 1 f fd ["_law_n","_law_row"] Gb:=by
 refine F.ok di (fun vs H Q E h=>?_) (fun cdv A outer s H vs Q E hr h=>?_)
 .obtain⟨n,l,es,row,rfl,_⟩:=h
  rfl
 .obtain⟨n,l0,es,row,rfl,hn0,hn1,hl0,hx,hg,k⟩:=h
  have hu:=kJ hr;refine⟨_,(ag (aC (i:=2) di.nd rfl (Or.inl rfl) (bu af))
   (ag (fi PassesOwn.never rfl (gQ rfl T.bQ (aa ai (aa (av aS (pv 0) ai) af))) (aw (i:=3) di.nd rfl (Or.inl rfl)) (ag (aC (i:=4) di.nd rfl (Or.inl rfl) (pv 3))
   (ag (fi PassesOwn.never rfl (a6 (K:=K) rfl (pv 1)) (cx (K:=K) (n:=2) rfl rfl (aO (aw (i:=5) di.nd rfl (Or.inl rfl)) (aO (aw (i:=6) di.nd rfl (Or.inl rfl)) cy))) (aj (aC (i:=4) di.nd rfl (Or.inl rfl) (gJ hu (fY (bW (pv 5) (pv 6) (bW (pv 6) (pv 5) gj)) rfl rfl (by simp) (by decide)) (pv 4) (pv 4) ⟨rfl,rfl,rfl,rfl⟩))))
   (aj (cZ (bZ (K:=K) rfl PySem.F.plainAttrs_list PySem.F.slot_list_append PySem.F.type_list_append gU (pv 2) (aa (pv 4) af)))))))
   (aj (ay (aF (bo (K:=K) rfl) rfl T.cu (by decide+kernel) (aa (pv 2) af)))))),?_⟩
  refine⟨MT _,fun l hl=>?_⟩;refine⟨_,rfl,_,_,rfl,rfl,1,n+1,rfl,⟨by decide,by decide,by lia,by lia⟩,eL (fun i σ H'=>∃(v3 v4 v5 v6:Option V),σ=[some (.int n),some (.ref l0),some (.ref l),v3,v4,v5,v6]/\ah H H'/\H' l=some (.lst (((bK 1 (n+1)).take i).map fun x=>V.int (go row x))))
   ⟨none,none,none,none,rfl,ah.new hl,ae⟩ ?_ ?_⟩
  .rintro i σ H' hi ⟨v3,v4,v5,v6,rfl,s1,h1⟩
   refine⟨_,rfl,_,rfl,l0,rfl,⟨_,aJ.of (s1 _ _ hl0)⟩,lz (K:=K) (a:=l0) (xs:=es) (fun j σ H''=>∃(v5 v6:Option V),σ=[some (.int n),some (.ref l0),some (.ref l),some (.int (1+i)),some (.int (go (row.take j) (1+i))),v5,v6]/\ah H H''/\H'' l=some (.lst (((bK 1 (n+1)).take i).map fun x=>V.int (go row x))))
    ⟨v5,v6,rfl,s1,h1⟩ (fun j σ H'' _ ⟨_,_,_,s3,_⟩=>aJ.of (s3 _ _ hl0)) ?_ ?_⟩
   .rintro j y σ H'' hj ⟨v5,v6,rfl,s3,h3⟩
    obtain⟨te,a,b,rfl,hte,hrow⟩:=hx.get hj;have hab:a≠b:=by have:=hg (a,b) (MF hrow);simp only at this;lia
    refine⟨te,_,rfl,dI.of (s3 _ _ hte),rfl,_,_,rfl,_,_,rfl,rfl,fun p hp=>?_⟩;refine⟨_,rfl,_,rfl,_,rfl,_,rfl,ae,[(Sum.inl a,.int b),(Sum.inl b,.int a)],rfl,(show 2<=15 by decide),p,rfl,.inl ⟨_,.inl ae⟩,_,rfl,_,rfl,_,dg.k (k:=Sum.inl (go (row.take j) (1+i))) ae,?_⟩;have np:l≠p:=ao h3 hp;refine⟨some (.int a),some (.int b),?_,fun c o e=>?_,?_⟩
    .rw[gT _ _ _ hab,←xD hrow]
     rfl
    .have z:=s3 c o e
     rw[aq (ao z hp),aq (ao z hp)];exact z
    .rw[aq np,aq np];exact h3
   .rintro σ H'' ⟨v5,v6,rfl,s3,h3⟩
    rw[hx.length,List.take_length];refine⟨_,rfl,.inl ⟨rfl,_,aJ.of h3⟩,_,rfl,l,_,_,rfl,rfl,h3,?_,?_⟩
    .rw[Mu,MB,aB]
     have:(1000:Nat)<M5:=by decide
     lia
    .refine⟨_,_,_,_,rfl,fun c o e=>?_,?_⟩
     .rw[aq (ao e hl)];exact s3 c o e
     .rw[ae,bh (fun x=>V.int (go row x)) (bR hi)]
  .rintro σ H' ⟨v3,v4,v5,v6,rfl,s1,h1⟩
   have e:(bK 1 (n+1)).take ((n+1-1).toNat)=bK 1 (n+1):=MI (by rw[aB];exact MP _);rw[e]at h1;refine⟨_,rfl,l,_,rfl,.inl ⟨aJ.of h1,fun t ht=>?_⟩⟩;refine k t _ (s1.free ht) ?_ (s1.trans (ah.new ht));rw[ae];unfold bp;rw[MD];rfl
end
section
variable{P:M0}{w:M3}{K:W.Frag}{mg:Str->Option MX}{base:Nc}
theorem cA:aA ["_law_order_here","_law_found","_law_met","_law_first","_law_some"] ["_law_order_here"] (ar (top 120)):=⟨rfl,rfl,rfl,by decide+kernel,rfl,by decide+kernel,by decide+kernel⟩
theorem wN{f:MY}{fd:Nb}(F:dO K "_law_rounds" "_law_rounds" (top 120) f fd)(T:T1 mg K):aR P w K mg base gh 1 f fd ["_law_order_here"] fR:=by
 refine F.ok cA (fun vs H Q E h=>?_) (fun cdv A outer s H vs Q E hr h=>?_)
 .obtain⟨t,n,xs,rfl,_⟩:=h
  rfl
 .obtain⟨t,n,xs,rfl,ht,o,hn,k⟩:=h
  refine⟨_,(ag (aC (i:=1) cA.nd rfl (Or.inl rfl) (bu af))
   (ag (aC (i:=2) cA.nd rfl (Or.inl rfl) (bu af))
   (ag (fi PassesOwn.never rfl (gQ rfl T.bQ (aa ai (aa (av aS (ak (aL (K:=K) rfl) rfl T.bE (by decide+kernel) (aa (pv 0) af)) ai) af))) (aw (i:=3) cA.nd rfl (Or.inl rfl)) (aj (a8 (ax (y9 (K:=K) rfl) (pv 3) (pv 2) rfl) (ag (aC (i:=4) cA.nd rfl (Or.inl rfl) (bu (aa (pv 3) af)))
   (ag (iU PassesOwn.never (ax iH (aU (ju (K:=K) rfl) (pv 0) (av bU (aU (az (K:=K) rfl) (pv 4) (Fl A3 ai) (fun _ _=>rfl)) ai) (fun _ _=>rfl)) (pv 3) (aG _)) (aj (cZ (bZ (K:=K) rfl PySem.F.plainAttrs_list PySem.F.slot_list_append PySem.F.type_list_append gU (pv 4) (aa (aU (ju (K:=K) rfl) (pv 0) (av bU (aU (az (K:=K) rfl) (pv 4) (Fl A3 ai) (fun _ _=>rfl)) ai) (fun _ _=>rfl)) af)))))
   (ag (aC (i:=2) cA.nd rfl (Or.inl rfl) (av dM (pv 2) (pv 4)))
   (aj (cZ (bZ (K:=K) rfl PySem.F.plainAttrs_list PySem.F.slot_list_append PySem.F.type_list_append gU (pv 1) (aa (pv 4) af))))))) aE)))
   (aj (ay (pv 1)))))),?_⟩
  have ol:=o.length;have big:(10000000:Nat)<=M5:=by decide
  refine⟨MT _,fun lf hlf=>⟨MT _,fun lm hlm=>?_⟩⟩;have nfm:lf≠lm:=by intro z;subst z;rw[ae]at hlm;cases hlm
  have s1:ah H (upd H lf (.lst [])):=ah.new hlf;have s2:=s1.trans (ah.new (o:= .lst []) hlm);refine⟨_,rfl,t,_,rfl,.inr (dI.of (s2 _ _ ht)),_,_,rfl,rfl,1,_,rfl,⟨by decide,by decide,by lia,by rw[Mu];lia⟩,?_⟩;refine eL (fun i σ H'=>∃lm ws ms v3 v4,σ=[some (.ref t),some (.ref lf),some (.ref lm),v3,v4]/\ah H H'/\lf≠lm/\H' lf=some (.lst ws)/\H' lm=some (.lst (ms.map V.int))/\bX H' ws ((((bK 1 (n+1)).take i).filter (least xs)).map (cq xs))/\fB H ws/\V.ref lf∉ws/\ws.length<=i/\ms.length<=i*1000/\∀y,y∈ms↔∃m∈((bK 1 (n+1)).take i).filter (least xs),y∈cq xs m)
   ⟨lm,[],[],_,_,rfl,s2,nfm,by rw[aq nfm,ae],ae,.nil,fB.nil,by simp,MP _,MP _,by intro y;simp⟩ ?_ ?_
  .rintro i σ H' hi ⟨lm,ws,ms,v3,v4,rfl,s3,nfm,hf3,hm3,x3,fr3,nf3,wl,ml,mm⟩
   rw[Mu]at hi;have hi':(i:Int)<n:=by lia
   have ef:((bK 1 (n+1)).take (i+1))=(bK 1 (n+1)).take i++[1+(i:Int)]:=by rw[MO,bR (by lia)];rfl
   have b1:(1:Int)<=1+i:=by lia
   have b2:(1:Int)+i<=n:=by lia
   have ml2:=yZ o hi';refine⟨_,rfl,_,rfl,lm,_,rfl,.inl (aJ.of hm3),rfl,y0 ms,_,rfl,?_⟩;show if(!JT (.int (1+(i:Int))) (ms.map V.int))=true then _ else _
   rw[EG];refine cN (fun c=>?_) (fun c=>?_)
   .have c:¬(1+(i:Int))∈ms:=by simpa using c
    have hL:least xs (1+i)=true:=ml2.mpr (fun z=>c ((mm _).mpr z));refine⟨_,rfl,(by show 1<=M5;decide),fun la hla=>?_⟩;have fla:H la=none:=s3.free hla;have nfa:lf≠la:=ao hf3 hla;have nma:lm≠la:=ao hm3 hla;have pl:=wG o b1 b2;have naw:V.ref la∉ws:=fun z=>by
     obtain⟨ns,e⟩:=x3.mem z;rw[hla]at e;cases e
    refine⟨fun m σ H2=>∃j,m=eE xs (1+i)-j/\1<=j/\j<=eE xs (1+i)/\σ=[some (.ref t),some (.ref lf),some (.ref lm),some (.int (1+(i:Int))),some (.ref la)]/\H2=upd H' la (.lst (((List.range j).map fun k=>br (ld xs) k (1+i)).map V.int)),⟨_,1,rfl,MP _,by unfold eE;lia,rfl,rfl⟩,?_⟩;rintro m σ H2 ⟨j,rfl,j1,j2,rfl,rfl⟩;have ir:=bS o b1 b2 (j-1);have s4:ah H (upd H' la (.lst (((List.range j).map fun k=>br (ld xs) k (1+i)).map V.int))):=ah.put s3 fla;have gl:uu (((List.range j).map fun k=>br (ld xs) k (1+(i:Int))).map V.int) (-1)=some (.int (br (ld xs) (j-1) (1+i))):=by
     refine Du (k:=j-1) (by rw[Mu,List.length_range];lia) ?_;rw[Mv,List.getElem?_range (by lia)];rfl
    have gt:uu (xs.map V.int) (br (ld xs) (j-1) (1+i)-1)=some (.int (br (ld xs) j (1+i))):=by
     have q:=eY (ns:=xs) (i:=br (ld xs) (j-1) (1+i)-1) (by lia) (kc o ir.1 ir.2);rw[q];obtain⟨j',rfl⟩:∃j',j=j'+1:=⟨j-1,by lia⟩;rfl
    refine⟨_,rfl,_,rfl,1,rfl,la,_,_,_,rfl,rfl,aJ.of ae,gl,_,_,rfl,rfl,t,_,_,_,rfl,rfl,dI.of (s4 _ _ ht),gt,_,rfl,rfl,_,rfl,cN (fun c2=>?_) (fun c2=>?_)⟩
    .have c2:br (ld xs) j (1+i)≠1+(i:Int):=by simpa using c2
     have lt:j<eE xs (1+i):=by
      by_cases e:j=eE xs (1+i)
      .rw[e]at c2;exact absurd (lN o b1 b2) c2
      .lia
     refine⟨fun σ' H2=>σ'=[some (.ref t),some (.ref lf),some (.ref lm),some (.int (1+(i:Int))),some (.ref la)]/\H2=upd H' la (.lst (((List.range (j+1)).map fun k=>br (ld xs) k (1+i)).map V.int)),fun σ' H2 ⟨e1,e2⟩=>⟨_,(by show eE xs (1+i)-(j+1)<_;lia),j+1,rfl,by lia,by lia,e1,e2⟩,?_⟩;refine⟨_,rfl,.inl ⟨rfl,_,aJ.of ae⟩,_,rfl,_,rfl,1,rfl,la,_,_,_,rfl,rfl,aJ.of ae,gl,_,_,rfl,rfl,t,_,_,_,rfl,rfl,dI.of (s4 _ _ ht),gt,la,_,_,rfl,rfl,ae,by simp;lia,rfl,?_⟩;rw[xJ,List.range_succ,My,My];rfl
    .have c2:br (ld xs) j (1+i)=1+(i:Int):=by simpa using c2
     have e:j=eE xs (1+i):=by
      apply Classical.byContradiction;intro z;exact mv (by lia) (by lia) c2
     subst e;have hla4:upd H' la (.lst (((List.range (eE xs (1+i))).map fun k=>br (ld xs) k (1+i)).map V.int)) la=some (.lst ((cq xs (1+i)).map V.int)):=ae;have hf4:upd H' la (.lst (((List.range (eE xs (1+i))).map fun k=>br (ld xs) k (1+i)).map V.int)) lf=some (.lst ws):=by rw[aq nfa];exact hf3
     have hm4:upd H' la (.lst (((List.range (eE xs (1+i))).map fun k=>br (ld xs) k (1+i)).map V.int)) lm=some (.lst (ms.map V.int)):=by rw[aq nma];exact hm3
     have x4:=x3.keep (ah.new (o:= .lst (((List.range (eE xs (1+i))).map fun k=>br (ld xs) k (1+i)).map V.int)) hla);generalize upd H' la (.lst (((List.range (eE xs (1+i))).map fun k=>br (ld xs) k (1+i)).map V.int))=H4 at s4 hla4 hf4 hm4 x4⊢;have ol2:=hU xs (1+i);refine⟨_,rfl,_,rfl,lm,la,_,_,rfl,rfl,hm4,hla4,by rw[Mu,Mu];lia,fun l5 f5=>?_⟩;have nf5:lf≠l5:=ao hf4 f5;refine⟨_,rfl,.inl ⟨rfl,_,aJ.of (by rw[aq nf5];exact hf4)⟩,_,rfl,lf,_,_,rfl,rfl,(by rw[aq nf5];exact hf4),by lia,?_⟩;have s5:=s4.trans (ah.new (o:= .lst (ms.map V.int++(cq xs (1+i)).map V.int)) f5);refine⟨l5,ws++[.ref la],ms++cq xs (1+i),_,_,rfl,ah.put s5 hlf,nf5,ae,?_,?_,fr3.snoc x3 hla fla,?_,?_,?_,?_⟩
     .rw[aq nf5.symm,ae,My]
     .rw[ef,List.filter_append,My,List.filter_cons_of_pos hL]
      refine bX.off ((x4.keep (ah.new f5)).snoc (by rw[aq (ao hla4 f5)];exact hla4)) ?_;intro z;rcases List.mem_append.mp z with z|z
      .exact nf3 z
      .exact nfa (by simpa using z)
     .intro z
      rcases List.mem_append.mp z with z|z
      .exact nf3 z
      .exact nfa (by simpa using z)
     .rw[Mw,List.length_singleton];lia
     .rw[Mw];lia
     .intro y
      rw[ef,List.filter_append,List.filter_cons_of_pos hL,List.filter_nil,List.mem_append,mm];constructor
      .rintro(⟨m,h1,h2⟩|h)
       .exact⟨m,MK _ h1,h2⟩
       .exact⟨1+i,MJ _ (List.mem_singleton.mpr rfl),h⟩
      .rintro⟨m,h1,h2⟩
       rcases List.mem_append.mp h1 with z|z
       .exact .inl ⟨m,z,h2⟩
       .rw[List.mem_singleton.mp z]at h2;exact .inr h2
   .have c:(1+(i:Int))∈ms:=by simpa using c
    have hL:least xs (1+i)=false:=by
     cases e:least xs (1+(i:Int))with
     |false=>rfl
     |true=>exact absurd ((mm _).mp c) (ml2.mp e)
    have e2:((bK 1 (n+1)).take (i+1)).filter (least xs)=((bK 1 (n+1)).take i).filter (least xs):=by
     rw[ef,List.filter_append,List.filter_cons_of_neg (by rw[hL];decide),List.filter_nil,MN]
    refine⟨lm,ws,ms,_,_,rfl,s3,nfm,hf3,hm3,?_,fr3,nf3,by lia,by lia,?_⟩
    .rw[e2];exact x3
    .rw[e2];exact mm
  .rintro σ H' ⟨lm,ws,ms,v3,v4,rfl,s3,nfm,hf3,hm3,x3,fr3,nf3,wl,ml,mm⟩
   have e3:(bK 1 (n+1)).take (((xs.map V.int).length:Int)+1-1).toNat=bK 1 (n+1):=MI (by rw[aB,Mu];lia);rw[e3]at x3;exact⟨_,rfl,k lf ws H' hlf hf3 x3 fr3 nf3 s3⟩
end
end Sw
namespace L2
open PySem PySem.Spec PyProof.Rows PySem.W
def Kp(X:Cx)(hs:List ExceptHandler)(th:TH):Prop:=
 ∀(pins:List (MY×Obj))(s:MZ)(σ:St)(H:Hp)(D:Ends)(e:MY)(cls:MX)(bb:Option MY),lP X pins σ H s e cls bb->th D σ cls e H->Nf (model X.prog X.w) X.A (handleBy (.ref e) X.env hs) (SP X pins D) X.xe s
def Lh(K:Frag)(D:MY)(i:Nat)(ts:TS)(th:TH):TH:=fun Dn σ cls e H=>∃C b,cls= .ref C/\Gp K C D b/\
 if b=true then∀bb,ts {nx:=fun σ' H'=>Dn.nx (σ'.set i none) H',rt:=Dn.rt,bk:=fun σ' H'=>Dn.bk (σ'.set i none) H',ct:=fun σ' H'=>Dn.ct (σ'.set i none) H'} (σ.set i (some (.ref e))) (upd H e (.exc e C bb))else th Dn σ cls e H
def Je(tb:(St->XK)->TS)(th:TH):TS:=fun D σ H=>tb (fun σ' cls _ H'=>∀e,H' e=none->th D σ' cls e H') D σ H
section
variable{X:Cx}{hs:List ExceptHandler}{th:TH}{ts:TS}{D:MY}{x n:Str}{np pos:Pos}{b₀:Ng}{suite:List Ng}{i:Nat}
theorem D5:Kp X [] Jp:=fun _ _ _ _ _ _ _ _ _ h=>h.elim
theorem ze(hN:X.N.Nodup)(hi:X.N[i]?=some n)(hk:X.env.scope.names.lookup n=some .local)(hg:Gl X x)(hm:X.mg x=some (.ref D))(hb:∀e,qg (Xh X e) (b₀::suite) ts)(hr:Kp X hs th)(hdb:(x==("__debug__" :Str))=false:=by decide):
  Kp X (.ExceptHandler (some (.Name x np)) (some n) (b₀::suite) pos::hs) (Lh X.K D i ts th):=by
 intro pins s σ H Dn e cls bb hh h;obtain⟨C,b,rfl,m,h⟩:=h;have I:=hh.inv;refine wpAny_handleBy_cons (codeAny_handlers_test (jo (X:=Xh X e) (I.LD e) hg hm ?_ hdb)) (by intro q;cases q);refine uE m I.jr hh.LK ?_
 cases b with
 |false=>exact hr pins s σ H Dn e _ bb hh (by rw[if_neg MU]at h;exact h)
 |true=>
  rw[if_pos rfl]at h;refine codeAny_handlers_suite_as (hh.lands fun h' hh'=>?_);refine fK (X:=X) (v:= .ref e) hh'.xU hN hi (.inl hk) rfl (fun s2 I2=>?_) (.inr hk);refine M9 (hb e pins s2 _ _ _ (I2.LD e) (h bb)) (fun f s₃ z=>?_) fun _ _ z=>False.elim z;have z:=z.IA I.ok
  cases f with
  |next=>obtain⟨σ',H',J,q⟩:=z;exact nO J hN hi hk fun s' J'=>⟨_,H',J',q⟩
  |brk=>obtain⟨σ',H',J,q⟩:=z;exact nO J hN hi hk fun s' J'=>⟨_,H',J',q⟩
  |cont=>obtain⟨σ',H',J,q⟩:=z;exact nO J hN hi hk fun s' J'=>⟨_,H',J',q⟩
  |ret u=>obtain⟨v,σ',H',J,r,q⟩:=z;exact nO J hN hi hk fun s' J'=>⟨v,_,H',J',r,q⟩
end
section
variable{X:Cx}
theorem Ej{body:List Ng}{h₀:ExceptHandler}{hs:List ExceptHandler}{pos:Pos}{tb:(St->XK)->TS}{th:TH}(hb:∀pins Es,qg (Xt X pins Es) body (tb Es))(hh:Kp X (h₀::hs) th)
  (hst:X.stack=X.env::X.outer:=by rfl) (hfr:X.env.frame=some X.env.locals:=by rfl):PS X (.Try body (h₀::hs) [] [] pos) (Je tb th):=by
 intro pins s σ H D I h;refine wpAny_Try_except (M9 (hb pins _ [] s σ H D I.toT h) (fun f s₁ z=>?_) fun ev s₁ z=>?_)
 .have z:=z.ofT
  cases f with
  |next=>exact wpAny_execs_nil z
  |brk=>exact z
  |cont=>exact z
  |ret u=>exact z
 .obtain⟨σ',H₁,s₁',I',e,cls,a0,B,H',bb,rfl,os,bare,F,q⟩:=z
  have ff:=I'.ok.frames;have fl:=F.fl;rw[hst]at ff fl;refine qJ ff hfr fl F.lo fun h₄ held sm lo=>?_;refine jB (s:={s₁ with heap:=h₄}) held.1 held.2.1 held.2.2.1 held.2.2.2 lo fun h₅ fl5 sm5 lo5=>?_;have hd:lP X pins σ' H' {s₁ with heap:=h₅} e cls bb:=⟨H₁,s₁',B,a0,I',os,bare,F.move (by rw[hst];exact fl5) (sm.trans sm5) lo5⟩;exact hh pins _ σ' H' D e cls bb hd (q e hd.free)
end
section
variable{X:Cx}{K:W.Frag}
def Et:V->List V->Hp->VK->Prop:=fun x vs H Q=>∃(t:MY)(bs:List Bool)(b:Bool)(j:Nat),x= .ref t/\vs=[.bl b]/\H t=some (.lst (bs.map V.bl))/\bs[j]?=some b/\(∀m,m<j->bs[m]?≠some b)/\Q (.int (j:Int)) H
theorem zJ:Aw X "list.index" Et:=by
 intro pins s σ H x vs v us Q I rx rv h;obtain⟨l,bs,b,j,rfl,rfl,hH,hj,hno,q⟩:=h;cases rx;obtain⟨u,rfl,ru⟩:=rv.one;cases(show u=MX.bool b from ru);obtain⟨z,its,n,r,hl,e⟩:=I.o5 hH;have eq:=ik r;subst eq;have jl:j<(bs.map MX.bool).length:=by
  rw[Mu];exact(List.getElem?_eq_some_iff.mp hj).1
 have sz:(bs.map MX.bool).length<=M5:=by have:=r.length;lia
 refine call_meets F.slot_list_index ⟨_,e,rfl⟩ F.entry_list_index (F.args_list_index_2 _ _) (MeetsSeq.list_index l (bs.map MX.bool).toArray n (.bool b) (fun y=>y== .bool b) (fun y hy=>?_) j (by simpa using jl) ?_ ?_ ?_) ⟨e,?_⟩
 .obtain⟨c,_,rfl⟩:=List.mem_map.mp (Array.mem_def.mp hy)
  have:((MX.bool c==MX.bool b):Bool)=(c==b):=by cases c<;>cases b<;>rfl
  rw[this];exact fun prog w A E s Q hq=>(SeqAt.EqAt.bool_bool (A:=A) (s:=s) c b) prog w E Q hq
 .have:M5<2^63-1:=by decide
  lia
 .obtain⟨h1,h2⟩:=List.getElem?_eq_some_iff.mp hj
  simp[h2]
 .intro m hm lt
  have:=hno m lt;have hm':m<bs.length:=by simpa using hm
  rw[Mx hm']at this;simp;intro z;apply this;generalize bs[m]=c at z⊢;revert z;cases c<;>cases b<;>intro z<;>first|rfl|cases z
 .exact⟨.int (j:Int),H,I.tok _,⟨_,rfl⟩,q⟩
end
end L2
namespace Sw
open PySem L2
structure jD where
 (wR oE Apart fM n6 bf vM vP sy bz ip jf lK:MY)
structure LF(mg:Str->Option MX)(cl:jD):Prop where
 B5:mg "Unlike" =some (.ref cl.wR)
 vL:mg "NoRounds" =some (.ref cl.oE)
 Dp:mg "Apart" =some (.ref cl.Apart)
 gK:mg "NoMove" =some (.ref cl.fM)
 vT:mg "NotLeast" =some (.ref cl.n6)
 cL:mg "NotGreat" =some (.ref cl.bf)
 CP:mg "NoTree" =some (.ref cl.vM)
 Cz:mg "NoCars" =some (.ref cl.vP)
 zR:mg "NoChain" =some (.ref cl.sy)
 dv:mg "NoBound" =some (.ref cl.bz)
 cC:mg "NoText" =some (.ref cl.ip)
 i4:mg "NoName" =some (.ref cl.jf)
 uf:mg "StarError" =some (.ref cl.lK)
 aM:mg "isinstance" =none
 si:mg "ValueError" =none
def ub:List Str:=["Unlike","NoRounds","Apart","NoMove","NotLeast","NotGreat","NoTree","NoCars","NoChain","NoBound","NoText","NoName"]
structure hW(K:W.Frag)(cl:jD)(C:MY)(i:Nat):Prop where
 ei:uc K C
 em:Gp K C cl.lK true
 ve:W.kitOne K (.ref C) (.type "ValueError")=some true
 bs:∃b1 b2 b3 b4 b5 b6 b7 b8 b9 b10 b11 b12,W.kitOne K (.ref C) (.ref cl.wR)=some b1/\W.kitOne K (.ref C) (.ref cl.oE)=some b2/\W.kitOne K (.ref C) (.ref cl.Apart)=some b3/\
  W.kitOne K (.ref C) (.ref cl.fM)=some b4/\W.kitOne K (.ref C) (.ref cl.n6)=some b5/\W.kitOne K (.ref C) (.ref cl.bf)=some b6/\W.kitOne K (.ref C) (.ref cl.vM)=some b7/\
  W.kitOne K (.ref C) (.ref cl.vP)=some b8/\W.kitOne K (.ref C) (.ref cl.sy)=some b9/\W.kitOne K (.ref C) (.ref cl.bz)=some b10/\W.kitOne K (.ref C) (.ref cl.ip)=some b11/\
  W.kitOne K (.ref C) (.ref cl.jf)=some b12/\[b1,b2,b3,b4,b5,b6,b7,b8,b9,b10,b11,b12]=(List.range 12).map fun j=>decide (j=i)
 lt:i<12
theorem fk{C:MY}(u:MX)(r:RelV (.ref C) u):u= .ref C:=r
def vO(i:Nat):Str:=Mt "!" ++ub.getD i (Mt "")
theorem cM.same {C:MY}{H H':Hp}{a d:MY}{n:Int}{m:Kept}(h:cM C H a d n m)(s:ah H H'):cM C H' a d n m:=by
 obtain⟨dx,fs,kvs,ha,hf,hd,ne,km,ml⟩:=h;exact⟨dx,fs,kvs,s _ _ ha,hf,s _ _ hd,ne,km.same s,ml⟩
theorem JJ:∀i,i<12->((List.range 12).map fun j=>decide (j=i)).count true=1:=by decide
theorem KG:∀i,i<12->((List.range 12).map fun j=>decide (j=i))[i]?=some true/\(∀m,m<i->((List.range 12).map fun j=>decide (j=i))[m]?≠some true)/\(ub.map V.str)[i]?=some (V.str (ub.getD i (Mt "")))/\(Mt "!").length+(ub.getD i (Mt "")).length<=M5:=by
 intro i h;refine⟨?_,fun m hm=>?_,?_,?_⟩
 .rw[Mv,List.getElem?_range h];simp
 .rw[Mv,List.getElem?_range (by lia)]
  simp only[MW,ne_eq,Option.some.injEq,decide_eq_true_eq];lia
 .rw[Mv,ME]
  have:i<ub.length:=h;rw[Mx this];rfl
 .have q:∀j,j<12->(ub.getD j (Mt "")).length<=20:=by decide+kernel
  have:=q i h;have e:(Mt "!").length=1:=by decide+kernel
  have big:(1000:Nat)<=M5:=by decide
  lia
def mh(K:W.Frag)(cl:jD)(C:MY)(L:dE):Sp:=fun vs H Q _=>∃(a d:MY)(t:Str)(n:Int)(m:Kept)(o:Out),vs=[.ref a,.str t]/\t.length<=990/\1<=n/\n<=12/\m.length<=40/\(∀p∈m,p.1.length<=990)/\cM C H a d n m/\L.out n m (Txt.split t (Mt " "))=some o/\
 match o with
 | .nu c=>∃i,hW K cl c i/\∀H',ah H H'->Q (.str (vO i)) H'
 | .ans s=>∀H',ah H H'->Q (.str s) H'
 | .Kr=>∀ks:List Str,ks.Perm (m.map (·.1))->PyProof.Rows.sortedS ks=true->∀H',ah H H'->Q (.str (cX ks)) H'
 | .put x R=>∀H',cM C H' a d n (jV m x R)->(∀b o,b≠d->H b=some o->H' b=some o)->Q (.str (Mt "ok")) H'
 | .del x=>∀H',cM C H' a d n (uH m x)->(∀b o,b≠d->H b=some o->H' b=some o)->Q (.str (Mt "ok")) H'
structure F6(P:M0)(w:M3)(K:W.Frag)(mg:Str->Option MX)(base:Nc)(cl:jD)(C:MY)(L:dE):Prop extends T1 mg K,LF mg cl where
 oH:MethAt P w K mg base (i3 P w) C "say" 30 ["self","row"] (Fy C L)
section
variable{P:M0}{w:M3}{K:W.Frag}{mg:Str->Option MX}{base:Nc}{cl:jD}{C:MY}{L:dE}
theorem cH:aA ["_law_desk","_law_row","_law_names","e","_law_told","_law_some"] ["_law_desk","_law_row"] (ar (top 124)):=⟨rfl,rfl,rfl,by decide+kernel,rfl,by decide+kernel,by decide+kernel⟩
theorem DP{f:MY}{fd:Nb}(F:dO K "_law_say" "_law_say" (top 124) f fd)(T:F6 P w K mg base cl C L):aR P w K mg base gh 31 f fd ["_law_desk","_law_row"] (mh K cl C L):=by
 refine F.ok cH (fun vs H Q E h=>?_) (fun cdv A outer s H vs Q E hr h=>?_)
 .obtain⟨a,d,t,n,m,o,rfl,_⟩:=h
  rfl
 .obtain⟨a,d,t,n,m,o,rfl,ht,n1,n2,hm,hmw,hd,ho,k⟩:=h
  refine⟨_,(@ag _ _ _ _ _ (@aC _ _ 2 _ _ _ _ cH.nd rfl (Or.inl rfl) (@bu _ _ _ _ (@qH _ _ [V.str (Mt "Unlike"),V.str (Mt "NoRounds"),V.str (Mt "Apart"),V.str (Mt "NoMove"),V.str (Mt "NotLeast"),V.str (Mt "NotGreat"),V.str (Mt "NoTree"),V.str (Mt "NoCars"),V.str (Mt "NoChain"),V.str (Mt "NoBound")] rfl)) (by rfl) (by first|exact .inl rfl|exact .inr rfl))
   (@ag _ _ _ _ _ (aC (i:=2) cH.nd rfl (Or.inl rfl) (av dM (pv 2) (bu (aa aK (aa aK af)))))
   (@ag _ _ _ _ _ (Ej (fun _ _=>(aj (aC (i:=4) cH.nd rfl (Or.inl rfl) (zd T.oH (hr.mono (by decide)) (pv 0) (aa (pv 1) af))))) (ze (i:=3) cH.nd rfl rfl rfl T.uf (fun _=>(@ag _ _ _ _ _ (@aC _ _ 5 _ _ _ _ cH.nd rfl (Or.inl rfl) (@bu _ _ _ _ (@aa _ _ _ _ _ (ak (bB (K:=K) rfl) rfl T.aM (by decide+kernel) (aa (pv 3) (aa (fc rfl T.B5) af))) (@aa _ _ _ _ _ (ak (bB (K:=K) rfl) rfl T.aM (by decide+kernel) (aa (pv 3) (aa (fc rfl T.vL) af))) (@aa _ _ _ _ _ (ak (bB (K:=K) rfl) rfl T.aM (by decide+kernel) (aa (pv 3) (aa (fc rfl T.Dp) af))) (@aa _ _ _ _ _ (ak (bB (K:=K) rfl) rfl T.aM (by decide+kernel) (aa (pv 3) (aa (fc rfl T.gK) af))) af bI) bI) bI) bI)) (by rfl) (by first|exact .inl rfl|exact .inr rfl))
   (@ag _ _ _ _ _ (@aC _ _ 5 _ _ _ _ cH.nd rfl (Or.inl rfl) (av dM (pv 5) (@bu _ _ _ _ (@aa _ _ _ _ _ (ak (bB (K:=K) rfl) rfl T.aM (by decide+kernel) (aa (pv 3) (aa (fc rfl T.vT) af))) (@aa _ _ _ _ _ (ak (bB (K:=K) rfl) rfl T.aM (by decide+kernel) (aa (pv 3) (aa (fc rfl T.cL) af))) (@aa _ _ _ _ _ (ak (bB (K:=K) rfl) rfl T.aM (by decide+kernel) (aa (pv 3) (aa (fc rfl T.CP) af))) (@aa _ _ _ _ _ (ak (bB (K:=K) rfl) rfl T.aM (by decide+kernel) (aa (pv 3) (aa (fc rfl T.Cz) af))) af bI) bI) bI) bI))) (by rfl) (by first|exact .inl rfl|exact .inr rfl))
   (@ag _ _ _ _ _ (@aC _ _ 5 _ _ _ _ cH.nd rfl (Or.inl rfl) (av dM (pv 5) (@bu _ _ _ _ (@aa _ _ _ _ _ (ak (bB (K:=K) rfl) rfl T.aM (by decide+kernel) (aa (pv 3) (aa (fc rfl T.zR) af))) (@aa _ _ _ _ _ (ak (bB (K:=K) rfl) rfl T.aM (by decide+kernel) (aa (pv 3) (aa (fc rfl T.dv) af))) (@aa _ _ _ _ _ (ak (bB (K:=K) rfl) rfl T.aM (by decide+kernel) (aa (pv 3) (aa (fc rfl T.cC) af))) (@aa _ _ _ _ _ (ak (bB (K:=K) rfl) rfl T.aM (by decide+kernel) (aa (pv 3) (aa (fc rfl T.i4) af))) af bI) bI) bI) bI))) (by rfl) (by first|exact .inl rfl|exact .inr rfl))
   (ag (a8 (PW.pt (jK (ax iH (bZ (K:=K) rfl PySem.F.plainAttrs_list PySem.F.slot_list_count PySem.F.type_list_count (zA (K:=K) rfl) (pv 5) (aa jM af)) ai (aG _)) (hV (eZ (fe (ak (bB (K:=K) rfl) rfl T.aM (by decide+kernel) (aa (pv 3) (aa (jy (v:= .ty "ValueError") rfl T.si (by decide+kernel) rfl) af)))))))) (aj (ay aK)) aE)
   (aj (ay (av eF aK (aU (az (K:=K) rfl) (pv 2) (bZ (K:=K) rfl PySem.F.plainAttrs_list PySem.F.slot_list_index PySem.F.type_list_index zJ (pv 5) (aa jM af)) (fun _ _=>rfl)))))))))) D5))
   (aj (ay (pv 4)))))),?_⟩
  have one:1<=M5:=by decide
  have two:2<=M5:=by decide
  have four:4<=M5:=by decide
  have eight:8<=M5:=by decide
  have ten:10<=M5:=by decide
  have twelve:12<=M5:=by decide
  refine⟨ten,fun l1 f1=>⟨_,rfl,two,fun l2 f2=>⟨l1,l2,_,_,rfl,rfl,ah.new f2 _ _ ae,ae,twelve,fun l3 f3=>?_⟩⟩⟩;have s3:=((ah.new (o:= .lst [.str (Mt "Unlike"),.str (Mt "NoRounds"),.str (Mt "Apart"),.str (Mt "NoMove"),.str (Mt "NotLeast"),.str (Mt "NotGreat"),.str (Mt "NoTree"),.str (Mt "NoCars"),.str (Mt "NoChain"),.str (Mt "NoBound")]) f1).trans (ah.new (o:= .lst [.str (Mt "NoText"),.str (Mt "NoName")]) f2)).trans (ah.new (o:= .lst ([.str (Mt "Unlike"),.str (Mt "NoRounds"),.str (Mt "Apart"),.str (Mt "NoMove"),.str (Mt "NotLeast"),.str (Mt "NotGreat"),.str (Mt "NoTree"),.str (Mt "NoCars"),.str (Mt "NoChain"),.str (Mt "NoBound")]++[.str (Mt "NoText"),.str (Mt "NoName")])) f3);have h3:upd (upd (upd H l1 (.lst [.str (Mt "Unlike"),.str (Mt "NoRounds"),.str (Mt "Apart"),.str (Mt "NoMove"),.str (Mt "NotLeast"),.str (Mt "NotGreat"),.str (Mt "NoTree"),.str (Mt "NoCars"),.str (Mt "NoChain"),.str (Mt "NoBound")])) l2 (.lst [.str (Mt "NoText"),.str (Mt "NoName")])) l3 (.lst ([.str (Mt "Unlike"),.str (Mt "NoRounds"),.str (Mt "Apart"),.str (Mt "NoMove"),.str (Mt "NotLeast"),.str (Mt "NotGreat"),.str (Mt "NoTree"),.str (Mt "NoCars"),.str (Mt "NoChain"),.str (Mt "NoBound")]++[.str (Mt "NoText"),.str (Mt "NoName")])) l3=some (.lst (ub.map V.str)):=ae;generalize upd (upd (upd H l1 (.lst [.str (Mt "Unlike"),.str (Mt "NoRounds"),.str (Mt "Apart"),.str (Mt "NoMove"),.str (Mt "NotLeast"),.str (Mt "NotGreat"),.str (Mt "NoTree"),.str (Mt "NoCars"),.str (Mt "NoChain"),.str (Mt "NoBound")])) l2 (.lst [.str (Mt "NoText"),.str (Mt "NoName")])) l3 (.lst ([.str (Mt "Unlike"),.str (Mt "NoRounds"),.str (Mt "Apart"),.str (Mt "NoMove"),.str (Mt "NotLeast"),.str (Mt "NotGreat"),.str (Mt "NoTree"),.str (Mt "NoCars"),.str (Mt "NoChain"),.str (Mt "NoBound")]++[.str (Mt "NoText"),.str (Mt "NoName")]))=H3 at s3 h3⊢;have hd3:=hd.same s3;obtain⟨dx,fs,kvs,ha,hf,_⟩:=id hd3;refine⟨_,rfl,a,dx,fs,rfl,ha,hf.say,_,rfl,a,d,t,n,m,o,rfl,ht,n1,n2,hm,hmw,hd3,ho,?_⟩
  cases o with
  |ans s'=>exact fun H' sm=>⟨_,rfl,k H' (s3.trans sm)⟩
  |Kr=>exact fun ks pm so H' sm=>⟨_,rfl,k ks pm so H' (s3.trans sm)⟩
  |put x R=>exact fun H' dk sm=>⟨_,rfl,k H' dk fun b o hb e=>sm b o hb (s3 _ _ e)⟩
  |del x=>exact fun H' dk sm=>⟨_,rfl,k H' dk fun b o hb e=>sm b o hb (s3 _ _ e)⟩
  |nu c=>
   obtain⟨i,al,k⟩:=k;obtain⟨b1,b2,b3,b4,b5,b6,b7,b8,b9,b10,b11,b12,k1,k2,k3,k4,k5,k6,k7,k8,k9,k10,k11,k12,hc⟩:=al.bs;intro bb H4 sm e he;refine⟨c,true,rfl,al.em,uv fun bx=>?_⟩;have s5:ah H (upd H4 e (.exc e c bx)):=s3.trans (sm.trans (ah.new he));have h5:upd H4 e (.exc e c bx) l3=some (.lst (ub.map V.str)):=ah.new he _ _ (sm _ _ h3);have he5:upd H4 e (.exc e c bx) e=some (.exc e c bx):=ae;generalize upd H4 e (.exc e c bx)=H5 at s5 h5 he5⊢;refine⟨_,rfl,e,c,bx,_,_,_,rfl,he5,al.ei,fk,k1,_,rfl,e,c,bx,_,_,_,rfl,he5,al.ei,fk,k2,_,rfl,e,c,bx,_,_,_,rfl,he5,al.ei,fk,k3,_,rfl,e,c,bx,_,_,_,rfl,he5,al.ei,fk,k4,four,fun m1 g1=>?_⟩;have s6:=ah.new (o:= .lst [.bl b1,.bl b2,.bl b3,.bl b4]) g1;have q1:=ae (H:=H5) (a:=m1) (o:= .lst [.bl b1,.bl b2,.bl b3,.bl b4]);generalize upd H5 m1 (.lst [.bl b1,.bl b2,.bl b3,.bl b4])=H6 at s6 q1⊢;have he6:=s6 _ _ he5;refine⟨_,rfl,_,rfl,e,c,bx,_,_,_,rfl,he6,al.ei,fk,k5,_,rfl,e,c,bx,_,_,_,rfl,he6,al.ei,fk,k6,_,rfl,e,c,bx,_,_,_,rfl,he6,al.ei,fk,k7,_,rfl,e,c,bx,_,_,_,rfl,he6,al.ei,fk,k8,four,fun m2 g2=>?_⟩;have s7:=s6.trans (ah.new (o:= .lst [.bl b5,.bl b6,.bl b7,.bl b8]) g2);have q2:=ah.new (o:= .lst [.bl b5,.bl b6,.bl b7,.bl b8]) g2 _ _ q1;have q3:=ae (H:=H6) (a:=m2) (o:= .lst [.bl b5,.bl b6,.bl b7,.bl b8]);generalize upd H6 m2 (.lst [.bl b5,.bl b6,.bl b7,.bl b8])=H7 at s7 q2 q3⊢;refine⟨m1,m2,_,_,rfl,rfl,q2,q3,eight,fun m3 g3=>?_⟩;have s8:=s7.trans (ah.new (o:= .lst ([.bl b1,.bl b2,.bl b3,.bl b4]++[.bl b5,.bl b6,.bl b7,.bl b8])) g3);have q4:=ae (H:=H7) (a:=m3) (o:= .lst ([.bl b1,.bl b2,.bl b3,.bl b4]++[.bl b5,.bl b6,.bl b7,.bl b8]));generalize upd H7 m3 (.lst ([.bl b1,.bl b2,.bl b3,.bl b4]++[.bl b5,.bl b6,.bl b7,.bl b8]))=H8 at s8 q4⊢;have he8:=s8 _ _ he5;refine⟨_,rfl,_,rfl,e,c,bx,_,_,_,rfl,he8,al.ei,fk,k9,_,rfl,e,c,bx,_,_,_,rfl,he8,al.ei,fk,k10,_,rfl,e,c,bx,_,_,_,rfl,he8,al.ei,fk,k11,_,rfl,e,c,bx,_,_,_,rfl,he8,al.ei,fk,k12,four,fun m4 g4=>?_⟩;have s9:=s8.trans (ah.new (o:= .lst [.bl b9,.bl b10,.bl b11,.bl b12]) g4);have q5:=ah.new (o:= .lst [.bl b9,.bl b10,.bl b11,.bl b12]) g4 _ _ q4;have q6:=ae (H:=H8) (a:=m4) (o:= .lst [.bl b9,.bl b10,.bl b11,.bl b12]);generalize upd H8 m4 (.lst [.bl b9,.bl b10,.bl b11,.bl b12])=H9 at s9 q5 q6⊢;refine⟨m3,m4,_,_,rfl,rfl,q5,q6,twelve,fun m5 g5=>?_⟩;have s10:=s9.trans (ah.new (o:= .lst (([.bl b1,.bl b2,.bl b3,.bl b4]++[.bl b5,.bl b6,.bl b7,.bl b8])++[.bl b9,.bl b10,.bl b11,.bl b12])) g5);have q7:upd H9 m5 (.lst (([.bl b1,.bl b2,.bl b3,.bl b4]++[.bl b5,.bl b6,.bl b7,.bl b8])++[.bl b9,.bl b10,.bl b11,.bl b12])) m5=some (.lst ([b1,b2,b3,b4,b5,b6,b7,b8,b9,b10,b11,b12].map V.bl)):=ae;generalize upd H9 m5 (.lst (([.bl b1,.bl b2,.bl b3,.bl b4]++[.bl b5,.bl b6,.bl b7,.bl b8])++[.bl b9,.bl b10,.bl b11,.bl b12]))=H10 at s10 q7⊢;have he10:=s10 _ _ he5;rw[hc]at q7;have il:=al.lt;refine⟨_,rfl,.inl ⟨rfl,_,aJ.of q7⟩,m5,_,true,rfl,rfl,q7,?_⟩;refine⟨rfl,_,rfl,eG (by rw[JJ i il];decide) ?_⟩;refine⟨_,rfl,e,c,bx,_,_,_,rfl,he10,al.ei,(fun u r=>r),al.ve,_,rfl,eG (by decide) ?_⟩;obtain⟨at1,at2,at3,ll⟩:=KG i il;exact⟨_,rfl,_,rfl,.inl ⟨rfl,_,aJ.of q7⟩,m5,_,true,i,rfl,rfl,q7,at1,at2,l3,_,(i:Int),_,rfl,rfl,aJ.of (s10 _ _ h5),aZ (j:=i) at3,_,_,rfl,rfl,ll,k _ (s5.trans s10)⟩
end
theorem sd{n:Int}(n1:1<=n):bK 2 (n+1)++[1]=lG n:=by
 unfold lG;apply List.ext_getElem?;intro i;rw[Mv];by_cases c:i<(n+1-2).toNat
 .rw[List.getElem?_append_left (by rw[aB];exact c),bR c,bR (by lia),MW,Int.emod_eq_of_lt (by lia) (by lia)]
  congr 1;lia
 .rw[List.getElem?_append_right (by rw[aB];lia),aB]
  by_cases d:i=(n+1-2).toNat
  .rw[bR (by lia),MW,show(1:Int)+(i:Int)=n by lia,Int.emod_self,show i-(n+1-2).toNat=0 by lia]
   rfl
  .rw[List.getElem?_eq_none (by rw[List.length_singleton];lia),List.getElem?_eq_none (by rw[aB];lia)]
   rfl
theorem Cf{n:Int}(n1:1<=n):Ord n (lG n):=by
 have e:bK 1 (n+1)=1::bK 2 (n+1):=by
  apply List.ext_getElem?;intro i
  cases i with
  |zero=>rw[bR (lo:=1) (hi:=n+1) (i:=0) (by lia)];rfl
  |succ i=>
   rw[List.getElem?_cons_succ];by_cases c:i<(n+1-2).toNat
   .rw[bR (by lia),bR c]
    congr 1;lia
   .rw[List.getElem?_eq_none (by rw[aB];lia),List.getElem?_eq_none (by rw[aB];lia)]
 rw[←sd n1];unfold Ord;rw[e];exact List.perm_append_singleton 1 _
theorem Lj{K:W.Frag}{σ:St}{H:Hp}{n:Int}{i:Nat}{Q:VK}(n1:1<=n)(n2:n<=12)(hσ:σ[i]?=some (some (.int n)))(q:∀t H',H t=none->H' t=some (.tup ((lG n).map V.int))->ah H H'->Q (.ref t) H'):
  yg (Fu K) (GL yv (dN (GL Bq (dN (tC (V.int 2)) (dN (yg (Ap fun i j=>V.int (i+j)) (gY i) (tC (V.int 1))) iO))) iO)) (JE (dN (tC (V.int 1)) iO)) σ H Q:=by
 refine⟨_,hσ,_,_,rfl,rfl,.inr ⟨_,_,rfl,fun rr hrr=>⟨rr,_,_,rfl,ae,by lia,by lia,by lia,by lia,fun tt htt=>?_⟩⟩⟩;have ne:tt≠rr:=by intro z;subst z;rw[ae]at htt;cases htt
 rw[aq ne]at htt;have sR:ah H (upd (upd H rr (.m6 2 (n+1))) tt (.tup ((bK 2 (n+1)).map V.int))):=fun b o e=>by rw[aq (ao e htt),aq (ao e hrr)];exact e
 have hT:upd (upd H rr (.m6 2 (n+1))) tt (.tup ((bK 2 (n+1)).map V.int)) tt=some (.tup ((bK 2 (n+1)).map V.int)):=ae;generalize upd (upd H rr (.m6 2 (n+1))) tt (.tup ((bK 2 (n+1)).map V.int))=G3 at sR hT⊢;refine⟨(by show 1<=M5;decide),fun t1 ft1=>?_⟩;have s7:ah G3 (upd G3 t1 (.tup [.int 1])):=ah.new ft1;have h7:upd G3 t1 (.tup [.int 1]) t1=some (.tup [.int 1]):=ae;have f1:=sR.free ft1;generalize upd G3 t1 (.tup [.int 1])=G4 at s7 h7⊢;have big:(10000000:Nat)<=M5:=by decide
 refine⟨tt,t1,_,_,rfl,rfl,dI.of (s7 _ _ hT),dI.of h7,by rw[Mu,aB];show _+1<=_;lia,fun z=>?_,fun _ z=>(nomatch z),fun _ _ pq fpq=>?_⟩
 .have e0:bK 2 (n+1)=[]:=List.map_eq_nil_iff.mp z
  refine q _ _ f1 ?_ (sR.trans s7);rw[←sd n1,e0];exact h7
 .refine q _ _ ((sR.trans s7).free fpq) ?_ (sR.trans (s7.trans (ah.new fpq)))
  rw[ae,←sd n1,My];rfl
theorem E8{K:W.Frag}{H:Hp}{ns:List Int}(hn:ns.length<=100)(bd:∀i∈ns,0<=i/\i<1000):
  ∃k,Gw K (.str (Str.join (Mt ",") (ns.map aH))) H k/\(k=true->Str.join (Mt ",") (ns.map aH)=cX (ns.map aH))/\(k=false->Mt "none" =cX (ns.map aH)):=by
 have h1:=StrLaws.join_length_le (Mt ",") (ns.map aH);have nl:∀y∈ns.map aH,1<=y.length/\y.length<=9:=fun y hy=>by
  obtain⟨z,hz,rfl⟩:=List.mem_map.mp hy;have zb:=bd z hz;exact⟨sC (by lia),dC (by lia) (by lia)⟩
 have h2:=StrLaws.sumLen_le (B:=9) (ns.map aH) (fun y hy=>(nl y hy).2);have e1:(Mt ",").length=1:=by decide+kernel
 have big:(10000000:Nat)<=M5:=by decide
 have ll:(ns.map aH).length=ns.length:=Mu _;rw[e1]at h1;refine⟨_,⟨by lia,rfl⟩,?_⟩;unfold cX;generalize ns.map aH=ks at nl
 cases ks with
 |nil=>exact⟨fun z=>absurd z (by decide+kernel),fun _=>by rw[if_pos rfl]⟩
 |cons x r=>
  refine⟨fun _=>by rw[if_neg (by simp)],fun z=>?_⟩;have x1:=(nl x MG).1;have:((Str.join (Mt ",") (x::r)).length:Int)=0:=by simpa using z
  cases r with
  |nil=>
   have e:Str.join (Mt ",") [x]=x:=rfl;rw[e]at this;lia
  |cons y r=>
   have e:Str.join (Mt ",") (x::y::r)=x++Mt "," ++Str.join (Mt ",") (y::r):=rfl;rw[e,Str.length_append,Str.length_append]at this;lia
def Co:Sp:=fun vs H Q _=>∃(l:MY)(ns:List Int),vs=[.ref l]/\H l=some (.lst (ns.map V.int))/\ns.length<=100/\(∀i∈ns,0<=i/\i<1000)/\∀H',ah H H'->Q (.str (cX (ns.map aH))) H'
structure DM(mg:Str->Option MX)(K:W.Frag):Prop extends T1 mg K where
 dX:mg "str" =none
section
variable{P:M0}{w:M3}{K:W.Frag}{mg:Str->Option MX}{base:Nc}
theorem pe:aA ["_law_numbers"] ["_law_numbers"] (ar (top 127)):=⟨rfl,rfl,rfl,by decide+kernel,rfl,by decide+kernel,by decide+kernel⟩
theorem EF{f:MY}{fd:Nb}(F:dO K "_law_listed" "_law_listed" (top 127) f fd)(T:DM mg K):aR P w K mg base gh 1 f fd ["_law_numbers"] Co:=by
 refine F.ok pe (fun vs H Q E h=>?_) (fun cdv A outer s H vs Q E hr h=>?_)
 .obtain⟨l,ns,rfl,_⟩:=h
  rfl
 .obtain⟨l,ns,rfl,hl,n100,bd,k⟩:=h
  refine⟨_,(aj (ay (Gr (bZ (K:=K) rfl PySem.F.plainAttrs_str PySem.F.slot_str_join PySem.F.type_str_join (ic (K:=K) rfl) aK (aa (bw (N:=(["_law_number"]:List Str)) (ix:=([none]:List (Option Nat))) (aT rfl rfl) rfl (a6 (K:=K) rfl (pv 0)) (fun _ _ _ _=>(aw (i:=0) (show List.Nodup (["_law_number"]:List Str)from by decide+kernel) rfl (Or.inl rfl))) (fun _ _ _ _=>bc) (fun _ _ _ _=>(aF bJ rfl T.dX (by decide+kernel) (aa (pv 0) af)))) af)) (rC aK)))),?_⟩;refine⟨rfl,_,rfl,l,rfl,⟨_,aJ.of hl⟩,DX hl n100 bd fun q H2 h2 s2=>?_⟩;obtain⟨kk,tv,ky,kn⟩:=E8 (K:=K) (H:=H2) n100 bd;refine⟨_,q,ns.map aH,rfl,rfl,aJ.of h2,cO (B:=9) (by decide+kernel) (fun y hy=>?_) (by decide) (by rw[Mu];lia),kk,tv,?_⟩
  .obtain⟨z,hz,rfl⟩:=List.mem_map.mp hy
   have:=bd z hz;exact dC (by lia) (by lia)
  cases kk with
  |true=>exact uv (by rw[ky rfl];exact k _ s2)
  |false=>exact xb (by show Q (V.str (Mt "none")) H2;rw[kn rfl];exact k _ s2)
end
theorem iM.up {es:List Int}{f:Int->Int}{row L:List (Int×Int)}(t:iM es f row)(g:cW row L):∀(i:Nat),i<es.length->(f ((i:Int)+2),(i:Int)+1)∈L->f (el es i+1)∈L.map (·.1):=by
 induction g with
 |base=>
  intro i hi h;have h:=List.mem_singleton.mp h;injection h with h1 h2
  lia
 | @step L x y j i0 e g hy hr he hx ih=>
  intro i hi h;rw[My];rcases List.mem_append.mp h with h|h
  .exact MK _ (ih i hi h)
  .have h:=List.mem_singleton.mp h
   injection h with h1 h2
   obtain rfl:i=i0:=by lia
   have ea:=t.at hi;rw[hr]at ea;injection ea with ea
   have yl:y∈L.map (·.1):=List.mem_map.mpr ⟨_,hy,rfl⟩;have key:y=f (el es i+1):=by
    unfold Aq at ea;dsimp only at ea;rcases he with rfl|rfl
    .injection ea with a b
     rcases Int.le_total (f (el es i+1)) (f ((i:Int)+2))with o|o
     .rw[Int.min_eq_left o]at a;rw[Int.max_eq_right o]at b;lia
     .rw[Int.max_eq_left o]at b;exact b
    .injection ea with a b
     rcases Int.le_total (f (el es i+1)) (f ((i:Int)+2))with o|o
     .rw[Int.min_eq_left o]at a;exact a
     .rw[Int.min_eq_right o]at a;rw[Int.max_eq_left o]at b;lia
   rw[←key];exact MK _ yl
theorem K1{H:Hp}{a:MY}{c:Int}{k:Nat}{Q:VK}(h1:H a=some (.lst [.int c]))(hk:k<=1000)(q:∀p H',H p=none->H' p=some (.lst ((List.replicate k c).map V.int))->ah H H'->Q (.ref p) H'):GB (.ref a) (.int (k:Int)) H Q:=by
 have big:(10000000:Nat)<=M5:=by decide
 refine⟨a,k,_,rfl,rfl,h1,by lia,by lia,?_,fun p hp=>q p _ hp ?_ (ah.new hp)⟩
 .show 1*k<=_;lia
 .rw[ae]
  congr 2;rw[List.map_replicate];show(List.replicate k [V.int c]).flatten=_;clear q hk h1
  induction k with
  |zero=>rfl
  |succ k ih=>rw[List.replicate_succ,List.replicate_succ,List.flatten_cons,ih];rfl
def FH:Sp:=fun vs H Q _=>∃(l:MY)(ws:List V)(row:List (Int×Int))(es:List Int)(f:Int->Int),vs=[.ref l]/\H l=some (.lst ws)/\dD H ws row/\row.length<=100/\iM es f row/\bp ((es.length:Int)+1) row=lG ((es.length:Int)+1)/\∀l' H',H l'=none->H' l'=some (.lst (es.map V.int))->ah H H'->Q (.ref l') H'
section
variable{P:M0}{w:M3}{K:W.Frag}{mg:Str->Option MX}{base:Nc}
theorem bP:aA ["_law_row","_law_found","_law_met","_law_k","_law_a","_law_b","_law_near"] ["_law_row"] (ar (top 125)):=⟨rfl,rfl,rfl,by decide+kernel,rfl,by decide+kernel,by decide+kernel⟩
theorem Ib{f:MY}{fd:Nb}(F:dO K "_law_elders" "_law_elders" (top 125) f fd)(T:T1 mg K):aR P w K mg base gh 1 f fd ["_law_row"] FH:=by
 refine F.ok bP (fun vs H Q E h=>?_) (fun cdv A outer s H vs Q E hr h=>?_)
 .obtain⟨l,ws,row,es,f,rfl,_⟩:=h
  rfl
 .obtain⟨l,ws,row,es,f,rfl,hl,hx,h100,ht,hgr,k⟩:=h
  have hu:=kJ hr;refine⟨_,(ag (aC (i:=1) bP.nd rfl (Or.inl rfl) (av Cb (bu (aa ai af)) (ak (aL (K:=K) rfl) rfl T.bE (by decide+kernel) (aa (pv 0) af))))
   (ag (aC (i:=2) bP.nd rfl (Or.inl rfl) (fY (bW ai ai gj) rfl rfl (by simp) (by decide)))
   (ag (iU PassesOwn.never (ax oK (ak qB rfl T.bE (by decide+kernel) (aa (pv 2) af)) (av aS (ak (aL (K:=K) rfl) rfl T.bE (by decide+kernel) (aa (pv 0) af)) ai) (aG _)) (aj (fi PassesOwn.never rfl (eI rfl T.bQ (aa (ak (aL (K:=K) rfl) rfl T.bE (by decide+kernel) (aa (pv 0) af)) af)) (aw (i:=3) bP.nd rfl (Or.inl rfl)) (ag (j3 (aU (az (K:=K) rfl) (pv 0) (pv 3) (fun _ _=>rfl)) (cx (K:=K) (n:=2) rfl rfl (aO (aw (i:=4) bP.nd rfl (Or.inl rfl)) (aO (aw (i:=5) bP.nd rfl (Or.inl rfl)) cy))))
   (aj (a8 (ax iH (wX (o9 hu (pv 4) (pv 2))) (wX (o9 hu (pv 5) (pv 2))) (aG _)) (ag (aC (i:=6) bP.nd rfl (Or.inl rfl) (aU (az (K:=K) rfl) (bu (aa (pv 5) (aa (pv 4) af))) (aF qK rfl T.yP (by decide+kernel) (aa (wX (o9 hu (pv 4) (pv 2))) af)) (fun _ _=>rfl)))
   (ag (j3 (jt hu (pv 2) (pv 6) (fun _ _=>rfl)) (ot (pv 1) (pv 3) set_list))
   (aj (lq hu (pv 2) (av bU (av aS (pv 4) (pv 5)) (pv 6)) (av aS (pv 3) ai) rfl)))) aE))))))
   (aj (ay (pv 1)))))),?_⟩
  have big:(10000000:Nat)<=M5:=by decide
  have wl:=hx.length;have rl:=ht.len;have n1:(1:Int)<=(es.length:Int)+1:=by lia
  refine⟨(by show 1<=M5;decide),fun l0 f0=>?_⟩;have s0:=ah.new (o:= .lst [.int 0]) f0;have g0:=ae (H:=H) (a:=l0) (o:= .lst [.int 0]);generalize upd H l0 (.lst [.int 0])=H0 at s0 g0⊢;refine⟨_,rfl,l,_,rfl,.inl (aJ.of (s0 _ _ hl)),?_⟩;rw[wl];refine K1 g0 (by lia) fun lf H1 ff hf s1=>?_;have s1:=s0.trans s1;have fH:H lf=none:=s0.free ff;refine fun d fd0=>?_;refine⟨ae,[(Sum.inl 1,.int 0)],rfl,by show 1<=15;decide,?_⟩;have fdH:H d=none:=s1.free fd0;have ldn:lf≠d:=fun z=>by rw[z,fd0]at hf;cases hf
  have s2:ah H (upd (upd H1 d (.dK [])) d (.dK (cb [] [(Sum.inl 1,.int 0)]))):=ah.put (ah.put s1 fdH) fdH;have h2:upd (upd H1 d (.dK [])) d (.dK (cb [] [(Sum.inl 1,.int 0)])) d=some (.dK (lF [(1,0)])):=ae;have hf2:upd (upd H1 d (.dK [])) d (.dK (cb [] [(Sum.inl 1,.int 0)])) lf=some (.lst ((List.replicate row.length (0:Int)).map V.int)):=by rw[aq ldn,aq ldn];exact hf
  generalize upd (upd H1 d (.dK [])) d (.dK (cb [] [(Sum.inl 1,.int 0)]))=H2 at s2 h2 hf2⊢;refine⟨fun m σ H'=>∃(L:List (Int×Int))(fs:List Int),m=es.length+1-L.length/\(∃v3 v4 v5 v6,σ=[some (.ref l),some (.ref lf),some (.ref d),v3,v4,v5,v6])/\ah H H'/\H' d=some (.dK (lF L))/\H' lf=some (.lst (fs.map V.int))/\fs.length=es.length/\cW row L/\∀i,i<es.length->(f ((i:Int)+2),(i:Int)+1)∈L->fs[i]?=some (el es i),⟨_,[(1,0)],List.replicate row.length 0,rfl,⟨_,_,_,_,rfl⟩,s2,h2,hf2,by rw[List.length_replicate];lia,.base,fun i hi h=>by have h:=List.mem_singleton.mp h;injection h with h1 h2;lia⟩,?_⟩;rintro m σ H3 ⟨L,fs,rfl,⟨v3,v4,v5,v6,rfl⟩,s3,h3,hf3,fl3,g3,in3⟩;have wb:=g3.wb n1 ht.good;have hl3:=s3 _ _ hl;refine⟨_,rfl,d,_,rfl,h3,_,rfl,l,_,rfl,.inl (aJ.of hl3),_,_,rfl,rfl,_,_,rfl,rfl,_,rfl,cN (fun c=>?_) (fun c=>?_)⟩
  .have c:L.length<=es.length:=by
    have:=of_decide_eq_true c;rw[hZ]at this;lia
   refine⟨fun σ H'=>∃(L':List (Int×Int))(fs:List Int),L.length<L'.length/\(∃v3 v4 v5 v6,σ=[some (.ref l),some (.ref lf),some (.ref d),v3,v4,v5,v6])/\ah H H'/\H' d=some (.dK (lF L'))/\H' lf=some (.lst (fs.map V.int))/\fs.length=es.length/\cW row L'/\∀i,i<es.length->(f ((i:Int)+2),(i:Int)+1)∈L'->fs[i]?=some (el es i),fun σ H'=>?_,?_⟩
   .rintro⟨L',fs',lt,hσ,s4,h4,hf4,fl4,g4,in4⟩
    have:=g4.wb n1 ht.good;exact⟨es.length+1-L'.length,by lia,L',fs',rfl,hσ,s4,h4,hf4,fl4,g4,in4⟩
   refine⟨_,rfl,l,_,rfl,.inl (aJ.of hl3),_,rfl,by lia,by lia,eL (fun i σ H'=>∃(L':List (Int×Int))(fs:List Int),(∃v3 v4 v5 v6,σ=[some (.ref l),some (.ref lf),some (.ref d),v3,v4,v5,v6])/\ah H H'/\H' d=some (.dK (lF L'))/\H' lf=some (.lst (fs.map V.int))/\fs.length=es.length/\cW row L'/\(∀i,i<es.length->(f ((i:Int)+2),(i:Int)+1)∈L'->fs[i]?=some (el es i))/\L.length<=L'.length/\(L'.length=L.length->L'=L/\∀(j:Nat)(e:Int×Int),j<i->row[j]?=some e->(e.1∈L.map (·.1)↔e.2∈L.map (·.1)))) ⟨L,fs,⟨_,_,_,_,rfl⟩,s3,h3,hf3,fl3,g3,in3,MP _,fun _=>⟨rfl,fun j e hj=>absurd hj (Nat.not_lt_zero _)⟩⟩ ?_ ?_⟩
   .rintro i σ H4 hi ⟨L',fs',⟨w3,w4,w5,w6,rfl⟩,s4,h4,hf4,fl4,g4,in4,le4,cl4⟩
    have hi':i<es.length:=by lia
    obtain⟨v,hv⟩:∃v,ws[i]?=some v:=⟨_,Mx (by lia)⟩;obtain⟨t',a,b,rfl,ht',hr'⟩:=hx.get hv;have nd4:=g4.keys;have g4l:=g4.wb n1 ht.good;have ea:=ht.at hi';rw[hr']at ea;injection ea with ea
    unfold Aq at ea;injection ea with ea1 ea2
    dsimp only at ea1 ea2;have ab:(a=f (el es i+1)/\b=f ((i:Int)+2))\/(a=f ((i:Int)+2)/\b=f (el es i+1)):=by
     rcases Int.le_total (f (el es i+1)) (f ((i:Int)+2))with o|o
     .rw[Int.min_eq_left o]at ea1;rw[Int.max_eq_right o]at ea2;exact .inl ⟨ea1,ea2⟩
     .rw[Int.min_eq_right o]at ea1;rw[Int.max_eq_left o]at ea2;exact .inr ⟨ea1,ea2⟩
    have ei:=yk ht.tree hi';have near:∀x y q,(x,q)∈L'->y∉L'.map (·.1)->((a=x/\b=y)\/(a=y/\b=x))->q=el es i/\y=f ((i:Int)+2):=fun x y q hq hy hxy=>by
     obtain⟨q0,q1,e⟩:=ht.grow g4 x q hq;have no:x=f ((i:Int)+2)->y=f (el es i+1)->False:=fun e1 e2=>by
      have:=ht.inj (q+1) ((i:Int)+2) (by lia) (by lia) (by lia) (by lia) (e.symm.trans e1);refine hy ?_;rw[e2];refine ht.up g4 i hi' ?_;rw[←e1,show(i:Int)+1=q by lia];exact hq
     have yes:x=f (el es i+1)->y=f ((i:Int)+2)->q=el es i/\y=f ((i:Int)+2):=fun e1 e2=>⟨by
      have:=ht.inj (q+1) (el es i+1) (by lia) (by lia) (by lia) (by lia) (e.symm.trans e1);lia,e2⟩
     rcases ab with⟨a1,a2⟩|⟨a1,a2⟩<;>rcases hxy with⟨b1,b2⟩|⟨b1,b2⟩
     .exact yes (b1▸a1) (b2▸a2)
     .exact(no (b2▸a2) (b1▸a1)).elim
     .exact(no (b1▸a1) (b2▸a2)).elim
     .exact yes (b2▸a2) (b1▸a1)
    have keep:(a∈L'.map (·.1)↔b∈L'.map (·.1))->L'.length=L.length->L'=L/\∀(j:Nat)(e:Int×Int),j<i+1->row[j]?=some e->(e.1∈L.map (·.1)↔e.2∈L.map (·.1)):=fun hab le=>by
     obtain⟨e1,e2⟩:=cl4 le;subst e1;refine⟨rfl,fun j e hj hje=>?_⟩;by_cases hji:j=i
     .subst hji
      rw[hr']at hje;injection hje with hje
      subst hje;exact hab
     .exact e2 j e (by lia) hje
    refine⟨_,rfl,_,rfl,l,_,_,_,rfl,rfl,aJ.of (s4 _ _ hl),kT (by lia) (by rw[show(0+(i:Int)).toNat=i by lia];exact hv),t',_,rfl,dI.of (s4 _ _ ht'),rfl,_,_,rfl,_,_,rfl,rfl,?_⟩;refine⟨_,rfl,_,rfl,d,_,rfl,dg.k (k:=Sum.inl a) h4,_,rfl,_,rfl,d,_,rfl,dg.k (k:=Sum.inl b) h4,rfl,_,rfl,?_⟩;rw[eP nd4 a,eP nd4 b];have fin:∀(x y q:Int)(H5:Hp),(x,q)∈L'->y∉L'.map (·.1)->((a=x/\b=y)\/(a=y/\b=x))->ah H4 H5->∀D:Ends,(∀σ H',(∃(L':List (Int×Int))(fs:List Int),(∃v3 v4 v5 v6,σ=[some (.ref l),some (.ref lf),some (.ref d),v3,v4,v5,v6])/\ah H H'/\H' d=some (.dK (lF L'))/\H' lf=some (.lst (fs.map V.int))/\fs.length=es.length/\cW row L'/\(∀i,i<es.length->(f ((i:Int)+2),(i:Int)+1)∈L'->fs[i]?=some (el es i))/\L.length<=L'.length/\(L'.length=L.length->L'=L/\∀(j:Nat)(e:Int×Int),j<i+1->row[j]?=some e->(e.1∈L.map (·.1)↔e.2∈L.map (·.1))))->D.nx σ H')->
      u6 (vv (FZ (gY 2) (gY 6)) (JN (gY 1) (gY 3) Fv)) (F7 (gY 2) (yg (Ap fun i j=>V.int (i-j)) (yg (Ap fun i j=>V.int (i+j)) (gY 4) (gY 5)) (gY 6)) (yg (Ap fun i j=>V.int (i+j)) (gY 3) (tC (V.int 1)))) D [some (.ref l),some (.ref lf),some (.ref d),some (.int (0+(i:Int))),some (.int a),some (.int b),some (.int x)] H5:=fun x y q H5 hq hy hxy s5 D hD=>by
     obtain⟨eq,ey⟩:=near x y q hq hy hxy;have g:dg H5 d (.int x) (some (.int q)):=by
      have:=dg.k (k:=Sum.inl x) (s5 _ _ h4);rw[wF nd4 hq]at this;exact this
     refine⟨_,rfl,_,rfl,d,_,rfl,g,_,rfl,_,rfl,lf,_,_,i,rfl,rfl,s5 _ _ hf4,?_,?_⟩
     .rw[Mu,show(0:Int)+(i:Int)=(i:Int) by lia]
      have q:=ph (n:=fs'.length) (i:=(i:Int)) (by lia) (by lia);rw[Int.toNat_natCast]at q;exact q
     have e6:a+b-x=y:=by rcases hxy with⟨b1,b2⟩|⟨b1,b2⟩<;>lia
     have s6:=ah.put (s4.trans s5) fH (o:= .lst ((fs'.map V.int).set i (.int q)));have h6:upd H5 lf (.lst ((fs'.map V.int).set i (.int q))) d=some (.dK (lF L')):=by rw[aq ldn.symm];exact s5 _ _ h4
     have hf6:upd H5 lf (.lst ((fs'.map V.int).set i (.int q))) lf=some (.lst ((fs'.set i (el es i)).map V.int)):=by rw[ae,←eq,List.map_set]
     generalize upd H5 lf (.lst ((fs'.map V.int).set i (.int q)))=H6 at s6 h6 hf6⊢;refine⟨_,rfl,_,_,rfl,rfl,_,rfl,_,rfl,_,rfl,_,_,rfl,rfl,_,rfl,_,_,rfl,rfl,d,_,rfl,rM.k (k:=Sum.inl (a+b-x)) h6 (by rw[hZ];lia),hD _ _ ?_⟩;dsimp only;rw[show(0:Int)+(i:Int)+1=(i:Int)+1 by lia,e6,yH hy];refine⟨L'++[(y,(i:Int)+1)],fs'.set i (el es i),⟨_,_,_,_,rfl⟩,ah.put s6 fdH,ae,by rw[aq ldn];exact hf6,by rw[List.length_set];exact fl4,.step g4 hq hr' (by rcases hxy with⟨rfl,rfl⟩|⟨rfl,rfl⟩;exact .inr rfl;exact .inl rfl) hy,fun j hj hm=>?_,by rw[Mw];lia,fun z=>by rw[Mw,List.length_singleton]at z;lia⟩;rcases List.mem_append.mp hm with h1|hm
     .have ne:j≠i:=fun z=>by
       subst z;exact hy (by rw[ey];exact List.mem_map.mpr ⟨(f ((j:Int)+2),(j:Int)+1),h1,rfl⟩)
      rw[List.getElem?_set_ne (Ne.symm ne)];exact in4 j hj h1
     .have hm:=List.mem_singleton.mp hm
      injection hm with h1 h2
      obtain rfl:j=i:=by lia
      rw[List.getElem?_set_self (by lia)]
    by_cases ka:a∈L'.map (·.1)
    .by_cases kb:b∈L'.map (·.1)
     .refine gG (by rw[decide_eq_true ka,decide_eq_true kb];decide) ?_
      exact⟨L',fs',⟨_,_,_,_,rfl⟩,s4,h4,hf4,fl4,g4,in4,le4,keep ⟨fun _=>kb,fun _=>ka⟩⟩
     .refine lJ (by rw[decide_eq_true ka,decide_eq_false kb];decide) ?_
      obtain⟨⟨a',q⟩,hq,e⟩:=List.mem_map.mp ka;dsimp only at e;subst e;refine⟨_,rfl,_,rfl,(by show 2<=M5;decide),fun p fp=>⟨_,rfl,_,rfl,d,_,rfl,dg.k (k:=Sum.inl a') (ah.new fp _ _ h4),.inr ⟨_,rfl,p,_,_,_,rfl,rfl,aJ.of ae,?_,fin a' b q _ hq kb (.inl ⟨rfl,rfl⟩) (ah.new fp) _ fun σ H' z=>z⟩⟩⟩;rw[eP nd4 a',decide_eq_true ka];exact aZ (j:=1) rfl
    .by_cases kb:b∈L'.map (·.1)
     .refine lJ (by rw[decide_eq_false ka,decide_eq_true kb];decide) ?_
      obtain⟨⟨b',q⟩,hq,e⟩:=List.mem_map.mp kb;dsimp only at e;subst e;refine⟨_,rfl,_,rfl,(by show 2<=M5;decide),fun p fp=>⟨_,rfl,_,rfl,d,_,rfl,dg.k (k:=Sum.inl a) (ah.new fp _ _ h4),.inr ⟨_,rfl,p,_,_,_,rfl,rfl,aJ.of ae,?_,fin b' a q _ hq ka (.inr ⟨rfl,rfl⟩) (ah.new fp) _ fun σ H' z=>z⟩⟩⟩;rw[eP nd4 a,decide_eq_false ka];exact aZ (j:=0) rfl
     .refine gG (by rw[decide_eq_false ka,decide_eq_false kb];decide) ?_
      exact⟨L',fs',⟨_,_,_,_,rfl⟩,s4,h4,hf4,fl4,g4,in4,le4,keep ⟨fun z=>absurd z ka,fun z=>absurd z kb⟩⟩
   .rintro σ H4 ⟨L',fs',hσ,s4,h4,hf4,fl4,g4,in4,le4,cl4⟩
    refine⟨L',fs',?_,hσ,s4,h4,hf4,fl4,g4,in4⟩;rcases Nat.lt_or_ge L.length L'.length with z|z
    .exact z
    .obtain⟨e1,e2⟩:=cl4 (by lia)
     have:=l7 g3 n1 hgr fun j e hje=>e2 j e (by have:=(List.getElem?_eq_some_iff.mp hje).1;lia) hje;lia
  .have c:es.length+1<=L.length:=by
    have c:¬((lF L).length:Int)<(ws.length:Int)+1:=by simpa using c
    rw[hZ]at c;lia
   have e:fs=es:=List.ext_getElem? fun i=>by
    rcases Nat.lt_or_ge i es.length with z|z
    .have:=ht.place g3 c (q:=(i:Int)+1) (by lia) (by lia)
     rw[show(i:Int)+1+1=(i:Int)+2 by lia]at this;rw[in3 i z this,Mx z];unfold el;rw[ME,Mx z];rfl
    .rw[List.getElem?_eq_none (by lia),List.getElem?_eq_none (by lia)]
   rw[e]at hf3;exact⟨_,rfl,k lf H3 fH hf3 s3⟩
end
end Sw
namespace L2
open PySem PySem.Spec PyProof.Rows
theorem D7{t u:TS}{D:Ends}{σ:St}{H:Hp}(R:St->Hp->Prop)(h1:∀D':Ends,(∀σ' H',R σ' H'->D'.nx σ' H')->t D' σ H)(h2:∀σ' H',R σ' H'->u D σ' H'):u6 t u D σ H:=h1 _ h2
end L2
namespace Sw
open PySem L2
theorem Lc{K:W.Frag}{H:Hp}{l m:MY}{vs ws:List V}{r q:List (Int×Int)}{Q:VK}(h1:H l=some (.lst vs))(x1:dD H vs r)(h2:H m=some (.lst ws))(x2:dD H ws q)(hq:Q (.bl (decide (r=q))) H):IK K (.ref l) (.ref m) H Q:=by
 obtain⟨P,dx,dy,d1,d2,c1,c2,dd,e⟩:=Mm (K:=K) (Q:=fun v _=>v= .bl (!decide (r=q))) h1 x1 h2 x2 rfl;refine⟨P,dx,dy,d1,d2,c1,c2,dd,?_⟩;have:PyData.eqv dx dy=decide (r=q):=by
  injection e with e
  simpa using e
 rw[this];exact hq
def Lk(row:List (Int×Int)):Prop:=∀e∈row,0<=e.1/\0<=e.2/\e.1<100/\e.2<100
theorem BH{row:List (Int×Int)}(h:Lk row):(jE row).length<=row.length*6+4:=by
 unfold jE
 split
 .rename_i z
  rw[z];decide+kernel
 .have h1:=StrLaws.join_length_le (Mt ",") (row.map jd)
  have h2:=StrLaws.sumLen_le (B:=5) (row.map jd) (fun y hy=>by
   obtain⟨⟨a,b⟩,he,rfl⟩:=List.mem_map.mp hy;obtain⟨a0,b0,a9,b9⟩:=h _ he;unfold jd;rw[Str.length_append,Str.length_append];have l1:(aH a).length<=2:=PyProof.Rows.toString_length_le a0 (by decide) (show a<10^2 by lia);have l2:(aH b).length<=2:=PyProof.Rows.toString_length_le b0 (by decide) (show b<10^2 by lia);have:(Mt "-").length=1:=by decide+kernel
   dsimp only;lia)
  have h3:(Mt ",").length=1:=by decide+kernel
  rw[Mu]at h1 h2;rw[h3]at h1;lia
def Fn:Sp:=fun vs H Q _=>∃(l:MY)(es:List V)(row:List (Int×Int)),vs=[.ref l]/\H l=some (.lst es)/\dD H es row/\row.length<=70/\Lk row/\∀H',ah H H'->Q (.str (jE row)) H'
structure K9(mg:Str->Option MX)(K:W.Frag):Prop extends T1 mg K where
 dX:mg "str" =none
theorem Dr{r:List Int}(h:∀x∈r,1<=x/\x<=12)(l:r.length<=12):(Fx r).length<=40:=by
 rw[←Bk fun x hx=>by have:=h x hx;lia,HX];have h1:=StrLaws.join_length_le (Mt " ") (r.map aH);have h2:=StrLaws.sumLen_le (B:=2) (r.map aH) (fun y hy=>by
  obtain⟨a,ha,rfl⟩:=List.mem_map.mp hy;have:=h a ha;exact PyProof.Rows.toString_length_le (by lia) (by decide) (show a<10^2 by lia))
 have h3:(Mt " ").length=1:=by decide+kernel
 rw[Mu]at h1 h2;rw[h3]at h1;unfold zk;lia
section
variable{P:M0}{w:M3}{K:W.Frag}{mg:Str->Option MX}{base:Nc}
theorem mM:aA ["_law_row"] ["_law_row"] (ar (top 123)):=⟨rfl,rfl,rfl,by decide+kernel,rfl,by decide+kernel,by decide+kernel⟩
theorem Hz{f:MY}{fd:Nb}(F:dO K "_law_row_word" "_law_row_word" (top 123) f fd)(T:K9 mg K):aR P w K mg base gh 1 f fd ["_law_row"] Fn:=by
 refine F.ok mM (fun vs H Q E h=>?_) (fun cdv A outer s H vs Q E hr h=>?_)
 .obtain⟨l,es,row,rfl,_⟩:=h
  rfl
 .obtain⟨l,es,row,rfl,hl,hx,h60,hs,k⟩:=h
  refine⟨_,(ag (a8 (ax (HI hr.units) (pv 0) (bu af) (aG _)) (aj (ay aK)) aE)
   (aj (ay (bZ (K:=K) rfl PySem.F.plainAttrs_str PySem.F.slot_str_join PySem.F.type_str_join (ic (K:=K) rfl) aK (aa (bw (N:=(["_law_a","_law_b"]:List Str)) (ix:=([none,none]:List (Option Nat))) (aT rfl rfl) rfl (a6 (K:=K) rfl (pv 0)) (fun _ _ _ _=>(cx (K:=K) (n:=2) rfl rfl (aO (aw (i:=0) (show List.Nodup (["_law_a","_law_b"]:List Str)from by decide+kernel) rfl (Or.inl rfl)) (aO (aw (i:=1) (show List.Nodup (["_law_a","_law_b"]:List Str)from by decide+kernel) rfl (Or.inl rfl)) cy)))) (fun _ _ _ _=>bc) (fun _ _ _ _=>(av eF (av eF (aF bJ rfl T.dX (by decide+kernel) (aa (pv 0) af)) aK) (aF bJ rfl T.dX (by decide+kernel) (aa (pv 1) af))))) af))))),?_⟩
  have big:(10000000:Nat)<=M5:=by decide
  have el:=hx.length;refine⟨_,rfl,MT _,fun le fle=>?_⟩;have s1:ah H (upd H le (.lst [])):=ah.new fle;refine Lc (s1 _ _ hl) (hx.keep (ah.bH s1)) (ws:=[]) (q:=[]) ae .nil ⟨_,rfl,?_⟩;generalize upd H le (.lst [])=H1 at s1⊢;by_cases hz:row=[]
  .subst hz
   exact lJ (decide_eq_true rfl) (k H1 s1)
  .refine gG (decide_eq_false hz) ?_
   have rl:=List.length_pos_iff.mpr hz;have hl1:=s1 _ _ hl;have hx1:=hx.keep (ah.bH s1);refine⟨rfl,_,rfl,l,rfl,⟨_,aJ.of hl1⟩,xc (K:=K) (a:=l) (xs:=es) (fun j ys σ' H'=>ys=((row.take j).map jd).map V.str/\(∃v0 v1,σ'=[v0,v1])/\H'=H1) (by lia) ⟨rfl,⟨none,none,rfl⟩,rfl⟩ (fun j ys σ' H' _ q=>by rw[q.2.2];exact aJ.of hl1) (fun j ys σ' H' q=>by rw[q.1,Mu,Mu,MB];lia) ?_ ?_⟩
   .rintro j ys σ' H' x R hx' ⟨rfl,⟨v0,v1,rfl⟩,rfl⟩ done
    obtain⟨t,b,c,rfl,ht,hr'⟩:=hx1.get hx';obtain⟨a0,b0,a9,b9⟩:=hs (b,c) (MF hr');dsimp only at a0 b0 a9 b9;have al:=dC a0 (by lia);have bl:=dC b0 (by lia);have dl:(Mt "-").length=1:=by decide+kernel
    refine⟨t,_,rfl,dI.of ht,rfl,_,_,rfl,_,_,rfl,rfl,?_⟩;refine⟨_,rfl,b,rfl,fE a0 (by lia),_,_,rfl,rfl,(by show(aH b).length+(Mt "-").length<=M5;lia),_,rfl,c,rfl,fE b0 (by lia),_,_,rfl,rfl,(by show(aH b++Mt "-").length+(aH c).length<=M5;rw[Str.length_append];lia),?_⟩;refine done _ _ _ ⟨?_,⟨_,_,rfl⟩,rfl⟩;rw[bh jd hr',My];rfl
   .rintro ys σ' H' q ⟨rfl,⟨v0,v1,rfl⟩,e0⟩ fq
    have e0:=e0.symm;subst e0;rw[MI (by lia)];refine⟨_,q,row.map jd,rfl,rfl,aJ.of ae,cO (B:=19) (by decide+kernel) (fun y hy=>?_) (by decide) (by rw[Mu];lia),?_⟩
    .obtain⟨⟨b,c⟩,he,rfl⟩:=List.mem_map.mp hy
     obtain⟨a0,b0,a9,b9⟩:=hs _ he;exact rY a0 b0 (by lia) (by lia)
    .have kk:=k _ (s1.trans (ah.new (o:= .lst ((row.map jd).map V.str)) fq))
     unfold jE at kk;rw[if_neg hz]at kk;exact kk
end
open Classical in
noncomputable def xa(n:Int)(R:List (Int×Int))(j:Int):List Str:=if t9 n R then [cX ((oF R).map aH),cX ((R.map (·.1)).map aH),if j<n then HE (jT n (bp n (R.take j.toNat)))else Mt "!NoBound"]else [Mt "!NotGreat",Mt "!NotGreat",Mt "!NotGreat"]
def B0:Sp:=fun vs H Q _=>∃(n j:Int)(l:MY)(es:List V)(R:List (Int×Int)),vs=[.int n,.ref l,.int j]/\1<=n/\n<=12/\0<=j/\H l=some (.lst es)/\dD H es R/\Good n R/\R.length<=60/\∀l' H',H' l'=some (.lst ((xa n R j).map V.str))->ah H H'->Q (.ref l') H'
structure FJ(P:M0)(w:M3)(K:W.Frag)(mg:Str->Option MX)(base:Nc):Prop extends T1 mg K where
 dX:mg "str" =none
 cB:mg "sorted" =none
 ke:FnAt P w K mg base "_law_led" 1 ["_law_n","_law_row"] Gb
 cU:FnAt P w K mg base "_law_rounds" 1 ["_law_order_here"] fR
 jH:FnAt P w K mg base "_law_elders" 1 ["_law_row"] FH
 gz:FnAt P w K mg base "_law_listed" 1 ["_law_numbers"] Co
section
variable{P:M0}{w:M3}{K:W.Frag}{mg:Str->Option MX}{base:Nc}
theorem Lf{i:Nat}{v:V}{u:TS}{D:Ends}{σ:St}{H:Hp}(h:u D (σ.set i (some v)) H):u6 (vv (tC v) (cF i)) u D σ H:=h
theorem JO{K:W.Frag}{σ:St}{H:Hp}{b:MY}{r:List Int}{Q:VK}(hσ:σ[0]?=some (some (.ref b)))(hb:H b=some (.lst (r.map V.int)))(hn:r.length<=100)(bd:∀i∈r,0<=i/\i<1000)(q:∀H',ah H H'->Q (.str (Fx r)) H'):
  K3 K "str" (rJoin K) (tC (V.str (Mt ","))) (dN (xB [none] (AU K (gY 0)) (cF 0) dS (GL (fun xs H Q=>∃i,xs=[V.int i]/\i.natAbs.log2<1920/\Q (V.str (Mt (toString i))) H) (dN (gY 0) iO))) iO) σ H Q:=by
 refine⟨rfl,_,hσ,b,rfl,⟨_,aJ.of hb⟩,DX hb hn bd fun q' H' h' s'=>⟨_,q',r.map aH,rfl,rfl,aJ.of h',cO (B:=9) (by decide+kernel) (fun y hy=>?_) (by decide) (by rw[Mu];have:(10000000:Nat)<=M5:=(by decide);lia),q _ s'⟩⟩;obtain⟨z,hz,rfl⟩:=List.mem_map.mp hy;have:=bd z hz;exact dC (by lia) (by lia)
theorem gf:aA ["_law_n","_law_row","_law_j","_law_begun","_law_some"] ["_law_n","_law_row","_law_j"] (ar (top 128)):=⟨rfl,rfl,rfl,by decide+kernel,rfl,by decide+kernel,by decide+kernel⟩
theorem DG{f:MY}{fd:Nb}(F:dO K "_law_due" "_law_due" (top 128) f fd)(T:FJ P w K mg base):aR P w K mg base gh 5 f fd ["_law_n","_law_row","_law_j"] B0:=by
 refine F.ok gf (fun vs H Q E h=>?_) (fun cdv A outer s H vs Q E hr h=>?_)
 .obtain⟨n,j,l,es,R,rfl,_⟩:=h
  rfl
 .obtain⟨n,j,l,es,R,rfl,n1,n2,j0,hl,hx,hg,l60,k⟩:=h
  refine⟨_,(ag (a8 (PW.pt (jK (ax iH (ak (aL (K:=K) rfl) rfl T.bE (by decide+kernel) (aa (pv 1) af)) (av bU (pv 0) ai) (aG _)) (hV (ax (we hr.units) (au T.ke (hr.mono (by first|decide|lia)) rfl (aa (pv 0) (aa (pv 1) af))) (av (rQ (K:=K) rfl) (aF (dU rfl) rfl T.cu (by decide+kernel) (aa (aF fL rfl T.bQ (by decide+kernel) (aa ai (aa (av aS (pv 0) ai) af))) af)) (fU (aa ai af))) (aG _))))) (aj (ay (av Cb (bu (aa aK af)) ai))) aE)
   (ag (aC (i:=3) gf.nd rfl (Or.inl rfl) aK)
   (ag (a8 (ax oK (pv 2) (pv 0) (aG _)) (ag (aC (i:=4) gf.nd rfl (Or.inl rfl) (ak (kZ (K:=K) rfl hr.units) rfl T.cB (by decide+kernel) (aa (bw (N:=(["_law_part"]:List Str)) (ix:=([none]:List (Option Nat))) (aT rfl rfl) rfl (a6 (K:=K) rfl (au T.cU (hr.mono (by first|decide|lia)) rfl (aa (au T.ke (hr.mono (by first|decide|lia)) rfl (aa (pv 0) (aa (bN (bO (K:=K) rfl) (pv 1) cJ (cP (pv 2))) af))) af))) (fun _ _ _ _=>(aw (i:=0) (show List.Nodup (["_law_part"]:List Str)from by decide+kernel) rfl (Or.inl rfl))) (fun _ _ _ _=>bc) (fun _ _ _ _=>(ak (jg (K:=K) rfl) rfl T.cB (by decide+kernel) (aa (pv 0) af)))) af)))
   (aj (aC (i:=3) gf.nd rfl (Or.inl rfl) (bZ (K:=K) rfl PySem.F.plainAttrs_str PySem.F.slot_str_join PySem.F.type_str_join (ic (K:=K) rfl) aK (aa (bw (N:=(["_law_part"]:List Str)) (ix:=([none]:List (Option Nat))) (aT rfl rfl) rfl (a6 (K:=K) rfl (pv 4)) (fun _ _ _ _=>(aw (i:=0) (show List.Nodup (["_law_part"]:List Str)from by decide+kernel) rfl (Or.inl rfl))) (fun _ _ _ _=>bc) (fun _ _ _ _=>(bZ (K:=K) rfl PySem.F.plainAttrs_str PySem.F.slot_str_join PySem.F.type_str_join (ic (K:=K) rfl) aK (aa (bw (N:=(["_law_thing"]:List Str)) (ix:=([none]:List (Option Nat))) (aT rfl rfl) rfl (a6 (K:=K) rfl (pv 0)) (fun _ _ _ _=>(aw (i:=0) (show List.Nodup (["_law_thing"]:List Str)from by decide+kernel) rfl (Or.inl rfl))) (fun _ _ _ _=>bc) (fun _ _ _ _=>(aF bJ rfl T.dX (by decide+kernel) (aa (pv 0) af)))) af)))) af))))) aE)
   (aj (ay (bu (@aa _ _ _ _ _ (au T.gz (hr.mono (by first|decide|lia)) rfl (aa (au T.jH (hr.mono (by first|decide|lia)) rfl (aa (pv 1) af)) af)) (@aa _ _ _ _ _ (au T.gz (hr.mono (by first|decide|lia)) rfl (aa (bw (N:=(["_law_a","_law_b"]:List Str)) (ix:=([none,none]:List (Option Nat))) (aT rfl rfl) rfl (a6 (K:=K) rfl (pv 1)) (fun _ _ _ _=>(cx (K:=K) (n:=2) rfl rfl (aO (aw (i:=0) (show List.Nodup (["_law_a","_law_b"]:List Str)from by decide+kernel) rfl (Or.inl rfl)) (aO (aw (i:=1) (show List.Nodup (["_law_a","_law_b"]:List Str)from by decide+kernel) rfl (Or.inl rfl)) cy)))) (fun _ _ _ _=>bc) (fun _ _ _ _=>(pv 0))) af)) (@aa _ _ _ _ _ (pv 3) af bt) bI) bI))))))),?_⟩
  have el:=hx.length;have big:(10000000:Nat)<=M5:=by decide
  have ret:¬t9 n R->∀H1,ah H H1->CJ (yg GB (Ke (dN (tC (V.str (Mt "!NotGreat"))) iO)) (tC (V.int 3))) {nx:=fun x H'=>Q V.de H',rt:=Q} (L2.start [Mt "_law_n",Mt "_law_row",Mt "_law_j",Mt "_law_begun",Mt "_law_some"] [V.int n,V.ref l,V.int j]) H1:=fun ng H1 s1=>by
   refine⟨(by show 1<=M5;decide),fun l0 f0=>⟨l0,3,_,rfl,rfl,ae,by decide,by decide,by show 1*3<=M5;decide,fun p fp=>k p _ ?_ (s1.trans ((ah.new f0).trans (ah.new fp)))⟩⟩;rw[ae];unfold xa;rw[if_neg ng];rfl
  refine⟨_,rfl,l,_,rfl,.inl (aJ.of hl),_,rfl,_,_,rfl,rfl,rfl,_,rfl,?_⟩;by_cases ln:(R.length:Int)=n-1
  case neg=>exact lJ (by simp[el,ln]) (ret (fun z=>ln z.1) H (ah.refl _))
  refine gG (by simp[el,ln]) ?_;refine⟨_,rfl,_,rfl,n,l,es,R,rfl,by lia,by lia,hl,hx,hg,fun t H1 ft ht s1=>?_⟩;refine Lj n1 n2 rfl fun t2 H2 ft2 ht2 s2=>?_;by_cases gr:bp n R=lG n
  case neg=>exact eqT (s2 _ _ ht) ht2 ⟨_,rfl,lJ (by rw[decide_eq_false gr];rfl) (ret (fun z=>gr z.2) H2 (s1.trans s2))⟩
  refine eqT (s2 _ _ ht) ht2 ⟨_,rfl,gG (by rw[decide_eq_true gr];decide) ?_⟩;have gR:t9 n R:=⟨ln,gr⟩;have s12:=s1.trans s2;clear ret ft ht ft2 ht2 s2 s1;have hl2:=s12 _ _ hl;have hx2:=hx.keep (ah.bH s12);obtain⟨T3,hT⟩:∃T3,T3=(if j<n then HE (jT n (bp n (R.take j.toNat)))else Mt "!NoBound"):=⟨_,rfl⟩;dsimp only[yw];refine Lf ?_;dsimp only[L2.start,List.set];refine D7 (t:=EV _ _ _) (fun σ' H'=>(∃v4,σ'=[some (.int n),some (.ref l),some (.int j),some (.str T3),v4])/\ah H2 H') (fun D' hD=>?_) ?_
  .refine⟨_,rfl,_,rfl,_,_,rfl,rfl,_,rfl,cN (fun c=>?_) (fun c=>?_)⟩
   case refine_2=>
    have c:¬j<n:=by simpa using c
    rw[if_neg c]at hT;rw[hT]at hD;exact hD _ _ ⟨⟨_,rfl⟩,ah.refl _⟩
   have c:j<n:=of_decide_eq_true c;rw[if_pos c]at hT;have ci:fg es none (some j)=es.take j.toNat:=FP j0 (by lia);have hg':Good n (R.take j.toNat):=fun e he=>hg e (List.mem_of_mem_take he);have o:=Ei hg';refine⟨_,rfl,_,rfl,?_⟩;dsimp only[dG];refine⟨_,rfl,_,rfl,l,es,rfl,aJ.of hl2,fun l3 f3=>?_⟩;have s3:=ah.new (o:= .lst (fg es none (some j))) f3;have g3:upd H2 l3 (.lst (fg es none (some j))) l3=some (.lst (es.take j.toNat)):=by rw[ae,ci]
   generalize upd H2 l3 (.lst (fg es none (some j)))=H3 at s3 g3⊢;have x3:dD H3 (es.take j.toNat) (R.take j.toNat):=(hx2.keep (ah.bH s3)).yI j.toNat;refine⟨n,l3,_,_,rfl,by lia,by lia,g3,x3,hg',fun t H4 ft ht s4=>?_⟩;generalize bp n (R.take j.toNat)=xs at o hT ht;have rf:=gN o;have sf:=vg o;refine⟨t,n,xs,rfl,ht,o,by lia,fun lr wr H5 flr hlr xr frr nlr s5=>?_⟩;have wl:=xr.length;have rl:=rf.2.2;have S5:=s3.trans (s4.trans s5);clear s3 g3 x3 s4 ht ft f3 flr frr nlr;refine⟨lr,rfl,⟨_,aJ.of hlr⟩,jU (K:=K) (a:=lr) (xs:=wr) (k:=0) (fun i ys σ' H'=>(∃v,σ'=[v])/\bX H' ys ((jT n xs).take i)/\ah H5 H') (by lia) ⟨⟨none,rfl⟩,.nil,ah.refl _⟩ (fun i ys σ' H' _ z=>aJ.of (z.2.2 _ _ hlr)) (fun i ys σ' H' z=>by have:=z.2.1.length;rw[MB]at this;lia) ?_ ?_⟩
   .rintro i ys σ' H6 x R' hx' ⟨⟨v,rfl⟩,xy,s6⟩ done
    obtain⟨b,r,rfl,hb,hr2⟩:=(xr.keep s6).get hx';have rb:=(rf.2.1 r (MF hr2)).2.1;refine⟨_,rfl,b,r,rfl,aJ.of hb,by lia,fun lc r' flc pm pw=>done _ _ _ ⟨⟨_,rfl⟩,?_,s6.trans (ah.new flc)⟩⟩;have e:=yT pm pw;have ht:(jT n xs)[i]?=some r':=by unfold jT;rw[Mv,hr2,e];rfl
    rw[take_snoc ht];exact(xy.keep (ah.new flc)).snoc ae
   rintro ys σ' H6 q ⟨_,xy,s6⟩ fq;have sl:(jT n xs).length=(bT n xs).length:=by unfold jT;rw[Mu]
   rw[MI (by lia)]at xy;have yl:=xy.length;have s7:=ah.new (o:= .lst ys) fq;have h7:upd H6 q (.lst ys) q=some (.lst ys):=ae;generalize upd H6 q (.lst ys)=H7 at s7 h7⊢;have xy7:=xy.keep s7;refine⟨q,ys,_,rfl,aJ.of h7,by lia,Bx xy7 sf,fun l8 f8=>?_⟩;have S8:=S5.trans (s6.trans (s7.trans (ah.new (o:= .lst ys) f8)));have h8:upd H7 l8 (.lst ys) l8=some (.lst ys):=ae;have x8:=xy7.keep (ah.new (o:= .lst ys) f8);generalize upd H7 l8 (.lst ys)=H8 at S8 h8 x8⊢;clear S5 s6 s7 h7 xy7 xy fq f8 hlr xr;have oo:=FI o n1 n2;have wb:=ji (rs:=bT n xs) fun r hr=>(rf.2.1 r hr).1;have sb:∀r∈jT n xs,r.length<=12/\∀x∈r,1<=x/\x<=12:=fun r hr=>by
    unfold jT at hr;obtain⟨r0,h0,rfl⟩:=List.mem_map.mp hr;have:=je h0;have:=oo.2.2.2;refine⟨by rw[(dF r0).length_eq];lia,fun x hx=>?_⟩;have:=oo.2.2.1 r0 h0 x ((dF r0).mem_iff.mp hx);lia
   refine⟨rfl,_,rfl,l8,rfl,⟨_,aJ.of h8⟩,jU (K:=K) (a:=l8) (xs:=ys) (k:=0) (fun i zs σ' H'=>zs=(((jT n xs).take i).map Fx).map V.str/\(∃v0,σ'=[v0])/\ah H8 H') (by lia) ⟨rfl,⟨none,rfl⟩,ah.refl _⟩ (fun i zs σ' H' _ q=>aJ.of (q.2.2 _ _ h8)) (fun i zs σ' H' q=>by rw[q.1,Mu,Mu,MB];lia) ?_ ?_⟩
   .rintro i zs σ' H9 x R' hx' ⟨rfl,⟨v0,rfl⟩,s9⟩ done
    obtain⟨b,r,rfl,hb,hr'⟩:=(x8.keep s9).get hx';have g:=sb r (MF hr');refine JO rfl hb (by lia) (fun x hx=>by have:=g.2 x hx;lia) fun H' s'=>done _ _ _ ⟨?_,⟨_,rfl⟩,s9.trans s'⟩;rw[MO,hr',My,My];rfl
   .rintro zs σ' H9 q9 ⟨rfl,⟨v0,rfl⟩,s9⟩ f9
    rw[MI (by lia)];refine⟨_,q9,(jT n xs).map Fx,rfl,rfl,aJ.of ae,cO (B:=40) (by decide+kernel) (fun y hy=>?_) (by decide) (by rw[Mu];lia),hD _ _ ⟨⟨some (.ref l8),?_⟩,S8.trans (s9.trans (ah.new f9))⟩⟩
    .obtain⟨r,hr',rfl⟩:=List.mem_map.mp hy
     have g:=sb r hr';exact Dr g.2 g.1
    .rw[hT]
     rfl
  .rintro σ' H3 ⟨⟨v4,rfl⟩,s3⟩
   have hl3:=s3 _ _ hl2;have hx3:=hx2.keep (ah.bH s3);obtain⟨f',ht,elen⟩:=yh hg gR;obtain rfl:n=(R.length:Int)+1:=by lia
   have bd:∀i∈oF R,0<=i/\i<1000:=fun i hi=>by
    have:=ht.tree.K8 i hi;lia
   refine⟨_,rfl,l,es,R,oF R,f',rfl,hl3,hx3,by lia,ht,by rw[elen];exact gr,fun l1 H4 f1 h1 s4=>?_⟩;refine⟨l1,oF R,rfl,h1,by lia,bd,fun H5 s5=>?_⟩;have s45:=s4.trans s5;have hl5:=s45 _ _ hl3;have hx5:=hx3.keep (ah.bH s45);refine⟨_,rfl,l,rfl,⟨_,aJ.of hl5⟩,xc (K:=K) (a:=l) (xs:=es) (fun j ys σ' H'=>(∃v0 v1,σ'=[v0,v1])/\H'=H5/\ys=((R.take j).map (·.1)).map V.int) (by lia) ⟨⟨none,none,rfl⟩,rfl,rfl⟩ (fun j ys σ' H' _ q=>by rw[q.2.1];exact aJ.of hl5) (fun j ys σ' H' q=>by rw[q.2.2,Mu,Mu,MB];lia) ?_ ?_⟩
   .rintro j ys σ' H' x R' hx' ⟨⟨v0,v1,rfl⟩,rfl,rfl⟩ done
    obtain⟨te,a,b,rfl,hte,hrow⟩:=hx5.get hx';refine⟨te,_,rfl,dI.of hte,rfl,_,_,rfl,_,_,rfl,rfl,_,rfl,done _ _ _ ⟨⟨_,_,rfl⟩,rfl,?_⟩⟩;rw[MO,hrow,My,My];rfl
   .rintro ys σ' H' q ⟨_,rfl,rfl⟩ fq
    rw[MI (by lia)];refine⟨q,R.map (·.1),rfl,ae,by rw[Mu];lia,fun i hi=>?_,fun H6 s6=>?_⟩
    .obtain⟨e,he,rfl⟩:=List.mem_map.mp hi
     have:=hg e he;lia
    .refine⟨_,rfl,(by show 3<=M5;lia),fun p fp=>k p _ ?_ (s12.trans (s3.trans (s45.trans ((ah.new fq).trans (s6.trans (ah.new fp))))))⟩
     rw[ae];unfold xa;rw[if_pos gR,←hT];rfl
end
def IG:Str->Bool:=fun w=>decide (w∈([Mt "row",Mt "back"]:List Str))
def CL:Str->Bool:=fun d=>decide (d≠Mt "order")
noncomputable def ql(cl:jD):dE:=jW CL (cI cl.bf cl.bz) IG cl.ip cl.jf cl.bz cl.fM
theorem B9{okd:Str->Bool}{ans:Str->Int->List Wd->Option (Except MY Str)}{U:Str->Bool}{CT CN CB CM:MY}{n k:Int}{m:Kept}{nm word:Str}{R:List (Int×Int)}(h1:okd "name" =true)(h2:okd "number" =true)(e1:qY word=some [Mt "name",Mt "number"])(e2:decide (word∈u5)=true)(hn:isNm nm)(k0:0<=k)(k9:k<10^9)(e:rowOf m nm=some R):
  (∀s,ans word n [.row R,.num k]=some (.ok s)->(jW okd ans U CT CN CB CM).out n m [word,nm,aH k]=some (.ans s))/\∀c,ans word n [.row R,.num k]=some (.error c)->(jW okd ans U CT CN CB CM).out n m [word,nm,aH k]=some (.nu c):=by
 have r1:fD n (Mt "name") nm=some (.txt nm):=kX hn;have r2:fD n (Mt "number") (aH k)=some (.num k):=sD k0 k9;have nn:¬word=Mt "names" :=fun z=>by rw[z]at e1;revert e1;decide+kernel
 have ok:¬([Mt "name",Mt "number"].all okd=false):=by rw[List.all_cons,List.all_cons,List.all_nil,show okd (Mt "name")=true from h1,show okd (Mt "number")=true from h2];decide
 have g1:pW m (Mt "name") (.txt nm)=some (.row R):=by
  unfold pW;rw[if_pos rfl];dsimp only;rw[e];rfl
 have g2:pW m (Mt "number") (.num k)=some (.num k):=if_neg (by decide+kernel);constructor<;>intro s es<;>(unfold dE.out jW;dsimp only;rw[e1];dsimp only;rw[if_neg (by simp),if_neg ok];simp only[List.zip_cons_cons,List.zip_nil_right,fb,r1,r2,MW,g1,g2,e2];rw[if_neg nn,if_pos trivial,es])
theorem rK{K:W.Frag}{cl:jD}{C a d:MY}{L:dE}{n:Int}{m:Kept}{t s:Str}{H:Hp}{Q:VK}{E:XK}(tl:t.length<=990)(n1:1<=n)(n2:n<=12)(ml:m.length<=40)(gm:kW n m)(hd:cM C H a d n m)
  (ho:L.out n m (Txt.split t (Mt " "))=some (.ans s)\/∃c i,L.out n m (Txt.split t (Mt " "))=some (.nu c)/\hW K cl c i/\vO i=s) (k:∀H',ah H H'->Q (.str s) H'):mh K cl C L [.ref a,.str t] H Q E:=by
 rcases ho with ho|⟨c,i,ho,al,e⟩
 .exact⟨a,d,t,n,m,.ans s,rfl,tl,n1,n2,ml,gm.names,hd,ho,k⟩
 .exact⟨a,d,t,n,m,.nu c,rfl,tl,n1,n2,ml,gm.names,hd,ho,i,al,fun H' sm=>by rw[e];exact k H' sm⟩
theorem vZ:isNm (Mt "r"):=⟨by decide+kernel,by decide+kernel,by decide+kernel⟩
theorem Gn:vO 5=Mt "!NotGreat" :=by decide+kernel
theorem K2:vO 9=Mt "!NoBound" :=by decide+kernel
theorem Cy{j:Int}(j0:0<=j):Txt.split (Mt "begun r " ++aH j) (Mt " ")=[Mt "begun",Mt "r",aH j]:=by
 have e:Mt "begun r " ++aH j=Str.join (Mt " ") [Mt "begun",Mt "r",aH j]:=by
  rw[←ma,show Mt "begun r " =Mt "begun" ++Mt " " ++Mt "r" ++Mt " " by decide+kernel]
 rw[e];refine iY (by simp) fun t ht=>?_;simp only[MC,MM,or_false]at ht;rcases ht with rfl|rfl|rfl
 .decide+kernel
 .decide+kernel
 .exact Cj j0
theorem pF(ns:List Int):PyData.strOk (cX (ns.map aH))=true:=by
 unfold cX
 split
 .exact gI _
 .exact uL ns
theorem CD(n:Int)(R:List (Int×Int))(j:Int):∀s∈xa n R j,PyData.strOk s=true:=by
 intro s hs;unfold xa at hs
 split at hs
 .simp only[MC,MM,or_false]at hs
  rcases hs with rfl|rfl|rfl
  .exact pF _
  .exact pF _
  .split
   .refine ou (gI _) fun t ht=>?_
    obtain⟨r,_,rfl⟩:=List.mem_map.mp ht;exact uL r
   .exact gI _
 .simp only[MC,MM,or_false]at hs
  rcases hs with rfl|rfl|rfl<;>exact gI _
def AB(K:W.Frag)(cl:jD)(C:MY):Sp:=fun vs H Q _=>∃(a d l ln:MY)(n:Int)(m:Kept)(es:List V)(R:List (Int×Int))(js:List Int),vs=[.ref a,.int n,.ref l,.ref ln]/\1<=n/\n<=12/\m.length<=40/\kW n m/\cM C H a d n m/\rowOf m (Mt "r")=some R/\H l=some (.lst es)/\dD H es R/\H ln=some (.lst (js.map V.int))/\js.length<=10/\(∀j∈js,0<=j/\j<10^9)/\∀H',ah H H'->Q (.bl true) H'
structure FK(P:M0)(w:M3)(K:W.Frag)(mg:Str->Option MX)(base:Nc)(cl:jD)(C:MY):Prop extends DM mg K where
 dq:FnAt P w K mg base "_law_say" 31 ["_law_desk","_law_row"] (mh K cl C (ql cl))
 pE:FnAt P w K mg base "_law_due" 5 ["_law_n","_law_row","_law_j"] B0
 ij:hW K cl cl.bf 5
 qR:hW K cl cl.bz 9
section
variable{P:M0}{w:M3}{K:W.Frag}{mg:Str->Option MX}{base:Nc}{cl:jD}{C:MY}
theorem gv:aA ["_law_desk","_law_n","_law_row","_law_numbers","_law_j","_law_told"] ["_law_desk","_law_n","_law_row","_law_numbers"] (ar (top 129)):=⟨rfl,rfl,rfl,by decide+kernel,rfl,by decide+kernel,by decide+kernel⟩
theorem Ex{f:MY}{fd:Nb}(F:dO K "_law_right" "_law_right" (top 129) f fd)(T:FK P w K mg base cl C):aR P w K mg base gh 32 f fd ["_law_desk","_law_n","_law_row","_law_numbers"] (AB K cl C):=by
 refine F.ok gv (fun vs H Q E h=>?_) (fun cdv A outer s H vs Q E hr h=>?_)
 .obtain⟨a,d,l,ln,n,m,es,R,js,rfl,_⟩:=h
  rfl
 .obtain⟨a,d,l,ln,n,m,es,R,js,rfl,n1,n2,ml,gm,hd,er,hl,hx,hn,jl,jb,k⟩:=h
  refine⟨_,(ag (fi PassesOwn.never rfl (a6 (K:=K) rfl (pv 3)) (aw (i:=4) gv.nd rfl (Or.inl rfl)) (ag (aC (i:=5) gv.nd rfl (Or.inl rfl) (bu (@aa _ _ _ _ _ (au T.dq (hr.mono (by first|decide|lia)) rfl (aa (pv 0) (aa aK af))) (@aa _ _ _ _ _ (au T.dq (hr.mono (by first|decide|lia)) rfl (aa (pv 0) (aa aK af))) (@aa _ _ _ _ _ (au T.dq (hr.mono (by first|decide|lia)) rfl (aa (pv 0) (aa (av eF aK (aF bJ rfl T.dX (by decide+kernel) (aa (pv 4) af))) af))) af bI) bI) bI)))
   (aj (a8 (ax (we hr.units) (pv 5) (au T.pE (hr.mono (by first|decide|lia)) rfl (@aa _ _ _ _ _ (pv 1) (@aa _ _ _ _ _ (pv 2) (@aa _ _ _ _ _ (pv 4) af bt) bt) bt)) (aG _)) (aj (ay jM)) aE))))
   (aj (ay jM))),?_⟩
  have big:(10000000:Nat)<=M5:=by decide
  have gR:=gm _ (qM er);refine⟨_,rfl,ln,rfl,⟨_,aJ.of hn⟩,lz (K:=K) (a:=ln) (xs:=js.map V.int) (fun i σ H'=>(∃v4 v5,σ=[some (.ref a),some (.int n),some (.ref l),some (.ref ln),v4,v5])/\ah H H') ⟨⟨_,_,rfl⟩,ah.refl _⟩ (fun i σ H' _ q=>aJ.of (q.2 _ _ hn)) ?_ ?_⟩
  .rintro i x σ H1 hx' ⟨⟨v4,v5,rfl⟩,s1⟩
   obtain⟨j,rfl,hj⟩:=ku hx';have b:=jb j (MF hj);have oa:=fun(wd:Str)(e1:qY wd=some [Mt "name"])(e2:decide (wd∈u5)=true)=>(Dm (okd:=CL) (ans:=cI cl.bf cl.bz) (U:=IG) (CT:=cl.ip) (CN:=cl.jf) (CB:=cl.bz) (CM:=cl.fM) (n:=n) (m:=m) (nm:=Mt "r") (word:=wd) (by decide+kernel) e1 e2 vZ).2 R er;have ob:=B9 (okd:=CL) (ans:=cI cl.bf cl.bz) (U:=IG) (CT:=cl.ip) (CN:=cl.jf) (CB:=cl.bz) (CM:=cl.fM) (n:=n) (m:=m) (nm:=Mt "r") (word:=Mt "begun") (k:=j) (by decide+kernel) (by decide+kernel) (by decide+kernel) (by decide+kernel) vZ b.1 b.2 er;have key:∃d1 d2 d3,xa n R j=[d1,d2,d3]/\(((ql cl).out n m [Mt "tree",Mt "r"]=some (.ans d1))\/∃c i,(ql cl).out n m [Mt "tree",Mt "r"]=some (.nu c)/\hW K cl c i/\vO i=d1)/\
     (((ql cl).out n m [Mt "cars",Mt "r"]=some (.ans d2))\/∃c i,(ql cl).out n m [Mt "cars",Mt "r"]=some (.nu c)/\hW K cl c i/\vO i=d2)/\
     (((ql cl).out n m [Mt "begun",Mt "r",aH j]=some (.ans d3))\/∃c i,(ql cl).out n m [Mt "begun",Mt "r",aH j]=some (.nu c)/\hW K cl c i/\vO i=d3):=by
    classical
    have o1:=oa (Mt "tree") (by decide+kernel) (by decide+kernel);have o2:=oa (Mt "cars") (by decide+kernel) (by decide+kernel);have a1:cI cl.bf cl.bz (Mt "tree") n [.row R]=some (if t9 n R then .ok (cX ((oF R).map aH))else .error cl.bf):=by
     unfold cI;dsimp only;rw[if_pos ⟨gR.1,gR.2.1⟩,if_pos rfl]
    have a2:cI cl.bf cl.bz (Mt "cars") n [.row R]=some (if t9 n R then .ok (cX ((R.map (·.1)).map aH))else .error cl.bf):=by
     unfold cI;dsimp only;rw[if_pos ⟨gR.1,gR.2.1⟩,if_neg (by decide+kernel),if_pos rfl]
    have a3:cI cl.bf cl.bz (Mt "begun") n [.row R,.num j]=some (if t9 n R then(if j<n then .ok (HE (jT n (bp n (R.take j.toNat))))else .error cl.bz)else .error cl.bf):=by
     unfold cI;dsimp only;rw[if_pos ⟨gR.1,gR.2.1,b.1,rfl⟩]
    unfold xa;by_cases g:t9 n R
    .rw[if_pos g]at a1 a2 a3
     rw[if_pos g];refine⟨_,_,_,rfl,.inl (o1.1 _ a1),.inl (o2.1 _ a2),?_⟩;by_cases c:j<n
     .rw[if_pos c]at a3
      rw[if_pos c];exact .inl (ob.1 _ a3)
     .rw[if_neg c]at a3
      rw[if_neg c];exact .inr ⟨_,9,ob.2 _ a3,T.qR,K2⟩
    .rw[if_neg g]at a1 a2 a3
     rw[if_neg g];exact⟨_,_,_,rfl,.inr ⟨_,5,o1.2 _ a1,T.ij,Gn⟩,.inr ⟨_,5,o2.2 _ a2,T.ij,Gn⟩,.inr ⟨_,5,ob.2 _ a3,T.ij,Gn⟩⟩
   obtain⟨d1,d2,d3,ed,k1,k2,k3⟩:=key;clear oa ob;have sok:=CD n R j;rw[ed]at sok;have nl:=dC b.1 b.2;have e8:(Mt "begun r ").length=8:=by decide+kernel
   refine⟨_,rfl,?_⟩;dsimp only[dN,tC,iO,List.cons_append,List.nil_append];refine rK (by decide+kernel) n1 n2 ml gm (hd.same s1) (by rw[show Txt.split (Mt "tree r") (Mt " ")=[Mt "tree",Mt "r"] by decide+kernel];exact k1) fun H2 s2=>?_;refine⟨_,rfl,?_⟩;dsimp only[dN,tC,iO,List.cons_append,List.nil_append];refine rK (by decide+kernel) n1 n2 ml gm (hd.same (s1.trans s2)) (by rw[show Txt.split (Mt "cars r") (Mt " ")=[Mt "cars",Mt "r"] by decide+kernel];exact k2) fun H3 s3=>?_;refine⟨_,rfl,_,rfl,j,rfl,fE b.1 b.2,_,_,rfl,rfl,(by show(Mt "begun r ").length+(aH j).length<=_;lia),?_⟩;dsimp only[dN,tC,iO,List.cons_append,List.nil_append];refine rK (by show(Mt "begun r " ++aH j).length<=990;rw[Str.length_append];lia) n1 n2 ml gm (hd.same (s1.trans (s2.trans s3))) (by show(ql cl).out n m (Txt.split (Mt "begun r " ++aH j) (Mt " "))=_\/∃c i,(ql cl).out n m (Txt.split (Mt "begun r " ++aH j) (Mt " "))=_/\_;rw[Cy b.1];exact k3) fun H4 s4=>?_;refine⟨(by show 3<=M5;lia),fun lt nu=>?_⟩;have s5:=s1.trans (s2.trans (s3.trans (s4.trans (ah.new (o:= .lst [V.str d1,V.str d2,V.str d3]) nu))));have h5:=ae (H:=H4) (a:=lt) (o:= .lst [V.str d1,V.str d2,V.str d3]);generalize upd H4 lt (.lst [V.str d1,V.str d2,V.str d3])=H5 at s5 h5⊢;refine⟨_,rfl,_,rfl,_,rfl,_,rfl,n,j,l,es,R,rfl,n1,n2,b.1,s5 _ _ hl,hx.keep (ah.bH s5),gR.1,gR.2.1,fun l' H6 h6 s6=>?_⟩;rw[ed]at h6;exact Gz (ss:=[d1,d2,d3]) (s6 _ _ h5) h6 sok ⟨_,rfl,xb ⟨⟨_,_,rfl⟩,s5.trans s6⟩⟩
  .rintro σ H1 ⟨⟨v4,v5,rfl⟩,s1⟩
   exact k _ s1
end
structure TO(P:M0)(w:M3)(K:W.Frag)(mg:Str->Option MX)(base:Nc):Prop extends T1 mg K where
 aI:FnAt P w K mg base "_law_take" 1 ["_law_purse_here","_law_many"] mH
section
variable{P:M0}{w:M3}{K:W.Frag}{mg:Str->Option MX}{base:Nc}
theorem bg:aA ["_law_purse_here","_law_n","_law_sort","_law_left","_law_at","_law_some","_law_goals","_law_k","_law_found","_law_one","_law_other_here"] ["_law_purse_here","_law_n"] (ar (top 118)):=⟨rfl,rfl,rfl,by decide+kernel,rfl,by decide+kernel,by decide+kernel⟩
theorem B2{f:MY}{fd:Nb}(F:dO K "_law_order" "_law_order" (top 118) f fd)(T:TO P w K mg base):aR P w K mg base gh 3 f fd ["_law_purse_here","_law_n"] yQ:=by
 refine F.ok bg (fun vs H Q E h=>?_) (fun cdv A outer s H vs Q E hr h=>?_)
 .obtain⟨p,c,n,rfl,_⟩:=h
  rfl
 .obtain⟨p,c,n,rfl,pu,hc,hn,hn2,k⟩:=h
  have hu:=kJ hr;refine⟨_,(ag (aC (i:=2) bg.nd rfl (Or.inl rfl) (au T.aI (hr.mono (by first|decide|lia)) rfl (aa (pv 0) (aa ai af))))
   (ag (aC (i:=3) bg.nd rfl (Or.inr rfl) (aF (p5 rfl) rfl T.o7 (by decide+kernel) (aa (aF fL rfl T.bQ (by decide+kernel) (aa ai (aa (av aS (pv 1) ai) af))) af)))
   (ag (a8 (ax oK (pv 2) ai (aG _)) (ag (aC (i:=8) bg.nd rfl (Or.inl rfl) (bu af))
   (ag (fi PassesOwn.never rfl (eI rfl T.bQ (aa (pv 1) af)) (aw (i:=7) bg.nd rfl (Or.inl rfl)) (aj (cZ (bZ (K:=K) rfl PySem.F.plainAttrs_list PySem.F.slot_list_append PySem.F.type_list_append gU (pv 8) (aa (bZ (K:=K) rfl PySem.F.plainAttrs_list PySem.F.slot_list_pop PySem.F.type_list_pop ur (pv 3) (aa (au T.aI (hr.mono (by first|decide|lia)) rfl (aa (pv 0) (aa (ak (aL (K:=K) rfl) rfl T.bE (by decide+kernel) (aa (pv 3) af)) af))) af)) af)))))
   (aj (ay (aF (bo (K:=K) rfl) rfl T.cu (by decide+kernel) (aa (pv 8) af)))))) aE)
   (ag (a8 (ax cR (pv 2) ai (aG _)) (ag (fi PassesOwn.never rfl (eI rfl T.bQ (aa (au T.aI (hr.mono (by first|decide|lia)) rfl (aa (pv 0) (aa ai af))) af)) (aw (i:=7) bg.nd rfl (Or.inl rfl)) (ag (aC (i:=9) bg.nd rfl (Or.inl rfl) (au T.aI (hr.mono (by first|decide|lia)) rfl (aa (pv 0) (aa (pv 1) af))))
   (ag (aC (i:=10) bg.nd rfl (Or.inl rfl) (au T.aI (hr.mono (by first|decide|lia)) rfl (aa (pv 0) (aa (pv 1) af))))
   (aj (j3 (fU (aa (aU (az (K:=K) rfl) (pv 3) (pv 10) (fun _ _=>rfl)) (aa (aU (az (K:=K) rfl) (pv 3) (pv 9) (fun _ _=>rfl)) af))) (cx (K:=K) (n:=2) rfl rfl (aO (ot (pv 3) (pv 9) set_list) (aO (ot (pv 3) (pv 10) set_list) cy))))))))
   (aj (ay (aF (bo (K:=K) rfl) rfl T.cu (by decide+kernel) (aa (pv 3) af))))) aE)
   (ag (aC (i:=4) bg.nd rfl (Or.inr rfl) (au T.aI (hr.mono (by first|decide|lia)) rfl (aa (pv 0) (aa (pv 1) af))))
   (ag (gX (i:=5) bg.nd rfl rfl (N:=(["_law_k","_law_left","_law_at","_law_purse_here","_law_n"]:List Str)) (ix:=([none,some 3,some 4,some 0,some 1]:List (Option Nat))) (aT rfl rfl) rfl (eI rfl T.bQ (aa (pv 1) af)) (fun _ _ _ _=>(aw (i:=0) (show List.Nodup (["_law_k","_law_left","_law_at","_law_purse_here","_law_n"]:List Str)from by decide+kernel) rfl (Or.inl rfl))) (fun _ _ _ _=>bc) (fun _ _ _ _=>(bZ (K:=K) rfl PySem.F.plainAttrs_list PySem.F.slot_list_pop PySem.F.type_list_pop ur (pv 1) (aa (av gC (av aS (pv 2) (au T.aI (hr.mono (by first|decide|lia)) rfl (aa (pv 3) (aa (pv 4) af)))) (ak (aL (K:=K) rfl) rfl T.bE (by decide+kernel) (aa (pv 1) af))) af))))
   (ag (aC (i:=6) bg.nd rfl (Or.inr rfl) uS)
   (ag (fi PassesOwn.never rfl (eI rfl T.bQ (aa (pv 1) af)) (aw (i:=7) bg.nd rfl (Or.inl rfl)) (aj (lq hu (pv 6) (aU (az (K:=K) rfl) (pv 5) (pv 7) (fun _ _=>rfl)) (aU (az (K:=K) rfl) (pv 5) (av gC (av aS (pv 7) ai) (pv 1)) (fun _ _=>rfl)) rfl)))
   (aj (ay (aF (bo (K:=K) rfl) rfl T.cu (by decide+kernel) (aa (bw (N:=(["_law_thing","_law_goals"]:List Str)) (ix:=([none,some 6]:List (Option Nat))) (aT rfl rfl) rfl (gQ rfl T.bQ (aa ai (aa (av aS (pv 1) ai) af))) (fun _ _ _ _=>(aw (i:=0) (show List.Nodup (["_law_thing","_law_goals"]:List Str)from by decide+kernel) rfl (Or.inl rfl))) (fun _ _ _ _=>bc) (fun _ _ _ _=>(jt hu (pv 1) (pv 0) (fun _ _=>rfl)))) af)))))))))))),?_⟩
  refine⟨_,rfl,p,c,4,rfl,pu,by lia,by decide,by decide,fun r H1 r0 r1 pu1 s1=>?_⟩;refine⟨_,rfl,_,_,rfl,rfl,.inr ⟨_,_,rfl,fun rg hrg=>⟨rg,_,_,rfl,ae,by lia,by lia,by lia,by lia,fun l hl=>?_⟩⟩⟩;have sa:aN p H (upd H1 rg (.m6 1 (n+1))):=s1.trans (aN.new hrg);have nl:H l=none:=by
   cases e:H l with
   |none=>rfl
   |some o=>
    by_cases z:l=p
    .obtain⟨xs,e'⟩:=(pu1.upd (pu1.ne hrg) (o:= .m6 1 (n+1))).at
     rw[z,e']at hl;cases hl
    .rw[sa l o z e]at hl
     cases hl
  have pu2:bD (upd (upd H1 rg (.m6 1 (n+1))) l (.lst ((bK 1 (n+1)).map V.int))) p (c+1):=by
   have p2:=pu1.upd (pu1.ne hrg) (o:= .m6 1 (n+1));exact p2.upd (p2.ne hl)
  have npl:p≠l:=pu.ne nl;have s2:aN p H (upd (upd H1 rg (.m6 1 (n+1))) l (.lst ((bK 1 (n+1)).map V.int))):=aN.put sa nl;have h2:upd (upd H1 rg (.m6 1 (n+1))) l (.lst ((bK 1 (n+1)).map V.int)) l=some (.lst ((bK 1 (n+1)).map V.int)):=ae;generalize upd (upd H1 rg (.m6 1 (n+1))) l (.lst ((bK 1 (n+1)).map V.int))=H2 at pu2 s2 h2⊢;clear sa s1 pu1 hl hrg;have big:(100000:Nat)<=M5:=by decide
  refine⟨_,rfl,_,_,rfl,rfl,_,rfl,cN (fun _=>?_) (fun _=>?_)⟩
  ·
   refine⟨MT _,fun lf hlf=>?_⟩;have nlf:l≠lf:=ao h2 hlf;have npf:p≠lf:=pu2.ne hlf;have hf:H lf=none:=dw s2 npf hlf;refine⟨_,rfl,_,rfl,by lia,by lia,?_⟩;refine eL (fun i σ H'=>∃fs ls v4 v5 v6 v7 v9 v10,σ=[some (.ref p),some (.int n),some (.int r),some (.ref l),v4,v5,v6,v7,some (.ref lf),v9,v10]/\aN p H H'/\H' l=some (.lst (ls.map V.int))/\H' lf=some (.lst (fs.map V.int))/\fs.length=i/\Ord n (fs++ls)/\bD H' p (c+1+i))
    ⟨[],bK 1 (n+1),_,_,_,_,_,_,rfl,aN.put s2 hf,by rw[aq nlf];exact h2,ae,rfl,fF n,pu2.upd npf⟩ ?_ ?_
   .rintro i σ H' hi ⟨fs,ls,v4,v5,v6,v7,v9,v10,rfl,s3,hl,hF,fl,o,pu3⟩
    have ol:=o.length;rw[Mw]at ol;refine⟨_,rfl,.inl ⟨rfl,_,aJ.of hF⟩,_,rfl,.inl ⟨rfl,_,aJ.of hl⟩,_,rfl,_,rfl,l,_,rfl,.inl (aJ.of hl),?_⟩;refine⟨p,_,_,rfl,pu3,by lia,by rw[Mu];lia,by rw[Mu];lia,fun r3 H4 r30 r31 pu4 s4=>?_⟩;rw[Mu]at r31;obtain⟨y,hy⟩:=iW (ns:=ls) (k:=r3.toNat) (by lia);have hl4:=s4 l _ npl.symm hl;have hF4:=s4 lf _ npf.symm hF;refine⟨l,_,r3,r3.toNat,_,rfl,rfl,hl4,by lia,by lia,(nG (ph r30 (by rw[Mu];exact r31))).1,xK hy,?_⟩;refine⟨lf,fs.map V.int,_,rfl,rfl,by rw[aq nlf.symm];exact hF4,by rw[Mu];lia,?_⟩;refine⟨fs++[y],ls.eraseIdx r3.toNat,v4,v5,v6,_,v9,v10,rfl,aN.put (aN.put (s3.trans s4) nl) hf,?_,?_,?_,uh o hy,?_⟩
    .rw[aq nlf,ae,kF]
    .rw[ae,My];rfl
    .rw[Mw,fl];rfl
    .exact(pu4.upd npl).upd npf
   .rintro σ H' ⟨fs,ls,v4,v5,v6,v7,v9,v10,rfl,s3,hl,hF,fl,o,pu3⟩
    have ol:=o.length;rw[Mw]at ol;have:ls=[]:=List.length_eq_zero_iff.mp (by lia);subst this;rw[MN]at o;refine⟨_,rfl,lf,_,rfl,.inl ⟨aJ.of hF,fun t ht=>?_⟩⟩;have npt:p≠t:=pu3.ne ht;exact k t fs _ (dw s3 npt ht) ae o ((pu3.upd npt).mono (by lia) (by lia)) (aN.put s3 (dw s3 npt ht))
  .refine⟨_,rfl,rfl,_,rfl,cN (fun _=>?_) (fun _=>?_)⟩
   ·
    refine⟨_,rfl,p,c+1,4,rfl,pu2,by lia,by decide,by decide,fun r2 H3 r20 r21 pu3 s3=>⟨_,rfl,by lia,by lia,?_⟩⟩;refine eL (fun i σ H'=>∃ls v4 v5 v6 v7 v8 v9 v10,σ=[some (.ref p),some (.int n),some (.int r),some (.ref l),v4,v5,v6,v7,v8,v9,v10]/\aN p H H'/\H' l=some (.lst (ls.map V.int))/\Ord n ls/\bD H' p (c+2+2*i))
     ⟨bK 1 (n+1),_,_,_,_,_,_,_,rfl,s2.trans s3,s3 l _ npl.symm h2,fF n,pu3⟩ ?_ ?_
    .rintro i σ H' hi ⟨ls,v4,v5,v6,v7,v8,v9,v10,rfl,s4,hl,o,pu4⟩
     have ol:=o.length;refine⟨_,rfl,_,rfl,p,_,_,rfl,pu4,by lia,by lia,by lia,fun a H5 a0 a1 pu5 s5=>?_⟩;refine⟨_,rfl,_,rfl,p,_,_,rfl,pu5,by lia,by lia,by lia,fun b H6 b0 b1 pu6 s6=>?_⟩;have hl6:=s6 l _ npl.symm (s5 l _ npl.symm hl);obtain⟨x,hx⟩:=iW (ns:=ls) (k:=a.toNat) (by lia);obtain⟨y,hy⟩:=iW (ns:=ls) (k:=b.toNat) (by lia);refine⟨_,rfl,_,rfl,l,_,_,_,rfl,rfl,aJ.of hl6,eY b0 hy,_,rfl,_,rfl,l,_,_,_,rfl,rfl,aJ.of hl6,eY a0 hx,(by show 2<=M5;decide),fun t ht=>?_⟩;have nlt:l≠t:=ao hl6 ht;have npt:p≠t:=pu6.ne ht;refine⟨t,_,rfl,dI.of ae,rfl,_,_,rfl,_,rfl,_,rfl,l,_,_,a.toNat,rfl,rfl,(by rw[aq nlt];exact hl6),ph a0 (by rw[Mu];lia),?_⟩;refine⟨_,_,rfl,_,rfl,_,rfl,l,_,_,b.toNat,rfl,rfl,ae,ph b0 (by rw[List.length_set,Mu];lia),rfl,?_⟩;refine⟨(ls.set a.toNat y).set b.toNat x,v4,v5,v6,_,v8,_,_,rfl,aN.put (aN.put (aN.put (s4.trans (s5.trans s6)) (dw (s4.trans (s5.trans s6)) npt ht)) nl) nl,?_,swap_perm o hx hy,?_⟩
     .rw[ae,List.map_set,List.map_set]
     .exact((((pu6.upd npt).upd npl).upd npl)).mono (by lia) (by lia)
    .rintro σ H' ⟨ls,v4,v5,v6,v7,v8,v9,v10,rfl,s4,hl,o,pu4⟩
     refine⟨_,rfl,l,_,rfl,.inl ⟨aJ.of hl,fun t ht=>?_⟩⟩;have npt:p≠t:=pu4.ne ht;exact k t ls _ (dw s4 npt ht) ae o ((pu4.upd npt).mono (by lia) (by lia)) (aN.put s4 (dw s4 npt ht))
   ·
    refine⟨_,rfl,_,rfl,p,_,_,rfl,pu2,by lia,by lia,by lia,fun a H3 a0 a1 pu3 s3=>?_⟩;have hl3:=s3 l _ npl.symm h2;refine⟨_,rfl,_,rfl,by lia,by lia,t6 (k:=0) (fun i ys σ' H'=>∃fs ls v,ys=fs.map V.int/\σ'=[v,some (.ref l),some (.int a),some (.ref p),some (.int n)]/\aN p H H'/\H' l=some (.lst (ls.map V.int))/\fs.length=i/\Ord n (fs++ls)/\bD H' p (c+2+i)) (by lia)
     ⟨[],bK 1 (n+1),none,rfl,rfl,s2.trans s3,hl3,rfl,fF n,pu3⟩ (fun i ys σ' H' ⟨fs,_,_,e,_,_,_,e2,_⟩=>by rw[e,Mu,e2];exact MP _) ?_ ?_⟩
    .rintro i ys σ' H' R hi ⟨fs,ls,v,rfl,rfl,s4,hl,fl,o,pu4⟩ done
     have ol:=o.length;rw[Mw]at ol;refine⟨_,rfl,.inl ⟨rfl,_,aJ.of hl⟩,_,rfl,_,rfl,_,rfl,p,_,_,rfl,pu4,by lia,by lia,by lia,fun r3 H5 r30 r31 pu5 s5=>?_⟩;have hl5:=s5 l _ npl.symm hl;have lpos:(0:Int)<((ls.map V.int).length:Int):=by rw[Mu];lia
     refine⟨_,_,rfl,rfl,_,rfl,l,_,rfl,.inl (aJ.of hl5),_,_,rfl,rfl,lpos,?_⟩;have m0:=Int.emod_nonneg (a+r3) (Int.ne_of_gt lpos);have m1:=Int.emod_lt_of_pos (a+r3) lpos;obtain⟨m,em⟩:∃m,(a+r3)%((ls.map V.int).length:Int)=m:=⟨_,rfl⟩;rw[em]at m0 m1;obtain⟨y,hy⟩:=iW (ns:=ls) (k:=m.toNat) (by rw[Mu]at m1;lia);refine⟨l,_,m,m.toNat,_,rfl,(by rw[←em]),hl5,by lia,(by rw[Mu]at m1;lia),(nG (ph m0 m1)).1,xK hy,done _ _ _ ?_⟩;refine⟨fs++[y],ls.eraseIdx m.toNat,_,by rw[My];rfl,rfl,aN.put (s4.trans s5) nl,?_,?_,uh o hy,pu5.upd npl⟩
     .rw[ae,kF]
     .rw[Mw,fl];rfl
    .rintro ys σ' H' ps ⟨fs,ls,v,rfl,rfl,s4,hl,fl,o,pu4⟩ hps
     have ol:=o.length;rw[Mw]at ol;have:ls=[]:=List.length_eq_zero_iff.mp (by lia);subst this;rw[MN]at o;have np1:p≠ps:=pu4.ne hps;have f1:H ps=none:=dw s4 np1 hps;have s5:=aN.put s4 f1 (o:= .lst (fs.map V.int));have pu5:=pu4.upd np1 (o:= .lst (fs.map V.int));have h5:upd H' ps (.lst (fs.map V.int)) ps=some (.lst (fs.map V.int)):=ae;generalize upd H' ps (.lst (fs.map V.int))=H5 at s5 pu5 h5⊢;refine fun pd hpd=>?_;have np2:p≠pd:=pu5.ne hpd;have f2:H pd=none:=dw s5 np2 hpd;have n12:ps≠pd:=ao h5 hpd;have nz:∀{i:Nat}{x:Int},fs[i]?=some x->xk fs x=fs.getD ((i+1)%fs.length) 0:=fun h=>CK o.nodup h;refine⟨_,rfl,_,rfl,by lia,by lia,?_⟩;refine eL (fun i σ H'=>∃kvs v7 v8 v9 v10,σ=[some (.ref p),some (.int n),some (.int r),some (.ref l),some (.int a),some (.ref ps),some (.ref pd),v7,v8,v9,v10]/\aN p H H'/\H' ps=some (.lst (fs.map V.int))/\H' pd=some (.dK kvs)/\kvs.length<=i/\(∀j x,j<i->fs[j]?=some x->cj kvs (Sum.inl x:Key)=some (.int (xk fs x)))/\bD H' p (c+200))
      ⟨[],_,_,_,_,rfl,aN.put s5 f2,by rw[aq n12];exact h5,ae,MP _,fun j x h=>absurd h (Nat.not_lt_zero _),(pu5.upd np2).mono (by lia) (by lia)⟩ ?_ ?_
     .rintro i σ H' hi ⟨kvs,v7,v8,v9,v10,rfl,s6,h6,hd6,kl,kv,pu6⟩
      obtain⟨x,hx⟩:=iW (ns:=fs) (k:=i) (by lia);have lpos:(0:Int)<n:=by lia
      have fln:(fs.length:Int)=n:=by lia
      have ei:((i:Int)+1)%n=(((i+1)%fs.length:Nat):Int):=by rw[←fln];rfl
      obtain⟨y,hy⟩:=iW (ns:=fs) (k:=(i+1)%fs.length) (Nat.mod_lt _ (by lia));have hy':fs[(((i:Int)+1)%n).toNat]?=some y:=by rw[ei,Int.toNat_natCast];exact hy
      have hx':fs[(0+(i:Int)).toNat]?=some x:=by rw[Int.zero_add,Int.toNat_natCast];exact hx
      have ny:xk fs x=y:=by rw[nz hx,ME,hy];rfl
      refine⟨_,rfl,_,rfl,_,_,rfl,rfl,_,rfl,_,_,rfl,rfl,lpos,ps,_,_,_,rfl,rfl,aJ.of h6,eY (Int.emod_nonneg _ (by lia)) (by rw[Int.zero_add];exact hy'),?_⟩;refine⟨_,rfl,_,rfl,_,rfl,ps,_,_,_,rfl,rfl,aJ.of h6,eY (by lia) hx',pd,_,rfl,rM.k (k:=Sum.inl x) hd6 (by lia),?_⟩;refine⟨putK kvs (Sum.inl x) (.int y),_,v8,v9,v10,rfl,aN.put s6 f2,by rw[aq n12];exact h6,ae,?_,?_,pu6.upd np2⟩
      .have:=fX kvs (Sum.inl x:Key) (.int y)
       lia
      .intro j z hj hz
       rw[o8];by_cases e:z=x
       .subst e
        rw[if_pos rfl,ny]
       .rw[if_neg (by intro q;apply e;cases q;rfl)]
        have:j≠i:=by intro q;subst q;rw[hx]at hz;cases hz;exact e rfl
        exact kv j z (by lia) hz
     .rintro σ H' ⟨kvs,v7,v8,v9,v10,rfl,s6,h6,hd6,kl,kv,pu6⟩
      refine⟨_,rfl,_,_,rfl,rfl,1,n+1,rfl,⟨by decide,by decide,by lia,by lia⟩,t6 (k:=0) (fun i ys σ' H''=>ys=((bK 1 (n+1)).take i).map (fun x=>V.int (xk fs x))/\(∃v,σ'=[v,some (.ref pd)])/\H''=H') (by lia) ⟨rfl,⟨none,rfl⟩,rfl⟩
       (fun i ys σ' H'' q=>by rw[q.1,Mu,MB];lia) ?_ ?_⟩
      .rintro i ys σ' H'' R hi ⟨rfl,⟨v,rfl⟩,rfl⟩ done
       have hin:1+(i:Int)∈fs:=o.mem.mpr (by lia);obtain⟨j,hj,hj2⟩:=Hs hin;refine⟨_,rfl,_,rfl,pd,.int (xk fs (1+(i:Int))),rfl,?_,done _ _ _ ⟨?_,⟨_,rfl⟩,rfl⟩⟩
       .have q:=dg.k (k:=(Sum.inl (1+(i:Int)):Key)) hd6
        rw[kv j _ (by lia) hj]at q;exact q
       .exact(bh (fun x=>V.int (xk fs x)) (bR hi)).symm
      .rintro ys σ' H'' pl ⟨rfl,_,rfl⟩ hpl
       have np3:p≠pl:=pu6.ne hpl;have f3:=dw s6 np3 hpl;refine⟨pl,_,rfl,.inl ⟨aJ.of ae,fun t ht=>?_⟩⟩;have pu7:=pu6.upd np3 (o:= .lst (((bK 1 (n+1)).take (n+1-1).toNat).map (fun x=>V.int (xk fs x))));have s7:=aN.put s6 f3 (o:= .lst (((bK 1 (n+1)).take (n+1-1).toNat).map (fun x=>V.int (xk fs x))));have npt:p≠t:=pu7.ne ht;refine k t ((bK 1 (n+1)).map (xk fs)) _ (dw s7 npt ht) ?_ (ET o) ((pu7.upd npt).mono (by lia) (by lia)) (aN.put s7 (dw s7 npt ht));rw[ae,MD,MI (by rw[aB];exact MP _)];rfl
end
def RG(n:Int)(k:Nat)(H:Hp)(v:V):Prop:=∃R,cY H v R/\Good n R/\R.length<=k
theorem RG.same {n:Int}{k:Nat}{H H':Hp}{v:V}(h:RG n k H v)(s:ah H H'):RG n k H' v:=by
 obtain⟨R,a,b⟩:=h;exact⟨R,a.same s,b⟩
theorem RG.x {n:Int}{k c:Nat}{p:MY}{H H':Hp}{v:V}(h:RG n k H v)(pu:bD H p c)(s:aN p H H'):RG n k H' v:=by
 obtain⟨R,⟨l,es,rfl,h1,h2⟩,b⟩:=h;refine⟨R,⟨l,es,rfl,s _ _ (fun z=>?_) h1,aN.FY s pu h2⟩,b⟩;obtain⟨x,y,z',e,_⟩:=pu.ex;rw[z,e]at h1;cases h1;cases h2
theorem IF{K:W.Frag}{n:Int}{k:Nat}{H:Hp}{v:V}{lo hi:Option Int}{Q:VK}(h:RG n k H v)(q:∀v' H',RG n k H' v'->ah H H'->Q v' H'):Ha K v lo hi H Q:=by
 obtain⟨R,⟨l,es,rfl,h1,h2⟩,g,b⟩:=h;obtain⟨R',x,m,z⟩:∃R',dD H (fg es lo hi) R'/\(∀e∈R',e∈R)/\R'.length<=R.length:=by
  unfold fg;exact⟨_,(h2.drop _).yI _,fun e he=>List.mem_of_mem_drop (List.mem_of_mem_take he),by rw[MB,List.length_drop];lia⟩
 exact⟨l,es,rfl,aJ.of h1,fun p fp=>q _ _ ⟨R',⟨p,_,rfl,ae,x.keep (ah.bH (ah.new fp))⟩,fun e he=>g e (m e he),by lia⟩ (ah.new fp)⟩
theorem Bw{n:Int}{k m:Nat}{H:Hp}{v w:V}{Q:VK}(h1:RG n k H v)(h2:RG n m H w)(b:k+m<=1000)(q:∀v' H',RG n (k+m) H' v'->ah H H'->Q v' H'):JK v w H Q:=by
 obtain⟨R,⟨l,es,rfl,a1,a2⟩,g,c⟩:=h1;obtain⟨S,⟨l',es',rfl,b1,b2⟩,g',c'⟩:=h2;have e1:=a2.length;have e2:=b2.length;have big:(10000000:Nat)<=M5:=by decide
 refine⟨l,l',es,es',rfl,rfl,a1,b1,by lia,fun p fp=>q _ _ ⟨R++S,⟨p,_,rfl,ae,(a2.append b2).keep (ah.bH (ah.new fp))⟩,fun e he=>?_,by rw[Mw];lia⟩ (ah.new fp)⟩;rcases List.mem_append.mp he with he|he
 .exact g e he
 .exact g' e he
theorem Gq{t u:TS}{D:Ends}{σ:St}{H:Hp}(R:St->Hp->Prop)(h1:∀D':Ends,(∀σ' H',R σ' H'->D'.nx σ' H')->D'.rt=D.rt->t D' σ H)(h2:∀σ' H',R σ' H'->u D σ' H'):u6 t u D σ H:=h1 _ h2 rfl
def Bf:Sp:=fun vs H Q _=>∃(p l:MY)(c:Nat)(n:Int)(es:List V)(R:List (Int×Int)),vs=[.ref p,.int n,.ref l]/\bD H p c/\c<=50000/\1<=n/\n<=12/\p≠l/\H l=some (.lst es)/\dD H es R/\Good n R/\R.length<=12/\∀v R' c' H',cY H' v R'->Good n R'->R'.length<=60->c'<=c+2000->bD H' p c'->aN p H H'->Q v H'
structure Jj(P:M0)(w:M3)(K:W.Frag)(mg:Str->Option MX)(base:Nc):Prop extends T1 mg K where
 aI:FnAt P w K mg base "_law_take" 1 ["_law_purse_here","_law_many"] mH
 kH:FnAt P w K mg base "_law_order" 3 ["_law_purse_here","_law_n"] yQ
 bM:FnAt P w K mg base "_law_least_row" 2 ["_law_purse_here","_law_order_here"] xM
section
variable{P:M0}{w:M3}{K:W.Frag}{mg:Str->Option MX}{base:Nc}
theorem eN:aA ["_law_purse_here","_law_n","_law_row","_law_sort","_law_at","_law_m"] ["_law_purse_here","_law_n","_law_row"] (ar (top 126)):=⟨rfl,rfl,rfl,by decide+kernel,rfl,by decide+kernel,by decide+kernel⟩
theorem DE{f:MY}{fd:Nb}(F:dO K "_law_other" "_law_other" (top 126) f fd)(T:Jj P w K mg base):aR P w K mg base gh 4 f fd ["_law_purse_here","_law_n","_law_row"] Bf:=by
 refine F.ok eN (fun vs H Q E h=>?_) (fun cdv A outer s H vs Q E hr h=>?_)
 .obtain⟨p,l,c,n,es,R,rfl,_⟩:=h
  rfl
 .obtain⟨p,l,c,n,es,R,rfl,pu,hc,n1,n2,npl,hl,hx,hg,l12,k⟩:=h
  refine⟨_,(ag (aC (i:=3) eN.nd rfl (Or.inl rfl) (au T.aI (hr.mono (by first|decide|lia)) rfl (aa (pv 0) (aa ai af))))
   (ag (aC (i:=4) eN.nd rfl (Or.inl rfl) (au T.aI (hr.mono (by first|decide|lia)) rfl (aa (pv 0) (aa (av aS (ak (aL (K:=K) rfl) rfl T.bE (by decide+kernel) (aa (pv 2) af)) ai) af))))
   (ag (a8 (ax cR (pv 3) ai (aG _)) (aj (ay (av dM (bN (bO (K:=K) rfl) (pv 2) cJ (cP (pv 4))) (bN (bO (K:=K) rfl) (pv 2) (cP (av aS (pv 4) ai)) cJ)))) aE)
   (ag (a8 (PW.pt (mL (ax cR (pv 3) ai (aG _)) (jx (ax jS (pv 1) ai (aG _))))) (aj (ay (av dM (av dM (bN (bO (K:=K) rfl) (pv 2) cJ (cP (pv 4))) (bu (aa (fU (aa ai (aa (av aS ai (au T.aI (hr.mono (by first|decide|lia)) rfl (aa (pv 0) (aa (av bU (pv 1) ai) af)))) af))) af))) (bN (bO (K:=K) rfl) (pv 2) (cP (pv 4)) cJ)))) aE)
   (ag (a8 (PW.pt (mL (ax cR (pv 3) ai (aG _)) (jx (uT oK oK ai (pv 4) (ak (aL (K:=K) rfl) rfl T.bE (by decide+kernel) (aa (pv 2) af)))))) (aj (ay (av dM (av dM (bN (bO (K:=K) rfl) (pv 2) cJ (cP (av bU (pv 4) ai))) (bu (aa (aU (az (K:=K) rfl) (pv 2) (pv 4) (fun _ _=>rfl)) (aa (aU (az (K:=K) rfl) (pv 2) (av bU (pv 4) ai) (fun _ _=>rfl)) af)))) (bN (bO (K:=K) rfl) (pv 2) (cP (av aS (pv 4) ai)) cJ)))) aE)
   (ag (a8 (ax cR (pv 3) ai (aG _)) (aj (ay (au T.bM (hr.mono (by first|decide|lia)) rfl (aa (pv 0) (aa (au T.kH (hr.mono (by first|decide|lia)) rfl (aa (pv 0) (aa (pv 1) af))) af))))) aE)
   (ag (a8 (PW.pt (mL (ax cR (pv 3) ai (aG _)) (jx (ax jS (pv 1) ai (aG _))))) (ag (aC (i:=5) eN.nd rfl (Or.inl rfl) (av aS ai (au T.aI (hr.mono (by first|decide|lia)) rfl (aa (pv 0) (aa (av bU (pv 1) ai) af)))))
   (aj (ay (au T.bM (hr.mono (by first|decide|lia)) rfl (aa (pv 0) (aa (av (rQ (K:=K) rfl) (aF (dU rfl) rfl T.cu (by decide+kernel) (aa (aF fL rfl T.bQ (by decide+kernel) (aa ai (aa (av aS (pv 5) ai) af))) af)) (fU (aa ai af))) af)))))) aE)
   (aj (ay (pv 2)))))))))),?_⟩
  have big:(10000000:Nat)<=M5:=by decide
  have el:=hx.length;refine⟨_,rfl,p,c,8,rfl,pu,by lia,by decide,by decide,fun so H1 so0 so1 pu1 s1=>?_⟩;have hl1:=s1 _ _ npl.symm hl;refine⟨_,rfl,_,rfl,l,_,rfl,.inl (aJ.of hl1),_,_,rfl,rfl,p,_,_,rfl,pu1,by lia,by lia,by lia,fun at_ H2 at0 at1 pu2 s2=>?_⟩;have s12:=s1.trans s2;have hl2:=s2 _ _ npl.symm hl1;have hx2:=aN.FY s2 pu1 (aN.FY s1 pu hx);rw[el]at at1;have rg:RG n 12 H2 (.ref l):=⟨R,⟨l,es,rfl,hl2,hx2⟩,hg,l12⟩;have fin:∀v H' m c',RG n m H' v->m<=60->c'<=c+2000->bD H' p c'->aN p H2 H'->Q v H':=fun v H' m c' ⟨R',a,b,d⟩ hm hc' pu' s'=>k v R' c' H' a b (by lia) hc' pu' (s12.trans s');refine⟨_,rfl,rfl,_,rfl,cN (fun c0=>?_) (fun c0=>?_)⟩
  .refine⟨_,rfl,?_⟩
   dsimp only[dG];refine⟨_,rfl,_,rfl,IF rg fun v1 H3 r1 s3=>⟨_,rfl,_,rfl,_,_,rfl,rfl,_,rfl,?_⟩⟩;dsimp only[dG];refine IF (rg.same s3) fun v2 H4 r2 s4=>Bw (r1.same s4) r2 (by decide) fun v3 H5 r3 s5=>?_;have s25:=s3.trans (s4.trans s5);exact fin v3 H5 _ _ r3 (by decide) (by lia) (pu2.keep s25) s25.x
  dsimp only[yw];obtain⟨σ0,e0⟩:∃σ0:St,σ0=[some (.ref p),some (.int n),some (.ref l),some (.int so),some (.int at_),none]:=⟨_,rfl⟩;show u6 _ _ _ [some (.ref p),some (.int n),some (.ref l),some (.int so),some (.int at_),none] H2;refine Gq (fun σ' H'=>σ'=σ0/\H'=H2) (fun D' hD hrt=>?_) ?_
  .have nx:D'.nx [some (.ref p),some (.int n),some (.ref l),some (.int so),some (.int at_),none] H2:=hD _ _ ⟨e0.symm,rfl⟩
   refine⟨_,rfl,rfl,_,rfl,cN (fun c1=>?_) (fun c1=>nx)⟩;refine⟨_,rfl,_,_,rfl,rfl,_,rfl,cN (fun c2=>?_) (fun c2=>nx)⟩;have c2:1<n:=of_decide_eq_true c2;refine⟨_,rfl,?_⟩;dsimp only[dG];refine⟨_,rfl,_,rfl,IF rg fun v1 H3 r1 s3=>?_⟩;have pu3:=pu2.keep s3;refine⟨_,rfl,_,rfl,_,_,rfl,rfl,p,_,_,rfl,pu3,by lia,by lia,by lia,fun r H4 r0 r1' pu4 s4=>⟨_,_,rfl,rfl,(by show 2<=M5;lia),fun t ft=>⟨(by show 1<=M5;lia),fun q fq=>?_⟩⟩⟩;have rq:RG n 1 (upd (upd H4 t (HO.tup [V.int 1,V.int (2+r)])) q (HO.lst [V.ref t])) (.ref q):=⟨[(1,2+r)],⟨q,_,rfl,ae,.cons (ah.new fq _ _ ae) .nil⟩,fun e he=>by rw[List.mem_singleton.mp he];dsimp only;lia,MP _⟩;have sq:=(ah.new (o:= .tup [V.int 1,V.int (2+r)]) ft).trans (ah.new (o:= .lst [V.ref t]) fq);have r1q:=(r1.x pu3 s4).same sq;have rgq:=((rg.same s3).x pu3 s4).same sq;have sX:=aN.trans (s3.x (p:=p)) (aN.trans s4 sq.x);have pu5:=pu4.keep sq;generalize upd (upd H4 t (HO.tup [V.int 1,V.int (2+r)])) q (HO.lst [V.ref t])=H5 at rq r1q rgq sX pu5;refine Bw r1q rq (by decide) fun v2 H6 r6 s6=>⟨_,rfl,_,rfl,?_⟩;dsimp only[dG];refine⟨_,rfl,IF (rgq.same s6) fun v3 H7 r7 s7=>Bw (r6.same s7) r7 (by decide) fun v4 H8 r8 s8=>?_⟩;rw[hrt];exact fin v4 H8 _ _ r8 (by decide) (by lia) (pu5.keep (s6.trans (s7.trans s8))) (aN.trans sX (s6.trans (s7.trans s8)).x)
  rintro σ' H' ⟨eσ,eH⟩;rw[eσ,eH,e0];refine Gq (fun σ' H'=>σ'=[some (.ref p),some (.int n),some (.ref l),some (.int so),some (.int at_),none]/\H'=H2) (fun D' hD hrt=>?_) ?_
  .have nx:D'.nx [some (.ref p),some (.int n),some (.ref l),some (.int so),some (.int at_),none] H2:=hD _ _ ⟨rfl,rfl⟩
   refine⟨_,rfl,rfl,_,rfl,cN (fun c1=>?_) (fun c1=>nx)⟩;refine⟨_,rfl,_,_,rfl,rfl,_,rfl,?_⟩;by_cases c2:0<at_
   case neg=>rw[if_neg (by simpa using c2)];exact⟨_,rfl,nx⟩
   rw[if_pos (by simpa using c2)];refine⟨_,rfl,l,_,rfl,.inl (aJ.of hl2),_,_,rfl,rfl,_,rfl,cN (fun c3=>?_) (fun c3=>nx)⟩;have c3:at_<es.length:=of_decide_eq_true c3
   obtain⟨x1,hv1⟩:∃v,es[at_.toNat]?=some v:=⟨_,Mx (by lia)⟩;obtain⟨x2,hv2⟩:∃v,es[(at_-1).toNat]?=some v:=⟨_,Mx (by lia)⟩;obtain⟨t1,a1,b1,rfl,ht1,hr1⟩:=hx2.get hv1;obtain⟨t2,a2,b2,rfl,ht2,hr2⟩:=hx2.get hv2;have ge1:=hg _ (MF hr1);have ge2:=hg _ (MF hr2);refine⟨_,rfl,?_⟩;dsimp only[dG];refine⟨_,rfl,_,_,rfl,rfl,_,rfl,IF rg fun v1 H3 r1 s3=>?_⟩;refine⟨_,rfl,_,rfl,l,_,_,_,rfl,rfl,aJ.of (s3 _ _ hl2),kT at0 hv1,_,rfl,_,rfl,_,_,rfl,rfl,l,_,_,_,rfl,rfl,aJ.of (s3 _ _ hl2),kT (by lia) hv2,(by show 2<=M5;lia),fun q fq=>?_⟩;have sq:=ah.new (o:= .lst [V.ref t1,V.ref t2]) fq;have s3q:=s3.trans sq;have rq:RG n 2 (upd H3 q (.lst [V.ref t1,V.ref t2])) (.ref q):=⟨[(a1,b1),(a2,b2)],⟨q,_,rfl,ae,.cons (s3q _ _ ht1) (.cons (s3q _ _ ht2) .nil)⟩,fun e he=>by
    rcases List.mem_cons.mp he with rfl|he
    .exact ge1
    .rw[List.mem_singleton.mp he];exact ge2,MP _⟩
   generalize upd H3 q (.lst [V.ref t1,V.ref t2])=H4 at rq sq s3q;refine Bw (r1.same sq) rq (by decide) fun v2 H5 r5 s5=>⟨_,rfl,_,rfl,_,_,rfl,rfl,_,rfl,?_⟩;dsimp only[dG];refine IF ((rg.same s3q).same s5) fun v3 H6 r6 s6=>Bw (r5.same s6) r6 (by decide) fun v4 H7 r7 s7=>?_;have s27:=s3q.trans (s5.trans (s6.trans s7));rw[hrt];exact fin v4 H7 _ _ r7 (by decide) (by lia) (pu2.keep s27) s27.x
  rintro σ' H' ⟨eσ,eH⟩;rw[eσ,eH];refine⟨_,rfl,rfl,_,rfl,cN (fun c1=>?_) (fun c1=>?_)⟩
  .refine⟨_,rfl,_,rfl,_,rfl,p,_,n,rfl,pu2,by lia,n1,by lia,fun t xs H3 ft ht o pu3 s3=>?_⟩
   refine⟨p,_,t,n,xs,rfl,pu3,by lia,ht,o,n1,by lia,fun l' es' row H4 fl hl' x' g' e' len pu4 s4=>?_⟩;exact fin _ H4 12 _ ⟨row,⟨l',es',rfl,hl',x'⟩,g',by lia⟩ (by decide) (by lia) pu4 (aN.trans s3 s4)
  dsimp only[yw];refine Gq (fun σ' H'=>σ'=[some (.ref p),some (.int n),some (.ref l),some (.int so),some (.int at_),none]/\H'=H2) (fun D' hD hrt=>?_) ?_
  .have nx:D'.nx [some (.ref p),some (.int n),some (.ref l),some (.int so),some (.int at_),none] H2:=hD _ _ ⟨rfl,rfl⟩
   refine⟨_,rfl,rfl,_,rfl,cN (fun c1=>?_) (fun c1=>nx)⟩;refine⟨_,rfl,_,_,rfl,rfl,_,rfl,cN (fun c2=>?_) (fun c2=>nx)⟩;have c2:1<n:=of_decide_eq_true c2;refine⟨_,rfl,_,rfl,_,_,rfl,rfl,p,_,_,rfl,pu2,by lia,by lia,by lia,fun r H3 r0 r1' pu3 s3=>⟨_,_,rfl,rfl,?_⟩⟩;refine⟨_,rfl,Lj (n:=1+r) (by lia) (by lia) rfl fun t H4 ft ht s4=>?_⟩;refine⟨p,_,t,1+r,_,rfl,pu3.keep s4,by lia,ht,Cf (by lia),by lia,by lia,fun l' es' row H5 fl hl' x' g' e' len pu5 s5=>?_⟩;rw[hrt];exact fin _ H5 12 _ ⟨row,⟨l',es',rfl,hl',x'⟩,fun e he=>by have:=g' e he;lia,by lia⟩ (by decide) (by lia) pu5 (aN.trans s3 (aN.trans s4.x s5))
  rintro σ' H' ⟨eσ,eH⟩;rw[eσ,eH];exact⟨_,rfl,fin _ H2 12 _ rg (by decide) (by lia) pu2 (ah.refl _).x⟩
end
def FT:Sp:=fun vs H Q _=>∃(l:MY)(es:List V)(row:List (Int×Int))(k n:Int)(f:Bool),vs=[.ref l,.int k,.str (fN f)]/\H l=some (.lst es)/\dD H es row/\Good n row/\row.length<=1000/\1<=k/\k<row.length/\∀l' es' H',H l'=none->H' l'=some (.lst es')->dD H' es' (uB row (k-1).toNat f)->ah H H'->Q (.ref l') H'
structure LV(P:M0)(w:M3)(K:W.Frag)(mg:Str->Option MX)(base:Nc):Prop extends T1 mg K where
 iF:mg "min" =none
 kr:mg "max" =none
theorem BI(p q:Int):(if q<p then q else p)=min p q:=by split<;>lia
theorem CF(p q:Int):(if q>p then q else p)=max p q:=by split<;>lia
section
variable{P:M0}{w:M3}{K:W.Frag}{mg:Str->Option MX}{base:Nc}
theorem bC:aA ["_law_row","_law_k","_law_way","_law_one","_law_other_here","_law_c","_law_d","_law_a","_law_b"] ["_law_row","_law_k","_law_way"] (ar (top 122)):=⟨rfl,rfl,rfl,by decide+kernel,rfl,by decide+kernel,by decide+kernel⟩
theorem Hk{f:MY}{fd:Nb}(F:dO K "_law_moved" "_law_moved" (top 122) f fd)(T:LV P w K mg base):aR P w K mg base gh 1 f fd ["_law_row","_law_k","_law_way"] FT:=by
 refine F.ok bC (fun vs H Q E h=>?_) (fun cdv A outer s H vs Q E hr h=>?_)
 .obtain⟨l,es,row,k,n,fw,rfl,_⟩:=h
  rfl
 .obtain⟨l,es,row,k,n,fw,rfl,hl,hx,hg,rl,k1,k2,kk⟩:=h
  have hu:=kJ hr;refine⟨_,(ag (j3 (fU (aa (aU (az (K:=K) rfl) (pv 0) (av bU (pv 1) ai) (fun _ _=>rfl)) (aa (aU (az (K:=K) rfl) (pv 0) (pv 1) (fun _ _=>rfl)) af))) (cx (K:=K) (n:=2) rfl rfl (aO (cx (K:=K) (n:=2) rfl rfl (aO (aw (i:=7) bC.nd rfl (Or.inl rfl)) (aO (aw (i:=8) bC.nd rfl (Or.inl rfl)) cy))) (aO (cx (K:=K) (n:=2) rfl rfl (aO (aw (i:=5) bC.nd rfl (Or.inl rfl)) (aO (aw (i:=6) bC.nd rfl (Or.inl rfl)) cy))) cy))))
   (ag (a8 (ax cR (pv 2) aK (aG _)) (ag (aC (i:=3) bC.nd rfl (Or.inl rfl) (gJ hu (fY (bW (pv 5) (pv 6) (bW (pv 6) (pv 5) gj)) rfl rfl (by simp) (by decide)) (pv 7) (pv 7) ⟨rfl,rfl,rfl,rfl⟩))
   (ag (aC (i:=4) bC.nd rfl (Or.inl rfl) (gJ hu (fY (bW (pv 5) (pv 6) (bW (pv 6) (pv 5) gj)) rfl rfl (by simp) (by decide)) (pv 8) (pv 8) ⟨rfl,rfl,rfl,rfl⟩))
   (aj (ay (av dM (av dM (bN (bO (K:=K) rfl) (pv 0) cJ (cP (av bU (pv 1) ai))) (bu (aa (fU (aa (pv 5) (aa (pv 6) af))) (aa (fU (aa (ak (jn rfl) rfl T.iF (by decide+kernel) (aa (pv 3) (aa (pv 4) af))) (aa (ak (jC rfl) rfl T.kr (by decide+kernel) (aa (pv 3) (aa (pv 4) af))) af))) af)))) (bN (bO (K:=K) rfl) (pv 0) (cP (av aS (pv 1) ai)) cJ)))))) aE)
   (ag (aC (i:=3) bC.nd rfl (Or.inl rfl) (gJ hu (fY (bW (pv 7) (pv 8) (bW (pv 8) (pv 7) gj)) rfl rfl (by simp) (by decide)) (pv 5) (pv 5) ⟨rfl,rfl,rfl,rfl⟩))
   (ag (aC (i:=4) bC.nd rfl (Or.inl rfl) (gJ hu (fY (bW (pv 7) (pv 8) (bW (pv 8) (pv 7) gj)) rfl rfl (by simp) (by decide)) (pv 6) (pv 6) ⟨rfl,rfl,rfl,rfl⟩))
   (aj (ay (av dM (av dM (bN (bO (K:=K) rfl) (pv 0) cJ (cP (av bU (pv 1) ai))) (bu (aa (fU (aa (ak (jn rfl) rfl T.iF (by decide+kernel) (aa (pv 3) (aa (pv 4) af))) (aa (ak (jC rfl) rfl T.kr (by decide+kernel) (aa (pv 3) (aa (pv 4) af))) af))) (aa (fU (aa (pv 7) (aa (pv 8) af))) af)))) (bN (bO (K:=K) rfl) (pv 0) (cP (av aS (pv 1) ai)) cJ)))))))),?_⟩
  have big:(10000000:Nat)<=M5:=by decide
  have two:2<=M5:=by decide
  have xl:=hx.length;obtain⟨v1,hv1⟩:∃v,es[(k-1).toNat]?=some v:=⟨_,Mx (by lia)⟩;obtain⟨v2,hv2⟩:∃v,es[k.toNat]?=some v:=⟨_,Mx (by lia)⟩;obtain⟨ts,a,b,rfl,hts,hr1⟩:=hx.get hv1;obtain⟨tt,c,d,rfl,htt,hr2⟩:=hx.get hv2;have er1:row.getD (k-1).toNat (0,0)=(a,b):=by rw[ME,hr1];rfl
  have er2:row.getD ((k-1).toNat+1) (0,0)=(c,d):=by rw[show(k-1).toNat+1=k.toNat by lia,ME,hr2];rfl
  have g1:=hg (a,b) (MF hr1);have g2:=hg (c,d) (MF hr2);simp only at g1 g2;have at1:uu es (k-1)=some (.ref ts):=by rw[←Int.toNat_of_nonneg (show 0<=k-1 by lia)];exact aZ hv1
  have at2:uu es k=some (.ref tt):=by rw[←Int.toNat_of_nonneg (show 0<=k by lia)];exact aZ hv2
  refine⟨_,rfl,_,rfl,_,_,rfl,rfl,l,_,_,_,rfl,rfl,aJ.of hl,at1,_,rfl,_,rfl,l,_,_,_,rfl,rfl,aJ.of hl,at2,two,fun tp ftp=>?_⟩;have s1:ah H (upd H tp (.tup [.ref ts,.ref tt])):=ah.new ftp;have htp:upd H tp (.tup [.ref ts,.ref tt]) tp=some (.tup [.ref ts,.ref tt]):=ae;generalize upd H tp (.tup [.ref ts,.ref tt])=H1 at s1 htp⊢;refine⟨tp,_,rfl,dI.of htp,rfl,_,_,rfl,ts,_,rfl,dI.of (s1 _ _ hts),rfl,_,_,rfl,_,_,rfl,rfl,?_⟩;refine⟨_,_,rfl,tt,_,rfl,dI.of (s1 _ _ htt),rfl,_,_,rfl,_,_,rfl,rfl,rfl,?_⟩;refine⟨_,rfl,rfl,_,rfl,?_⟩
  cases fw with
  |true=>
   refine cN (fun _=>?_) (fun c=>absurd (decide_eq_true rfl) c);have ne:c≠d:=by lia
   refine fun p1 f1=>⟨_,rfl,_,rfl,_,rfl,_,rfl,ae,[(Sum.inl c,.int d),(Sum.inl d,.int c)],rfl,(show 2<=15 by decide),p1,rfl,.inl ⟨_,.inl ae⟩,_,rfl,_,rfl,_,dg.k (k:=Sum.inl a) ae,?_⟩;rw[gT _ _ _ ne];have s2:ah H1 (upd (upd H1 p1 (.dK [])) p1 (.dK (cb [] [(Sum.inl c,.int d),(Sum.inl d,.int c)]))):=fun b o e=>by
    rw[aq (ao e f1),aq (ao e f1)];exact e
   generalize upd (upd H1 p1 (.dK [])) p1 (.dK (cb [] [(Sum.inl c,.int d),(Sum.inl d,.int c)]))=H2 at s2⊢;refine fun p2 f2=>⟨_,rfl,_,rfl,_,rfl,_,rfl,ae,[(Sum.inl c,.int d),(Sum.inl d,.int c)],rfl,(show 2<=15 by decide),p2,rfl,.inl ⟨_,.inl ae⟩,_,rfl,_,rfl,_,dg.k (k:=Sum.inl b) ae,?_⟩;rw[gT _ _ _ ne];have s3:ah H2 (upd (upd H2 p2 (.dK [])) p2 (.dK (cb [] [(Sum.inl c,.int d),(Sum.inl d,.int c)]))):=fun b o e=>by
    rw[aq (ao e f2),aq (ao e f2)];exact e
   generalize upd (upd H2 p2 (.dK [])) p2 (.dK (cb [] [(Sum.inl c,.int d),(Sum.inl d,.int c)]))=H3 at s3⊢;have s3:=(s1.trans s2).trans s3;refine⟨_,rfl,_,rfl,_,_,rfl,rfl,k-1,rfl,l,es,rfl,aJ.of (s3 _ _ hl),fun q1 e1=>?_⟩;rw[Dq (by lia) (by lia)];have s4:ah H3 (upd H3 q1 (.lst (es.take (k-1).toNat))):=ah.new e1;have h4:upd H3 q1 (.lst (es.take (k-1).toNat)) q1=some (.lst (es.take (k-1).toNat)):=ae;generalize upd H3 q1 (.lst (es.take (k-1).toNat))=H4 at s4 h4⊢;refine⟨_,rfl,_,rfl,two,fun tq1 ftq1=>⟨_,rfl,_,rfl,_,_,rfl,_,rfl,_,rfl,_,_,rfl,two,fun tq2 ftq2=>⟨two,fun lp flp=>?_⟩⟩⟩;have k1:ah H4 (upd H4 tq1 (.tup [.int c,.int d])):=ah.new ftq1;have z1:upd H4 tq1 (.tup [.int c,.int d]) tq1=some (.tup [.int c,.int d]):=ae;generalize upd H4 tq1 (.tup [.int c,.int d])=H5 at k1 z1 ftq2 flp⊢;have k2:ah H5 (upd H5 tq2 (.tup [.int (if aQ b (c,d)<aQ a (c,d)then aQ b (c,d)else aQ a (c,d)),.int (if aQ b (c,d)>aQ a (c,d)then aQ b (c,d)else aQ a (c,d))])):=ah.new ftq2;have z2:upd H5 tq2 (.tup [.int (if aQ b (c,d)<aQ a (c,d)then aQ b (c,d)else aQ a (c,d)),.int (if aQ b (c,d)>aQ a (c,d)then aQ b (c,d)else aQ a (c,d))]) tq2=some (.tup [.int (if aQ b (c,d)<aQ a (c,d)then aQ b (c,d)else aQ a (c,d)),.int (if aQ b (c,d)>aQ a (c,d)then aQ b (c,d)else aQ a (c,d))]):=ae;generalize upd H5 tq2 (.tup [.int (if aQ b (c,d)<aQ a (c,d)then aQ b (c,d)else aQ a (c,d)),.int (if aQ b (c,d)>aQ a (c,d)then aQ b (c,d)else aQ a (c,d))])=H6 at k2 z2 flp⊢;have k3:ah H6 (upd H6 lp (.lst [.ref tq1,.ref tq2])):=ah.new flp;have hlp:upd H6 lp (.lst [.ref tq1,.ref tq2]) lp=some (.lst [.ref tq1,.ref tq2]):=ae;generalize upd H6 lp (.lst [.ref tq1,.ref tq2])=H7 at k3 hlp⊢;rw[BI,CF]at z2;have xp:dD H7 [.ref tq1,.ref tq2] (Eu (a,b) (c,d) true):= .cons (k3 _ _ (k2 _ _ z1)) (.cons (k3 _ _ z2) .nil);have s7:=k1.trans (k2.trans k3);have a7:=(s3.trans s4).trans s7;refine⟨q1,lp,_,_,rfl,rfl,s7 _ _ h4,hlp,by rw[MB];show _+2<=M5;lia,fun q2 e2=>?_⟩;have s8:ah H7 (upd H7 q2 (.lst (es.take (k-1).toNat++[.ref tq1,.ref tq2]))):=ah.new e2;have h8:upd H7 q2 (.lst (es.take (k-1).toNat++[.ref tq1,.ref tq2])) q2=some (.lst (es.take (k-1).toNat++[.ref tq1,.ref tq2])):=ae;generalize upd H7 q2 (.lst (es.take (k-1).toNat++[.ref tq1,.ref tq2]))=H8 at s8 h8⊢;refine⟨_,rfl,_,rfl,_,_,rfl,rfl,k+1,rfl,?_⟩;unfold dG;refine⟨l,es,rfl,aJ.of (s8 _ _ (a7 _ _ hl)),fun q3 e3=>?_⟩;rw[cutD (by lia)];have s9:ah H8 (upd H8 q3 (.lst (es.drop (k+1).toNat))):=ah.new e3;have h9:upd H8 q3 (.lst (es.drop (k+1).toNat)) q3=some (.lst (es.drop (k+1).toNat)):=ae;generalize upd H8 q3 (.lst (es.drop (k+1).toNat))=H9 at s9 h9⊢;refine⟨q2,q3,_,_,rfl,rfl,s9 _ _ h8,h9,by rw[Mw,MB,List.length_drop];show _+2+_<=M5;lia,fun q4 e4=>?_⟩;have sA:=s8.trans (s9.trans (ah.new (o:= .lst (es.take (k-1).toNat++[.ref tq1,.ref tq2]++es.drop (k+1).toNat)) e4));refine kk q4 _ _ ((a7.trans (s8.trans s9)).free e4) ae ?_ (a7.trans sA);unfold uB;rw[er1,er2,show(k-1).toNat+2=(k+1).toNat by lia];have hxA:=hx.keep (ah.bH (a7.trans sA));exact((hxA.take _).append (xp.keep (ah.bH sA))).append (hxA.drop _)
  |false=>
   refine cN (fun c=>absurd (of_decide_eq_true c) (by intro z;injection z with z;exact absurd z (by decide))) (fun _=>?_);have ne:a≠b:=by lia
   refine fun p1 f1=>⟨_,rfl,_,rfl,_,rfl,_,rfl,ae,[(Sum.inl a,.int b),(Sum.inl b,.int a)],rfl,(show 2<=15 by decide),p1,rfl,.inl ⟨_,.inl ae⟩,_,rfl,_,rfl,_,dg.k (k:=Sum.inl c) ae,?_⟩;rw[gT _ _ _ ne];have s2:ah H1 (upd (upd H1 p1 (.dK [])) p1 (.dK (cb [] [(Sum.inl a,.int b),(Sum.inl b,.int a)]))):=fun b o e=>by
    rw[aq (ao e f1),aq (ao e f1)];exact e
   generalize upd (upd H1 p1 (.dK [])) p1 (.dK (cb [] [(Sum.inl a,.int b),(Sum.inl b,.int a)]))=H2 at s2⊢;refine fun p2 f2=>⟨_,rfl,_,rfl,_,rfl,_,rfl,ae,[(Sum.inl a,.int b),(Sum.inl b,.int a)],rfl,(show 2<=15 by decide),p2,rfl,.inl ⟨_,.inl ae⟩,_,rfl,_,rfl,_,dg.k (k:=Sum.inl d) ae,?_⟩;rw[gT _ _ _ ne];have s3:ah H2 (upd (upd H2 p2 (.dK [])) p2 (.dK (cb [] [(Sum.inl a,.int b),(Sum.inl b,.int a)]))):=fun b o e=>by
    rw[aq (ao e f2),aq (ao e f2)];exact e
   generalize upd (upd H2 p2 (.dK [])) p2 (.dK (cb [] [(Sum.inl a,.int b),(Sum.inl b,.int a)]))=H3 at s3⊢;have s3:=(s1.trans s2).trans s3;refine⟨_,rfl,_,rfl,_,_,rfl,rfl,k-1,rfl,l,es,rfl,aJ.of (s3 _ _ hl),fun q1 e1=>?_⟩;rw[Dq (by lia) (by lia)];have s4:ah H3 (upd H3 q1 (.lst (es.take (k-1).toNat))):=ah.new e1;have h4:upd H3 q1 (.lst (es.take (k-1).toNat)) q1=some (.lst (es.take (k-1).toNat)):=ae;generalize upd H3 q1 (.lst (es.take (k-1).toNat))=H4 at s4 h4⊢;refine⟨_,rfl,_,rfl,_,_,rfl,_,rfl,_,rfl,_,_,rfl,two,fun tq1 ftq1=>⟨_,rfl,_,rfl,two,fun tq2 ftq2=>⟨two,fun lp flp=>?_⟩⟩⟩;have k1:ah H4 (upd H4 tq1 (.tup [.int (if aQ d (a,b)<aQ c (a,b)then aQ d (a,b)else aQ c (a,b)),.int (if aQ d (a,b)>aQ c (a,b)then aQ d (a,b)else aQ c (a,b))])):=ah.new ftq1;have z1:upd H4 tq1 (.tup [.int (if aQ d (a,b)<aQ c (a,b)then aQ d (a,b)else aQ c (a,b)),.int (if aQ d (a,b)>aQ c (a,b)then aQ d (a,b)else aQ c (a,b))]) tq1=some (.tup [.int (if aQ d (a,b)<aQ c (a,b)then aQ d (a,b)else aQ c (a,b)),.int (if aQ d (a,b)>aQ c (a,b)then aQ d (a,b)else aQ c (a,b))]):=ae;generalize upd H4 tq1 (.tup [.int (if aQ d (a,b)<aQ c (a,b)then aQ d (a,b)else aQ c (a,b)),.int (if aQ d (a,b)>aQ c (a,b)then aQ d (a,b)else aQ c (a,b))])=H5 at k1 z1 ftq2 flp⊢;have k2:ah H5 (upd H5 tq2 (.tup [.int a,.int b])):=ah.new ftq2;have z2:upd H5 tq2 (.tup [.int a,.int b]) tq2=some (.tup [.int a,.int b]):=ae;generalize upd H5 tq2 (.tup [.int a,.int b])=H6 at k2 z2 flp⊢;have k3:ah H6 (upd H6 lp (.lst [.ref tq1,.ref tq2])):=ah.new flp;have hlp:upd H6 lp (.lst [.ref tq1,.ref tq2]) lp=some (.lst [.ref tq1,.ref tq2]):=ae;generalize upd H6 lp (.lst [.ref tq1,.ref tq2])=H7 at k3 hlp⊢;rw[BI,CF]at z1;have xp:dD H7 [.ref tq1,.ref tq2] (Eu (a,b) (c,d) false):= .cons (k3 _ _ (k2 _ _ z1)) (.cons (k3 _ _ z2) .nil);have s7:=k1.trans (k2.trans k3);have a7:=(s3.trans s4).trans s7;refine⟨q1,lp,_,_,rfl,rfl,s7 _ _ h4,hlp,by rw[MB];show _+2<=M5;lia,fun q2 e2=>?_⟩;have s8:ah H7 (upd H7 q2 (.lst (es.take (k-1).toNat++[.ref tq1,.ref tq2]))):=ah.new e2;have h8:upd H7 q2 (.lst (es.take (k-1).toNat++[.ref tq1,.ref tq2])) q2=some (.lst (es.take (k-1).toNat++[.ref tq1,.ref tq2])):=ae;generalize upd H7 q2 (.lst (es.take (k-1).toNat++[.ref tq1,.ref tq2]))=H8 at s8 h8⊢;refine⟨_,rfl,_,rfl,_,_,rfl,rfl,k+1,rfl,?_⟩;unfold dG;refine⟨l,es,rfl,aJ.of (s8 _ _ (a7 _ _ hl)),fun q3 e3=>?_⟩;rw[cutD (by lia)];have s9:ah H8 (upd H8 q3 (.lst (es.drop (k+1).toNat))):=ah.new e3;have h9:upd H8 q3 (.lst (es.drop (k+1).toNat)) q3=some (.lst (es.drop (k+1).toNat)):=ae;generalize upd H8 q3 (.lst (es.drop (k+1).toNat))=H9 at s9 h9⊢;refine⟨q2,q3,_,_,rfl,rfl,s9 _ _ h8,h9,by rw[Mw,MB,List.length_drop];show _+2+_<=M5;lia,fun q4 e4=>?_⟩;have sA:=s8.trans (s9.trans (ah.new (o:= .lst (es.take (k-1).toNat++[.ref tq1,.ref tq2]++es.drop (k+1).toNat)) e4));refine kk q4 _ _ ((a7.trans (s8.trans s9)).free e4) ae ?_ (a7.trans sA);unfold uB;rw[er1,er2,show(k-1).toNat+2=(k+1).toNat by lia];have hxA:=hx.keep (ah.bH (a7.trans sA));exact((hxA.take _).append (xp.keep (ah.bH sA))).append (hxA.drop _)
end
structure TL(P:M0)(w:M3)(K:W.Frag)(mg:Str->Option MX)(base:Nc)(cl:jD)(C:MY):Prop extends DM mg K where
 kr:mg "max" =none
 iF:mg "min" =none
 lb:FnAt P w K mg base "_law_purse" 1 ["_law_script","_law_at"] (yr K)
 aI:FnAt P w K mg base "_law_take" 1 ["_law_purse_here","_law_many"] mH
 bM:FnAt P w K mg base "_law_least_row" 2 ["_law_purse_here","_law_order_here"] xM
 lh:FnAt P w K mg base "_law_other" 4 ["_law_purse_here","_law_n","_law_row"] Bf
 lu:FnAt P w K mg base "_law_moved" 1 ["_law_row","_law_k","_law_way"] FT
 iG:FnAt P w K mg base "_law_row_word" 1 ["_law_row"] Fn
 dq:FnAt P w K mg base "_law_say" 31 ["_law_desk","_law_row"] (mh K cl C (ql cl))
 ie:FnAt P w K mg base "_law_right" 32 ["_law_desk","_law_n","_law_row","_law_numbers"] (AB K cl C)
 yp:wo P w K mg base C "Desk" 1 ["self","n"] (B4 C)
theorem A8{L:dE}{CG CB:MY}(hL:L.ans=cI CG CB){word:Str}(h1:word≠Mt "tree")(h2:word≠Mt "cars")(h3:word≠Mt "begun"){vs:List V}{H:Hp}{Q:VK}{E:XK}(h:iX L word vs H Q E):False:=by
 obtain⟨n,l,us,xs,_,_,_,_,_,h⟩:=h;rw[hL]at h;have e:cI CG CB word n xs=none:=by
  unfold cI
  split
  .rw[if_neg h1,if_neg h2]
   split<;>rfl
  .rw[if_neg fun z=>h3 z.2.2.2]
  .rfl
 rw[e]at h;rcases h with⟨_,e,_⟩|⟨_,e,_⟩<;>cases e
theorem J5(R:List (Int×Int)):Mt "row r " ++jE R=Str.join (Mt " ") [Mt "row",Mt "r",jE R]:=by
 rw[←ma,show Mt "row r " =Mt "row" ++Mt " " ++Mt "r" ++Mt " " by decide+kernel]
theorem HM(k:Int):Mt "back r " ++aH k=Str.join (Mt " ") [fN false,Mt "r",aH k]:=by
 rw[←ma,show Mt "back r " =fN false++Mt " " ++Mt "r" ++Mt " " by decide+kernel]
theorem yS{K:W.Frag}{cl:jD}{C a d:MY}{L:dE}{n:Int}{m:Kept}{t x:Str}{R:List (Int×Int)}{H:Hp}{Q:VK}{E:XK}(tl:t.length<=990)(n1:1<=n)(n2:n<=12)(ml:m.length<=40)(gm:kW n m)(hd:cM C H a d n m)
  (ho:L.out n m (Txt.split t (Mt " "))=some (.put x R)) (k:∀H',cM C H' a d n (jV m x R)->(∀b o,b≠d->H b=some o->H' b=some o)->Q (.str (Mt "ok")) H'):mh K cl C L [.ref a,.str t] H Q E:=
 ⟨a,d,t,n,m,.put x R,rfl,tl,n1,n2,ml,gm.names,hd,ho,k⟩
theorem Ci{K:W.Frag}{H H':Hp}{a:MY}{xs:List V}(h:aJ K H a xs)(k:∀o,H a=some o->H' a=some o):aJ K H' a xs:=by
 rcases h with(h|⟨o,h⟩)|h
 .exact .inl (.inl (k _ h))
 .exact .inl (.inr ⟨o,k _ h⟩)
 .exact .inr h
theorem jA{p:MY}{c:Nat}{H H':Hp}{v:V}{R:List (Int×Int)}(h:cY H v R)(pu:bD H p c)(s:aN p H H'):cY H' v R:=by
 obtain⟨l,es,rfl,h1,h2⟩:=h;refine⟨l,es,rfl,s _ _ (fun z=>?_) h1,aN.FY s pu h2⟩;obtain⟨x,y,z',e,_⟩:=pu.ex;rw[z,e]at h1;cases h1;cases h2
theorem BC{p C a d:MY}{c:Nat}{n:Int}{m:Kept}{H H':Hp}(h:cM C H a d n m)(pu:bD H p c)(s:aN p H H'):cM C H' a d n m:=by
 obtain⟨dx,fs,kvs,ha,hf,hd,ne,km,ml⟩:=h;obtain⟨xs,e⟩:=pu.at;exact⟨dx,fs,kvs,s _ _ (fun z=>by rw[z,e]at ha;cases ha) ha,hf,s _ _ (fun z=>by rw[z,e]at hd;cases hd) hd,ne,Paired.rX km fun _ _ z=>⟨z.1,jA z.2 pu s⟩,ml⟩
theorem lQ{m:Kept}{x:Str}{R:List (Int×Int)}(l:m.length<=1)(h:m=[]\/∃S,rowOf m x=some S):(jV m x R).length<=1:=by
 unfold jV
 split
 .rw[Mu];exact l
 .rename_i c
  rcases h with rfl|⟨S,h⟩
  .exact MP _
  .rw[←mC,h]at c
   exact absurd rfl c
section
variable{P:M0}{w:M3}{K:W.Frag}{mg:Str->Option MX}{base:Nc}{cl:jD}{C:MY}
theorem gw:aA ["_law_script","_law_k","_law_purse_here","_law_n","_law_first","_law_row","_law_numbers","_law_desk","_law_one","_law_place"] ["_law_script"] (ar (top 130)):=⟨rfl,rfl,rfl,by decide+kernel,rfl,by decide+kernel,by decide+kernel⟩
theorem Hi{f:MY}{fd:Nb}(F:dO K "law" "law" (top 130) f fd)(T:TL P w K mg base cl C):aR P w K mg base gh 33 f fd ["_law_script"] (yV K):=by
 refine F.ok gw (fun vs H Q E h=>?_) (fun cdv A outer s H vs Q E hr h=>?_)
 .obtain⟨a,ns,rfl,_⟩:=h
  rfl
 .obtain⟨a,ns,rfl,hS,hlen,k⟩:=h
  refine⟨_,(@ag _ _ _ _ _ (fi PassesOwn.never rfl (eI rfl T.bQ (aa (ak (jC rfl) rfl T.kr (by decide+kernel) (aa ai (aa (ak (jn rfl) rfl T.iF (by decide+kernel) (aa (ak (aL (K:=K) rfl) rfl T.bE (by decide+kernel) (aa (pv 0) af)) (aa ai af))) af))) af)) (aw (i:=1) gw.nd rfl (Or.inl rfl)) (@ag _ _ _ _ _ (aC (i:=2) gw.nd rfl (Or.inl rfl) (au T.lb (hr.mono (by first|decide|lia)) rfl (aa (pv 0) (aa (pv 1) af))))
   (@ag _ _ _ _ _ (aC (i:=3) gw.nd rfl (Or.inl rfl) (av aS ai (au T.aI (hr.mono (by first|decide|lia)) rfl (aa (pv 2) (aa ai af)))))
   (@ag _ _ _ _ _ (aC (i:=4) gw.nd rfl (Or.inl rfl) (au T.bM (hr.mono (by first|decide|lia)) rfl (aa (pv 2) (aa (av (rQ (K:=K) rfl) (aF (dU rfl) rfl T.cu (by decide+kernel) (aa (aF fL rfl T.bQ (by decide+kernel) (aa ai (aa (av aS (pv 3) ai) af))) af)) (fU (aa ai af))) af))))
   (@ag _ _ _ _ _ (aC (i:=5) gw.nd rfl (Or.inl rfl) (au T.lh (hr.mono (by first|decide|lia)) rfl (@aa _ _ _ _ _ (pv 2) (@aa _ _ _ _ _ (pv 3) (@aa _ _ _ _ _ (pv 4) af bt) bt) bt)))
   (@ag _ _ _ _ _ (@aC _ _ 6 _ _ _ _ gw.nd rfl (Or.inl rfl) (@bu _ _ _ _ (@aa _ _ _ _ _ (au T.aI (hr.mono (by first|decide|lia)) rfl (aa (pv 2) (aa (pv 3) af))) (@aa _ _ _ _ _ (av bU (pv 3) ai) (@aa _ _ _ _ _ (pv 3) (@aa _ _ _ _ _ (av aS (pv 3) (au T.aI (hr.mono (by first|decide|lia)) rfl (aa (pv 2) (aa (av bU (av rZ ai ai) ai) af)))) af pj) bt) pj) bI)) (by rfl) (by first|exact .inl rfl|exact .inr rfl))
   (ag (aC (i:=7) gw.nd rfl (Or.inl rfl) (BF T.yp (hr.mono (by decide)) rfl (aa (pv 3) af)))
   (ag (fi PassesOwn.never rfl (a6 (K:=K) rfl (bu (aa (pv 5) (aa (pv 4) af)))) (aw (i:=8) gw.nd rfl (Or.inl rfl)) (aj (a8 (PW.pt (jK (ax iH (au T.dq (hr.mono (by first|decide|lia)) rfl (aa (pv 7) (aa (av eF aK (au T.iG (hr.mono (by first|decide|lia)) rfl (aa (pv 8) af))) af))) aK (aG _)) (hV (eZ (fe (au T.ie (hr.mono (by first|decide|lia)) rfl (@aa _ _ _ _ _ (pv 7) (@aa _ _ _ _ _ (pv 3) (@aa _ _ _ _ _ (pv 8) (@aa _ _ _ _ _ (pv 6) af bt) bt) bt) bt))))))) (aj (ay jM)) aE)))
   (aj (a8 (ax jS (pv 3) ai (aG _)) (ag (aC (i:=9) gw.nd rfl (Or.inl rfl) (av aS ai (au T.aI (hr.mono (by first|decide|lia)) rfl (aa (pv 2) (aa (av bU (pv 3) ai) af)))))
   (ag (a8 (ax iH (au T.dq (hr.mono (by first|decide|lia)) rfl (aa (pv 7) (aa (av eF aK (aF bJ rfl T.dX (by decide+kernel) (aa (pv 9) af))) af))) aK (aG _)) (aj (ay jM)) aE)
   (aj (a8 (eZ (fe (au T.ie (hr.mono (by first|decide|lia)) rfl (@aa _ _ _ _ _ (pv 7) (@aa _ _ _ _ _ (pv 3) (@aa _ _ _ _ _ (au T.lu (hr.mono (by first|decide|lia)) rfl (@aa _ _ _ _ _ (pv 4) (@aa _ _ _ _ _ (pv 9) (@aa _ _ _ _ _ aK af lI) bt) bt)) (@aa _ _ _ _ _ (pv 6) af bt) bI) bt) bt)))) (aj (ay jM)) aE)))) aE))))))))))
   (aj (ay jM))),?_⟩
  have big:(10000000:Nat)<=M5:=by decide
  have two:2<=M5:=by decide
  refine⟨_,rfl,a,_,rfl,.inl hS,_,_,rfl,_,_,rfl,_,rfl,?b1,?b2,eL (fun i σ H'=>(∃v1 v2 v3 v4 v5 v6 v7 v8 v9,σ=[some (.ref a),v1,v2,v3,v4,v5,v6,v7,v8,v9])/\aJ K H' a (ns.map V.int)) ⟨⟨_,_,_,_,_,_,_,_,_,rfl⟩,hS⟩ ?_ ?_⟩
  case b1=>rw[Mu];split<;>(try split)<;>lia
  case b2=>rw[Mu];split<;>(try split)<;>lia
  .rintro i σ G1 hi ⟨⟨v1,v2,v3,v4,v5,v6,v7,v8,v9,rfl⟩,hSa⟩
   have hi:i<6:=MQ hi (by rw[Mu];split<;>(try split)<;>lia);refine⟨_,rfl,_,rfl,a,ns,_,rfl,hSa,by lia,by lia,fun p G2 hp pu0 s1=>?_⟩;refine⟨_,rfl,p,0,12,rfl,pu0,by decide,by decide,by decide,fun r0 G3 r00 r01 pu1 s2=>⟨_,_,rfl,rfl,?_⟩⟩;have b2:=ah.of s1 hp s2;refine⟨_,rfl,Lj (n:=1+r0) (by lia) (by lia) rfl fun t G4 ft ht s3=>?_⟩;have pu1':=pu1.keep s3;refine⟨p,1,t,1+r0,_,rfl,pu1',by lia,ht,Cf (by lia),by lia,by lia,fun l1 es1 R1 G5 fl1 hl1 x1 g1 e1 len1 pu2 s4=>?_⟩;have npl1:p≠l1:=pu1'.ne fl1;have rl1:R1.length<=12:=by lia
   have b5:=ah.of (b2.trans s3) hp s4;have cg:=zZ (n:=1+r0) (by lia) g1 e1;rw[e1]at cg;have rl1':(R1.length:Int)+1≥1+r0:=by lia
   clear cg len1 ht ft s4 s3 fl1;refine⟨_,rfl,_,rfl,_,rfl,p,l1,401,1+r0,es1,R1,rfl,pu2,by lia,by lia,by lia,npl1,hl1,x1,g1,rl1,fun v R c' G6 rv gR lR hc' pu3 s5=>?_⟩;have b6:=ah.of b5 hp s5;have hf6:cY G6 (.ref l1) R1:=⟨l1,es1,rfl,s5 _ _ npl1.symm hl1,aN.FY s5 pu2 x1⟩;refine⟨_,rfl,_,rfl,p,c',1+r0,rfl,pu3,by lia,by lia,by lia,fun ra G7 ra0 ra1 pu4 s6=>?_⟩;refine⟨_,rfl,_,_,rfl,rfl,_,rfl,_,rfl,_,rfl,_,_,rfl,rfl,⟨by decide,by decide,by decide⟩,_,_,rfl,rfl,p,c'+1,_,rfl,pu4,by lia,by decide,by decide,fun rb G8 rb0 rb1 pu5 s7=>⟨_,_,rfl,rfl,(by show 4<=M5;lia),fun ln fln=>?_⟩⟩;have npn:p≠ln:=pu5.ne fln;have b8:=ah.of (ah.of b6 hp s6) hp s7;have rv8:=jA (jA rv pu3 s6) pu4 s7;have rf8:=jA (jA hf6 pu3 s6) pu4 s7;have s9:=ah.new (o:= .lst [.int ra,.int (1+r0-1),.int (1+r0),.int (1+r0+rb)]) fln;have hln:upd G8 ln (.lst [.int ra,.int (1+r0-1),.int (1+r0),.int (1+r0+rb)]) ln=some (.lst ([ra,1+r0-1,1+r0,1+r0+rb].map V.int)):=ae;have pu6:=pu5.keep s9;have rv9:=rv8.same s9;have rf9:=rf8.same s9;have b9:=b8.trans s9;have jb:∀j∈[ra,1+r0-1,1+r0,1+r0+rb],0<=j/\j<10^9:=fun j hj=>by
    have e9:(10:Int)^(9:Int).toNat-12=999999988:=by decide
    rw[e9]at rb1;simp only[MC,MM,or_false]at hj;rcases hj with rfl|rfl|rfl|rfl<;>lia
   generalize upd G8 ln (.lst [.int ra,.int (1+r0-1),.int (1+r0),.int (1+r0+rb)])=G9 at s9 hln pu6 rv9 rf9 b9⊢;clear rv8 rf8 s9 b8 b6 b5 b2 s7 s6 s5 s2 s1 rv hf6 hl1 x1 pu0 pu1 pu1' pu2 pu3 pu4 pu5 fln;refine⟨_,rfl,fun aD dx0 fa0 fd0 ne0=>⟨aD,dx0,1+r0,rfl,ae,by rw[aq ne0,ae],ne0,fun d H5 fd0' nd0 dk0 off0=>⟨rfl,?_⟩⟩⟩;have s5:ah G9 H5:=fun b o e=>off0 b o (ao e fa0) (by rw[aq (ao e fa0),aq (ao e fd0)];exact e);have fd9:G9 d=none:=by
    by_cases z:d=dx0
    .rw[z];assumption
    .rw[aq nd0,aq z]at fd0';exact fd0'
   have hln:=s5 _ _ hln;have rv:=rv9.same s5;have rf:=rf9.same s5;have pu:=pu6.keep s5;have B:=b9.trans s5;have npd:p≠d:=pu6.ne fd9;have fd1:G1 d=none:=b9.free fd9;clear off0 fd0' fa0 fd0 rv9 rf9 pu6 b9 s5;refine⟨_,rfl,_,rfl,two,fun lw flw=>?_⟩;have sw:=ah.new (o:= .lst [v,.ref l1]) flw;have hlw:upd H5 lw (.lst [v,.ref l1]) lw=some (.lst [v,.ref l1]):=ae;have hln:=sw _ _ hln;have rv:=rv.same sw;have rf:=rf.same sw;have pu:=pu.keep sw;have dk:=dk0.same sw;have B:=B.trans sw;generalize upd H5 lw (.lst [v,.ref l1])=G at sw hlw hln rv rf pu dk B⊢;clear sw dk0 flw;obtain⟨_,_,kv0,_,_,hdG,_⟩:=id dk;have ndw:lw≠d:=fun z=>by rw[z,hdG]at hlw;cases hlw
   have ndn:ln≠d:=fun z=>by rw[z,hdG]at hln;cases hln
   have smx:∀S:List (Int×Int),Good (1+r0) S->Lk S:=fun S g e he=>by have:=g e he;lia
   have sp1:(Mt "row r ").length=6:=by decide+kernel
   have sp2:(Mt "back r ").length=7:=by decide+kernel
   refine⟨lw,rfl,⟨_,aJ.of hlw⟩,lz (K:=K) (a:=lw) (xs:=[v,.ref l1]) (fun j σ H'=>(∃v8 v9,σ=[some (.ref a),some (.int (0+(i:Int))),some (.ref p),some (.int (1+r0)),some (.ref l1),some v,some (.ref ln),some (.ref aD),v8,v9])/\(∀b o,b≠d->G b=some o->H' b=some o)/\∃m,cM C H' aD d (1+r0) m/\kW (1+r0) m/\m.length<=1/\(m=[]\/∃S,rowOf m (Mt "r")=some S)/\(j=2->rowOf m (Mt "r")=some R1)) ⟨⟨_,_,rfl⟩,fun b o _ e=>e,[],dk,fun p hp=>(nomatch hp),MT _,.inl rfl,fun z=>absurd z (by decide)⟩ (fun j σ H' _ q=>Ci (aJ.of hlw) fun o e=>q.2.1 _ _ ndw e) ?_ ?_⟩
   .rintro j x σ H1 hx ⟨⟨w8,w9,rfl⟩,off,m,dm,gm,ml,mn,_⟩
    obtain⟨S,hS',gS,lS,fS⟩:∃S,cY G x S/\Good (1+r0) S/\S.length<=60/\(j+1=2->S=R1):=by
     match j,hx with
     |0,hx=>cases hx;exact⟨R,rv,gR,lR,fun z=>absurd z (by decide)⟩
     |1,hx=>cases hx;exact⟨R1,rf,g1,by lia,fun _=>rfl⟩
    obtain⟨lx,ex,rfl,hlx,xx⟩:=hS'.off hdG off;have rl:=BH (smx S gS);have xl:=xx.length;refine⟨_,rfl,_,rfl,lx,ex,S,rfl,hlx,xx,by lia,smx S gS,fun H2 s2=>⟨_,_,rfl,rfl,(by show(Mt "row r ").length+(jE S).length<=M5;lia),?_⟩⟩;dsimp only[dN,tC,iO,List.cons_append,List.nil_append];refine yS (R:=S) (x:=Mt "r") (by show(Mt "row r " ++jE S).length<=990;rw[Str.length_append];lia) (by lia) (by lia) (by lia) gm (dm.same s2) ?_ fun H3 d3 off3=>?_
    .show(ql cl).out _ m (Txt.split (Mt "row r " ++jE S) (Mt " "))=_
     rw[J5,iY (by simp) fun t ht=>?_]
     .exact DO (by decide+kernel) (by decide+kernel) (by decide+kernel) vZ (by lia) gS lS
     .simp only[MC,MM,or_false]at ht
      rcases ht with rfl|rfl|rfl
      .decide+kernel
      .decide+kernel
      .exact Dt fun e he=>by have:=gS e he;lia
    have off':∀b o,b≠d->G b=some o->H3 b=some o:=fun b o hb e=>off3 b o hb (s2 _ _ (off b o hb e));obtain⟨lx',ex',e',hlx',xx'⟩:=hS'.off hdG off';cases e';refine⟨rfl,_,rfl,eG (by simp) ?_⟩;refine⟨_,rfl,_,rfl,_,rfl,_,rfl,aD,d,lx,ln,1+r0,jV m (Mt "r") S,ex',S,_,rfl,by lia,by lia,MS (lQ ml mn) (by decide),gm.put vZ gS lS,d3,by rw[jz,if_pos rfl],hlx',xx',off' _ _ ndn hln,(by show 4<=10;decide),jb,fun H4 s4=>⟨_,rfl,eG (by decide) ?_⟩⟩;exact⟨⟨_,_,rfl⟩,fun b o hb e=>s4 _ _ (off' b o hb e),jV m (Mt "r") S,d3.same s4,gm.put vZ gS lS,lQ ml mn,.inr ⟨S,by rw[jz,if_pos rfl]⟩,fun z=>by rw[jz,if_pos rfl,fS z]⟩
   .rintro σ H1 ⟨⟨w8,w9,rfl⟩,off,m,dm,gm,ml,mn,mf⟩
    have mf:=mf rfl;have hSq:∀{H':Hp},(∀o,H1 a=some o->H' a=some o)->aJ K H' a (ns.map V.int):=fun q=>Ci hSa fun o e=>q _ (off _ _ (ao e fd1) (B _ _ e));refine⟨_,rfl,_,_,rfl,rfl,_,rfl,cN (fun c=>?_) (fun c=>⟨⟨_,_,_,_,_,_,_,_,_,rfl⟩,hSq fun _ e=>e⟩)⟩;have c:2<1+r0:=of_decide_eq_true c;have pu1:bD H1 p (c'+1+1):=by
     obtain⟨x,y,z,e,q⟩:=pu.ex;exact⟨x,y,z,off _ _ npd e,q⟩
    have rf1:=rf.off hdG off;refine⟨_,rfl,_,rfl,_,_,rfl,rfl,p,c'+1+1,_,rfl,pu1,by lia,by lia,by lia,fun rp H2 rp0 rp1 pu2 s2=>⟨_,_,rfl,rfl,?_⟩⟩;have rf2:=jA rf1 pu1 s2;have dm2:=BC dm pu1 s2;have hln2:=s2 _ _ (fun z=>by obtain⟨x,y,z',e,q⟩:=pu.ex;rw[z,e]at hln;cases hln) (off _ _ ndn hln);obtain⟨_,_,kv2,_,_,hd2,_⟩:=id dm2;have nT:=dC (i:=1+rp) (by lia) (by lia);have mvk:1<=1+rp/\(1+rp:Int)<R1.length:=⟨by lia,by lia⟩;refine⟨_,rfl,_,rfl,1+rp,rfl,fE (by lia) (by lia),_,_,rfl,rfl,(by show(Mt "back r ").length+(aH (1+rp)).length<=M5;lia),?_⟩;dsimp only[dN,tC,iO,List.cons_append,List.nil_append];refine yS (R:=uB R1 (1+rp-1).toNat false) (x:=Mt "r") (by show(Mt "back r " ++aH (1+rp)).length<=990;rw[Str.length_append];lia) (by lia) (by lia) (by lia) gm dm2 ?_ fun H3 d3 off3=>?_
    .show(ql cl).out _ m (Txt.split (Mt "back r " ++aH (1+rp)) (Mt " "))=_
     rw[HM,iY (by simp) fun t ht=>?_]
     .have q:=CY (okd:=CL) (ans:=cI cl.bf cl.bz) (U:=IG) (CT:=cl.ip) (CN:=cl.jf) (CB:=cl.bz) (CM:=cl.fM) (n:=1+r0) (m:=m) (nm:=Mt "r") (f:=false) (k:=1+rp) (by decide+kernel) (by decide+kernel) (by decide+kernel) vZ (by lia) (by lia) mf (by lia)
      rw[if_pos mvk]at q;exact q
     .simp only[MC,MM,or_false]at ht
      rcases ht with rfl|rfl|rfl
      .decide+kernel
      .decide+kernel
      .exact Cj (by lia)
    have hmv:=EL (i:=(1+rp-1).toNat) (f:=false) g1 (by lia);have hml:=Ig (row:=R1) (i:=(1+rp-1).toNat) (f:=false) (by lia);obtain⟨_,es3,e3,hl3,x3⟩:=rf2.off hd2 off3;cases e3;refine⟨rfl,_,rfl,eG (by simp) ?_⟩;refine⟨_,rfl,_,rfl,_,rfl,_,rfl,l1,es3,R1,1+rp,1+r0,false,rfl,hl3,x3,g1,by lia,mvk.1,mvk.2,fun l' es' H4 _ hl' x' s4=>?_⟩;refine⟨_,rfl,aD,d,l',ln,1+r0,jV m (Mt "r") (uB R1 (1+rp-1).toNat false),es',_,_,rfl,by lia,by lia,MS (lQ ml mn) (by decide),gm.put vZ hmv (by lia),d3.same s4,by rw[jz,if_pos rfl],hl',x',s4 _ _ (off3 _ _ ndn hln2),(by show 4<=10;decide),jb,fun H5 s5=>⟨_,rfl,eG (by decide) ?_⟩⟩;exact⟨⟨_,_,_,_,_,_,_,_,_,rfl⟩,Ci hSa fun o e=>s5 _ _ (s4 _ _ (off3 _ _ (ao e fd1) (s2 _ _ (ao e hp) (off _ _ (ao e fd1) (B _ _ e)))))⟩
  .rintro σ G1 ⟨⟨v1,v2,v3,v4,v5,v6,v7,v8,v9,rfl⟩,_⟩
   exact k _
end
abbrev BO(x q:Str)(st:Ng)(ps:List Str):Prop:=∀(kV doc pm:MX)(an:Option MY)(cdv ct:MX),match ps with
 |[a]=>∀u,bindArgs (W.fnOf x q (eO st) (dB st) (ar st) .none kV doc pm an cdv ct) ⟨[u],[]⟩=pure [(a,u)]
 |[a,b]=>∀u v,bindArgs (W.fnOf x q (eO st) (dB st) (ar st) .none kV doc pm an cdv ct) ⟨[u,v],[]⟩=pure [(a,u),(b,v)]
 |[a,b,c]=>∀u v w,bindArgs (W.fnOf x q (eO st) (dB st) (ar st) .none kV doc pm an cdv ct) ⟨[u,v,w],[]⟩=pure [(a,u),(b,v),(c,w)]
 |[a,b,c,d]=>∀u v w z,bindArgs (W.fnOf x q (eO st) (dB st) (ar st) .none kV doc pm an cdv ct) ⟨[u,v,w,z],[]⟩=pure [(a,u),(b,v),(c,w),(d,z)]
 |_=>False
theorem BO.at {K:W.Frag}{x q:Str}{st:Ng}{f:MY}{fd:Nb}{ps:List Str}(h:BO x q st ps)(F:dO K x q st f fd):Binds K fd ps []:=F.binds fun kV doc pm an cdv ct us hl=>by
 have h:=h kV doc pm an cdv ct
 match ps,us,hl,h with
 |[a],[u],_,h=>exact h u
 |[a,b],[u,v],_,h=>exact h u v
 |[a,b,c],[u,v,w],_,h=>exact h u v w
 |[a,b,c,d],[u,v,w,z],_,h=>exact h u v w z
def zo(K:W.Frag)(x q:Str)(st:Ng)(f:MY):Prop:=∃(oc:MX)(od:Option MY)(kV doc pm:MX)(an:Option MY)(cdv ct:MX)(osl:Array (Option MX)),K.lookup f=some ⟨oc,od,.func (W.fnOf x q (eO st) (dB st) (ar st) .none kV doc pm an cdv ct),osl⟩/\W.codeIn K cdv q=true/\W.keepIn K (.ref f)=true
theorem zo.fn {K:W.Frag}{x q:Str}{st:Ng}{f:MY}(d:zo K x q st f):∃fd,dO K x q st f fd:=by
 obtain⟨oc,od,kV,doc,pm,an,cdv,ct,osl,l,c,k⟩:=d;exact⟨_,GS l c k⟩
def DJ(K:W.Frag)(x:Str)(st:Ng)(f:MY):Prop:=W.nsIn K M6 x=some (some (.ref f))/\zo K x x st f
def o6(K:W.Frag):List (Str×Ng×MY)->Prop
 |[]=>True
 |(x,st,f)::r=>DJ K x st f/\o6 K r
theorem o6.c {K:W.Frag}{x:Str}{st:Ng}{f:MY}{l:List (Str×Ng×MY)}(a:W.nsIn K M6 x=some (some (.ref f)))(d:zo K x x st f)(r:o6 K l):o6 K ((x,st,f)::l):=⟨⟨a,d⟩,r⟩
def xh(K:W.Frag):List Str->Prop
 |[]=>True
 |x::r=>W.nsIn K M6 x=some none/\xh K r
theorem xh.c {K:W.Frag}{x:Str}{l:List Str}(a:W.nsIn K M6 x=some none)(r:xh K l):xh K (x::l):=⟨a,r⟩
def Jf(mg:Str->Option MX):List Str->Prop
 |[]=>True
 |x::r=>mg x=none/\Jf mg r
def AJ(K:W.Frag)(C:MY)(x q:Str)(st:Ng):Prop:=∃f,Meth K C x f/\zo K x q st f
def LA(K:W.Frag)(C:MY)(x q:Str)(st:Ng):Prop:=∃f,Mk K C f/\zo K x q st f
structure HS(K:W.Frag)(cl:jD):Prop where
 c0:W.nsIn K M6 "Unlike" =some (some (.ref cl.wR))
 c1:W.nsIn K M6 "NoRounds" =some (some (.ref cl.oE))
 c2:W.nsIn K M6 "Apart" =some (some (.ref cl.Apart))
 c3:W.nsIn K M6 "NoMove" =some (some (.ref cl.fM))
 c4:W.nsIn K M6 "NotLeast" =some (some (.ref cl.n6))
 c5:W.nsIn K M6 "NotGreat" =some (some (.ref cl.bf))
 c6:W.nsIn K M6 "NoTree" =some (some (.ref cl.vM))
 c7:W.nsIn K M6 "NoCars" =some (some (.ref cl.vP))
 c8:W.nsIn K M6 "NoChain" =some (some (.ref cl.sy))
 c9:W.nsIn K M6 "NoBound" =some (some (.ref cl.bz))
 Mj:W.nsIn K M6 "NoText" =some (some (.ref cl.ip))
 Mo:W.nsIn K M6 "NoName" =some (some (.ref cl.jf))
 LX:W.nsIn K M6 "StarError" =some (some (.ref cl.lK))
section
variable{P:M0}{w:M3}{K:W.Frag}{mg:Str->Option MX}{base:Nc}{x q:Str}{st:Ng}{k:Nat}{ps:List Str}{sp:Sp}{f C:MY}{h:Nc}{cl:jD}
theorem xh.at (X:K.In h)(G:h.Ns M6 mg):∀{l:List Str},xh K l->Jf mg l
 |[],_=>trivial
 |_::_,z=>⟨W.mg_none_of X G z.1,z.2.at X G⟩
theorem HS.As (X:K.In h)(G:h.Ns M6 mg)(c:HS K cl)(i:mg "isinstance" =none)(v:mg "ValueError" =none):LF mg cl:=
 ⟨W.mg_of X G c.c0,W.mg_of X G c.c1,W.mg_of X G c.c2,W.mg_of X G c.c3,W.mg_of X G c.c4,W.mg_of X G c.c5,W.mg_of X G c.c6,W.mg_of X G c.c7,W.mg_of X G c.c8,W.mg_of X G c.c9,W.mg_of X G c.Mj,W.mg_of X G c.Mo,W.mg_of X G c.LX,i,v⟩
theorem fC{O:MY->Nb->Prop}(X:K.In h)(G:h.Ns M6 mg)(d:DJ K x st f)(ok:∀{fd},dO K x x st f fd->O f fd)(b:BO x x st ps:=by intro _ _ _ _ _ _;(repeat intro _);exact rfl):∃f fd,O f fd/\mg x=some (.ref f)/\W.keepIn K (.ref f)=true/\Binds K fd ps []:=by
 obtain⟨fd,F⟩:=d.2.fn;exact⟨f,fd,ok F,W.mg_of X G d.1,F.kp,b.at F⟩
theorem LC{CX:om}(c:zK K C)(d:AJ K C x q st)(ok:∀{f fd},dO K x q st f fd->aR P w K mg base CX k f fd ps sp)(b:BO x q st ps:=by intro _ _ _ _ _ _;(repeat intro _);exact rfl):MethAt P w K mg base CX C x k ps sp:=by
 obtain⟨f,m,d⟩:=d;obtain⟨fd,F⟩:=d.fn;exact⟨c,f,fd,m,ok F,b.at F⟩
theorem KS{y:Str}(m:mg y=some (.ref C))(d:LA K C x q st)(ok:∀{f fd},dO K x q st f fd->aR P w K mg base gh k f fd ps sp)(b:BO x q st ps:=by intro _ _ _ _ _ _;(repeat intro _);exact rfl):wo P w K mg base C y k ps sp:=by
 obtain⟨f,mk,d⟩:=d;obtain⟨fd,F⟩:=d.fn;exact⟨m,f,fd,mk,ok F,b.at F⟩
end
section
variable{P:M0}{w:M3}{K:W.Frag}{mg:Str->Option MX}{base:Nc}{x q:Str}{st:Ng}{k:Nat}{ps:List Str}{sp:Sp}{f:MY}{fd:Nb}
theorem DR{CX:om}(F:dO K x q st f fd)(no:∀vs H Q E,sp vs H Q E->False):aR P w K mg base CX k f fd ps sp:=
 ⟨fun vs H Q E h=>(no vs H Q E h).elim,fun _ _ _ H _ _ vs Q E _ _ _ _ h=>(no vs H Q E h).elim⟩
theorem vq(d:DJ K x st f)(h:k<=20)(ok:∀{fd},dO K x x st f fd->iD P w K mg base (i3 P w) k f fd ["n","given"] sp)(b:BO x x st ["n","given"]:=by intro _ _ _ _ _ _;(repeat intro _);exact rfl):DW P w K mg base 20 f sp:=by
 obtain⟨fd,F⟩:=d.2.fn;exact⟨⟨fd,_,(ok F).mono h,F.kp,b.at F⟩⟩
theorem sF(d:DJ K x st f)(no:∀vs H Q E,sp vs H Q E->False)(b:BO x x st ["n","given"]:=by intro _ _ _ _ _ _;(repeat intro _);exact rfl):DW P w K mg base 20 f sp:=by
 obtain⟨fd,F⟩:=d.2.fn;exact⟨⟨fd,_,(DR (CX:=i3 P w) (k:=20) F no).toQ,F.kp,b.at F⟩⟩
end
def wI(K:W.Frag)(p:Str×List Str)(q:Str×MY):Prop:=p.1=q.1/\p.2.length<=10/\∃(o:Obj)(its:Array MX)(n:Nat),K.lookup q.2=some o/\o.cls= .type "tuple"/\o.data= .seq its n/\its.size<=M5/\Vals (p.2.map V.str) its.toList
theorem vm{K:W.Frag}(w:Str):∀{ps:List (Str×List Str)}{qs:List (Str×MY)},Paired (wI K) ps qs->((ps.find? fun p=>p.1=w).map (·.2)=none/\tabOf qs w=none)\/∃xs b,(ps.find? fun p=>p.1=w).map (·.2)=some xs/\tabOf qs w=some b/\xs.length<=10/\∀H,dI K H b (xs.map V.str)
 |_,_,.nil=> .inl ⟨rfl,rfl⟩
 |_,_,.cons (a:=p) (b:=q) h r=>by
  by_cases c:p.1=w
  .refine .inr ⟨p.2,q.2,?_,?_,h.2.1,fun H=> .inr h.2.2⟩
   .rw[List.find?_cons_of_pos (by simpa using c)];rfl
   .unfold tabOf
    rw[List.find?_cons_of_pos (by rw[←h.1];simpa using c)];rfl
  .have e1:=vm w r
   unfold tabOf at e1⊢;rw[List.find?_cons_of_neg (by simpa using c),List.find?_cons_of_neg (by rw[←h.1];simpa using c)];exact e1
theorem qT{f:MY}{w:Str}:∀{qs:List (Str×MY)},tabOf qs w=some f->(w,f)∈qs
 |[],h=>by cases h
 |p::r,h=>by
  unfold tabOf at h;by_cases c:p.1=w
  .rw[List.find?_cons_of_pos (by simpa using c)]at h
   cases h;rw[←c];exact MG
  .rw[List.find?_cons_of_neg (by simpa using c)]at h
   exact MH _ (qT h)
theorem Lp{K:W.Frag}{x:Str}{ss:List Str}{b:MY}{its:Array MX}{n:Nat}{ps:List (Str×List Str)}{qs:List (Str×MY)}(h:K.lookup b=some {cls:= .type "tuple",data:= .seq its n})(l:ss.length<=10)(s:its.size<=M5)(v:Vals (ss.map V.str) its.toList)(r:Paired (wI K) ps qs):Paired (wI K) ((x,ss)::ps) ((x,b)::qs):= .cons ⟨rfl,l,_,its,n,h,rfl,rfl,s,v⟩ r
theorem qC{K:W.Frag}:∀{ps:List (Str×List Str)}{qs:List (Str×MY)},Paired (wI K) ps qs->qs.map (·.1)=ps.map (·.1)
 |_,_,.nil=>rfl
 |_,_,.cons h r=>by rw[MA,MA,qC r,h.1]
def z7(K:W.Frag)(pr:Params)(a:MY)(ps:List (Str×MY)):Prop:=(a==sysModules)=false/\∃(es:List DictEntry)(ep:Nat),K.lookup a=some {cls:= .type "dict",data:= .dict es.toArray ep}/\kA pr es ps
theorem z7.due {K:W.Frag}{pr:Params}{a:MY}{ps:List (Str×MY)}(h:z7 K pr a ps)(t:Paired (wI K) Ec ps):KTab K pr a ps:=⟨h.1,by rw[qC t];decide+kernel,h.2⟩
theorem z7.ans {K:W.Frag}{pr:Params}{a:MY}{ps:List (Str×MY)}(h:z7 K pr a ps)(t:ps.map (·.1)=u5):KTab K pr a ps:=⟨h.1,by rw[t];decide+kernel,h.2⟩
theorem zi{K:W.Frag}{okd:Str->Bool}{ans:Str->Int->List Wd->Option (Except MY Str)}{U:Str->Bool}{CT CN CB CM:MY}{due ansA:List (Str×MY)}(hd:Paired (wI K) Ec due)(ha:ansA.map (·.1)=u5):J2 K (jW okd ans U CT CN CB CM) due ansA:=
 ⟨fun w=>vm w hd,fun w=>by rw[Dy,ha];rfl,fun n w x h=>by
  have h:fD n (Mt "name") w=some x:=h;by_cases c:isNm w
  .exact⟨w,MV (h.symm.trans (kX c))⟩
  .unfold fD at h
   rw[if_neg (by decide+kernel),if_neg (by decide+kernel),if_neg (by decide+kernel),if_neg c]at h;cases h⟩
section
variable{P:M0}{w:M3}{K:W.Frag}{mg:Str->Option MX}{base:Nc}
theorem AO:aA ["n"] ["n"] (ar (top 21)):=⟨rfl,rfl,rfl,by decide+kernel,rfl,by decide+kernel,by decide+kernel⟩
theorem Cm{f:MY}{fd:Nb}(F:dO K "plain" "plain" (top 21) f fd)(T:T1 mg K):aR P w K mg base gh 1 f fd ["n"] yd:=by
 refine F.ok AO (fun vs H Q E h=>?_) (fun cdv A outer s H vs Q E hr h=>?_)
 .obtain⟨t,rfl,_⟩:=h
  rfl
 .obtain⟨n,rfl,h0,h1,k⟩:=h
  refine⟨_,(aj (ay (aF (dU rfl) rfl T.cu (by decide+kernel) (aa (aF fL rfl T.bQ (by decide+kernel) (aa ai (aa (av aS (pv 0) ai) af))) af)))),?_⟩;refine⟨_,rfl,_,_,rfl,rfl,.inr ⟨_,_,rfl,fun r hr=>⟨r,_,_,rfl,ae,by lia,by lia,by lia,by lia,fun t ht=>?_⟩⟩⟩;have ne:t≠r:=by intro z;subst z;rw[ae]at ht;cases ht
  rw[aq ne]at ht;exact k t _ ht ae fun b o e=>by rw[aq (ao e ht),aq (ao e hr)];exact e
end
structure LN(P:M0)(w:M3)(K:W.Frag)(mg:Str->Option MX)(base:Nc):Prop extends T1 mg K where
 iF:mg "min" =none
 kS:FnAt P w K mg base "round_from" 1 ["order","first"] Jo
section
variable{P:M0}{w:M3}{K:W.Frag}{mg:Str->Option MX}{base:Nc}
theorem eQ:aA ["order","first","found","thing"] ["order","first"] (ar (top 23)):=⟨rfl,rfl,rfl,by decide+kernel,rfl,by decide+kernel,by decide+kernel⟩
theorem Jy{f:MY}{fd:Nb}(F:dO K "round_from" "round_from" (top 23) f fd):aR P w K mg base gh 1 f fd ["order","first"] Jo:=by
 refine F.ok eQ (fun vs H Q E h=>?_) (fun cdv A outer s H vs Q E hr h=>?_)
 .obtain⟨t,n,x,xs,rfl,_⟩:=h
  rfl
 .obtain⟨t,n,x,xs,rfl,ht,o,hn,x1,x2,k⟩:=h
  refine⟨_,(ag (aC (i:=2) eQ.nd rfl (Or.inl rfl) (bu (aa (pv 1) af)))
   (ag (aC (i:=3) eQ.nd rfl (Or.inl rfl) (aU (ju (K:=K) rfl) (pv 0) (av bU (pv 1) ai) (fun _ _=>rfl)))
   (ag (iU PassesOwn.never (ax iH (pv 3) (pv 1) (aG _)) (ag (cZ (bZ (K:=K) rfl PySem.F.plainAttrs_list PySem.F.slot_list_append PySem.F.type_list_append gU (pv 2) (aa (pv 3) af)))
   (aj (aC (i:=3) eQ.nd rfl (Or.inl rfl) (aU (ju (K:=K) rfl) (pv 0) (av bU (pv 3) ai) (fun _ _=>rfl))))))
   (aj (ay (pv 2)))))),?_⟩
  have ol:=o.length;have big:(100000:Nat)<=M5:=by decide
  refine⟨_,rfl,(by show 1<=M5;decide),fun l hl=>?_⟩;have s1:ah H (upd H l (.lst [V.int x])):=ah.new hl;refine⟨_,rfl,_,rfl,_,_,rfl,rfl,t,_,_,_,rfl,rfl,dI.of (s1 _ _ ht),eY (by lia) (kc o x1 x2),?_⟩;refine⟨fun m σ H'=>∃i,m=eE xs x-i/\1<=i/\i<=eE xs x/\σ=[some (.ref t),some (.int x),some (.ref l),some (.int (br (ld xs) i x))]/\ah H H'/\H' l=some (.lst (((List.range i).map fun k=>br (ld xs) k x).map V.int)),⟨_,1,rfl,MP _,by unfold eE;lia,rfl,s1,ae⟩,?_⟩;rintro m σ H' ⟨i,rfl,i1,i2,rfl,s2,h2⟩;have pl:=wG o x1 x2;have ir:=bS o x1 x2 i;refine⟨_,rfl,_,rfl,rfl,_,rfl,cN (fun c=>?_) (fun c=>?_)⟩
  .have c:br (ld xs) i x≠x:=by simpa using c
   have lt:i<eE xs x:=by
    by_cases e:i=eE xs x
    .rw[e]at c;exact absurd (lN o x1 x2) c
    .lia
   refine⟨fun σ' H'=>σ'=[some (.ref t),some (.int x),some (.ref l),some (.int (br (ld xs) (i+1) x))]/\ah H H'/\H' l=some (.lst (((List.range (i+1)).map fun k=>br (ld xs) k x).map V.int)),fun σ' H' ⟨e1,e2,e3⟩=>⟨_,(by show eE xs x-(i+1)<_;lia),i+1,rfl,by lia,by lia,e1,e2,e3⟩,?_⟩;refine⟨_,rfl,.inl ⟨rfl,_,aJ.of h2⟩,_,rfl,l,_,_,rfl,rfl,h2,by simp;lia,?_⟩;have s3:ah H (upd H' l (.lst (((List.range i).map fun k=>br (ld xs) k x).map V.int++[.int (br (ld xs) i x)]))):=fun b ob e=>by rw[aq (ao e hl)];exact s2 b ob e
   refine⟨_,rfl,_,rfl,_,_,rfl,rfl,t,_,_,_,rfl,rfl,dI.of (s3 _ _ ht),eY (by lia) (kc o ir.1 ir.2),?_⟩;refine⟨rfl,s3,?_⟩;rw[ae,List.range_succ,My,My];rfl
  .have c:br (ld xs) i x=x:=by simpa using c
   have e:i=eE xs x:=by
    apply Classical.byContradiction;intro z;exact mv (by lia) (by lia) c
   subst e;exact⟨_,rfl,k l H' hl h2 s2⟩
theorem qX:aA ["order","begun"] ["order"] (ar (top 24)):=⟨rfl,rfl,rfl,by decide+kernel,rfl,by decide+kernel,by decide+kernel⟩
theorem za{f:MY}{fd:Nb}(F:dO K "rounds" "rounds" (top 24) f fd)(T:LN P w K mg base):aR P w K mg base gh 3 f fd ["order"] fR:=by
 refine F.ok qX (fun vs H Q E h=>?_) (fun cdv A outer s H vs Q E hr h=>?_)
 .obtain⟨t,n,xs,rfl,_⟩:=h
  rfl
 .obtain⟨t,n,xs,rfl,ht,o,hn,k⟩:=h
  refine⟨_,(ag (gX (i:=1) qX.nd rfl rfl (N:=(["first","order"]:List Str)) (ix:=([none,some 0]:List (Option Nat))) (aT rfl rfl) rfl (gQ rfl T.bQ (aa ai (aa (av aS (ak (aL (K:=K) rfl) rfl T.bE (by decide+kernel) (aa (pv 0) af)) ai) af))) (fun _ _ _ _=>(aw (i:=0) (show List.Nodup (["first","order"]:List Str)from by decide+kernel) rfl (Or.inl rfl))) (fun _ _ _ _=>bc) (fun _ _ _ _=>(au T.kS (hr.mono (by first|decide|lia)) rfl (aa (pv 1) (aa (pv 0) af)))))
   (aj (ay (bw (N:=(["found"]:List Str)) (ix:=([none]:List (Option Nat))) (aT rfl rfl) rfl (a6 (K:=K) rfl (pv 1)) (fun _ _ _ _=>(aw (i:=0) (show List.Nodup (["found"]:List Str)from by decide+kernel) rfl (Or.inl rfl))) (fun _ _ _ _=>(sE (ax cR (aU (az (K:=K) rfl) (pv 0) ai (fun _ _=>rfl)) (ak (y4 (K:=K) rfl rfl) rfl T.iF (by decide+kernel) (aa (pv 0) af)) (aG _)))) (fun _ _ _ _=>(pv 0)))))),?_⟩
  have ol:=o.length;have big:(100000:Nat)<=M5:=by decide
  refine⟨_,rfl,t,_,rfl,.inr (dI.of ht),_,_,rfl,rfl,1,_,rfl,⟨by decide,by decide,by lia,by rw[Mu];lia⟩,t6 (k:=0) (fun i ys σ' H'=>(∃v,σ'=[v,some (.ref t)])/\ah H H'/\bX H' ys (((bK 1 (n+1)).take i).map (cq xs))/\fB H ys/\ys.length=i) (by rw[Mu];lia) ⟨⟨none,rfl⟩,ah.refl _,.nil,fB.nil,rfl⟩ (fun i ys σ' H' q=>Nat.le_of_eq q.2.2.2.2) ?_ ?_⟩
  .rintro i ys σ' H' R hi ⟨⟨v,rfl⟩,s1,x1,f1,l1⟩ done
   rw[Mu]at hi;refine⟨_,rfl,_,rfl,t,n,1+(i:Int),xs,rfl,s1 _ _ ht,o,hn,by lia,by lia,fun l H2 hl h2 s2=>done _ _ _ ⟨⟨_,rfl⟩,s1.trans s2,?_,f1.snoc x1 hl (s1.free hl),?_⟩⟩
   .rw[bh (cq xs) (bR (lo:=1) (hi:=n+1) (i:=i) (by lia))]
    exact(x1.keep s2).snoc h2
   .rw[Mw,l1];rfl
  .rintro ys σ' H' p ⟨⟨v,rfl⟩,s1,x1,f1,l1⟩ hp
   have et:(bK 1 (n+1)).take (((xs.map V.int).length:Int)+1-1).toNat=bK 1 (n+1):=MI (by rw[aB,Mu];lia);rw[et]at x1;rw[Mu]at l1;have s2:=s1.trans (ah.new (o:= .lst ys) hp);have x2:=x1.keep (ah.new (o:= .lst ys) hp);have h2:upd H' p (.lst ys) p=some (.lst ys):=ae;generalize upd H' p (.lst ys)=H2 at s2 x2 h2⊢;refine⟨_,rfl,p,rfl,⟨_,aJ.of h2⟩,rD (K:=K) (a:=p) (xs:=ys) (k:=0) (fun i zs σ' H''=>(∃v,σ'=[v])/\H''=H2/\zs.Sublist (ys.take i)/\bX H2 zs ((((bK 1 (n+1)).take i).filter (least xs)).map (cq xs))) (by lia) ⟨⟨none,rfl⟩,rfl,List.nil_sublist _,.nil⟩
    (fun i zs σ' H'' _ q=>by rw[q.2.1];exact aJ.of h2) (fun i zs σ' H'' q=>by have:=q.2.2.1.length_le;rw[MB]at this;lia) ?_ ?_⟩
   .rintro i zs σ' H'' x R hx ⟨⟨v,rfl⟩,rfl,sb,lx⟩ done
    obtain⟨a,ns,rfl,ha,hns⟩:=x2.get hx;rw[Mv]at hns;have hi:i<(n+1-1).toNat:=by
     have:=List.getElem?_eq_some_iff.mp hx;obtain⟨z,_⟩:=this;rw[x2.length,Mu,aB]at z;exact z
    have gi:=bR hi;rw[gi]at hns;cases hns;have ib1:(1:Int)<=1+i:=by lia
    have ib2:(1:Int)+i<=n:=by lia
    have h0:(cq xs (1+i))[0]?=some (1+(i:Int)):=by
     unfold cq;rw[Mv,List.getElem?_range (by unfold eE;lia)];rfl
    have et2:(ys.take (i+1))=ys.take i++[.ref a]:=by rw[MO,hx];rfl
    have ef:((bK 1 (n+1)).take (i+1))=(bK 1 (n+1)).take i++[1+(i:Int)]:=by rw[MO,gi];rfl
    obtain⟨M,M1,M2⟩:∃M,M∈cq xs (1+i)/\∀b∈cq xs (1+i),M<=b:=iQ (List.ne_nil_of_mem (MF h0));refine⟨_,rfl,a,_,_,_,rfl,rfl,aJ.of ha,eY (by lia) h0,_,rfl,a,_,M,rfl,aJ.of ha,M1,M2,rfl,_,rfl,?_⟩;have el:decide (V.int (1+(i:Int))=V.int M)=least xs (1+i):=by
     rw[Bool.eq_iff_iff];unfold least;rw[List.all_eq_true];simp only[decide_eq_true_eq];constructor
     .intro e b hb
      cases e;exact M2 b hb
     .intro h
      have e1:=h M M1;have e2:=M2 _ (MF h0);rw[Int.le_antisymm e1 e2]
    rw[el];cases hL:least xs (1+(i:Int))with
    |true=>
     refine uv ⟨_,rfl,done _ _ _ ⟨⟨_,rfl⟩,rfl,?_,?_⟩⟩
     .rw[et2];exact sb.append (List.Sublist.refl _)
     .rw[ef,List.filter_append,My,List.filter_cons_of_pos hL]
      exact lx.snoc ha
    |false=>
     refine xb (done _ _ _ ⟨⟨_,rfl⟩,rfl,?_,?_⟩)
     .rw[et2];exact sb.trans (List.sublist_append_left _ _)
     .rw[ef,List.filter_append,My,List.filter_cons_of_neg (by rw[hL];decide),List.filter_nil,List.map_nil,MN]
      exact lx
   .rintro zs σ' H'' q ⟨⟨v,rfl⟩,rfl,sb,lx⟩ hq
    rw[MI (MP _)]at sb;have e3:(bK 1 (n+1)).take ys.length=bK 1 (n+1):=MI (by rw[aB,l1];lia);rw[e3]at lx;refine k q zs _ (s2.free hq) ae (lx.keep (ah.new hq)) (f1.sub sb) (fun z=>?_) (s2.trans (ah.new hq));obtain⟨ns,e⟩:=lx.mem z;rw[hq]at e;cases e
end
end Sw
namespace L2
open PySem PySem.Spec PyProof.Rows
section
variable{P:M0}{w:M3}{K:W.Frag}{mg:Str->Option MX}{base:Nc}{k:Nat}{f:MY}{fd:Nb}{ps:List Str}{sp sp2:Sp}{CX:om}
theorem aR.lift (F:aR P w K mg base gh k f fd ps sp):aR P w K mg base (i3 P w) k f fd ps sp:=
 ⟨F.len,fun A outer s H args us vs Q E hr e0 b r h=>codeAny_mono (F.run A outer s H args us vs Q E hr e0 b r h) fun r s' z=>by
  cases r with
  |error e=>exact False.elim z
  |ok fl=>cases fl<;>exact z⟩
end
end L2
namespace Sw
open PySem L2
theorem all_mk{l:W.OpenLaw}{w:M3}{K:W.Frag}{h:Nc}{mg:Str->Option MX}{fa AD AA gD UU:MY}{tkL eC iI iJ:Tok}{due:List (Str×MY)}{f0 f1 f2 f3 f4 f5 f6 f7 f8 f9 f10 f11 f12 f13 f14 f15 f16 f17 f18 f19 f20 f21 f22 f23 f24 f25 f26 f27 f28 f29 f30 f31 f32 f33 f34 f35 f36 f37 f38 f39 f40 f41 f42 f43 f44 f45 f46 f47 f48 f49 f50 f51 f52 f53 f54 f55 f56 f57:MY}(X:K.In h)(G:h.Ns M6 mg)(hfa:mg "law" =some (.ref fa))
  (ds0:o6 K [("is_whole",top 15,f0),("is_between",top 16,f1),("is_exchange",top 30,f2),("is_row",top 31,f3),("plain",top 21,f4),("great",top 22,f5),("round_from",top 23,f6),("rounds",top 24,f7),("exchanged",top 32,f8),("led",top 33,f9),("check_great",top 37,f10),("star",top 38,f11),("home",top 39,f12),("carried",top 63,f13),("moved",top 64,f14),("tree_of",top 87,f15),("cars_of",top 41,f16),("shared_by",top 72,f17),("beginnings",top 73,f18),("show_things",top 76,f19)])
  (ds1:o6 K [("show_sharing",top 79,f20),("check_text",top 80,f21),("read_number",top 81,f22),("read_row",top 85,f23),("read_order",top 84,f24),("one_word",top 94,f25),("with_commas",top 95,f26),("check_name",top 96,f27),("read_word",top 97,f28),("row_due",top 98,f29),("show_order_of",top 99,f30),("show_kind",top 100,f31),("show_least",top 101,f32),("show_parts",top 102,f33),("show_holes",top 103,f34),("show_lead",top 104,f35),("check_great_of",top 105,f36),("show_tree",top 106,f37),("show_cars",top 107,f38),("show_begun",top 108,f39)])
  (ds2:o6 K [("show_count",top 110,f40),("show_joined",top 111,f41),("show_kept",top 112,f42),("_law_purse",top 116,f43),("_law_take",top 117,f44),("_law_order",top 118,f45),("_law_led",top 119,f46),("_law_rounds",top 120,f47),("_law_least_row",top 121,f48),("_law_moved",top 122,f49),("_law_row_word",top 123,f50),("_law_say",top 124,f51),("_law_elders",top 125,f52),("_law_other",top 126,f53),("_law_listed",top 127,f54),("_law_due",top 128,f55),("_law_right",top 129,f56),("law",top 130,f57)])
  (zs:xh K ["len","abs","int","all","isinstance","bool","tuple","list","range","min","max","sorted","zip","enumerate","str","ValueError"])
  (cs:∃cl:jD,HS K cl/\hW K cl cl.bf 5/\hW K cl cl.bz 9/\j4 K cl.ip/\j4 K cl.jf/\j4 K cl.fM/\j4 K cl.bf/\j4 K cl.bz)
  (eD:W.nsIn K M6 "MOST_EXCHANGES" =some (some (.int 60 eC)))
  (fm:W.nsIn K M6 "MOST_FIGURES" =some (some (.int 9 iI)))
  (fo:W.nsIn K M6 "MOST_LETTERS" =some (some (.int 8 iJ)))
  (aDUE:W.nsIn K M6 "DUE" =some (some (.ref AD)))
  (kx:z7 K w.params AD due)
  (tupk:Paired (wI K) Ec due)
  (aANS:W.nsIn K M6 "ANSWERS" =some (some (.ref AA)))
  (ky:z7 K w.params AA [("show",f42),("order",f30),("kind",f31),("least",f32),("parts",f33),("holes",f34),("lead",f35),("tree",f37),("cars",f38),("begun",f39),("count",f40),("joined",f41)])
  (kj:W.nsIn K M6 "LETTERS" =some (some (.str (Mt "abcdefghijklmnopqrstuvwxyz") tkL)))
  (aDesk:W.nsIn K M6 "Desk" =some (some (.ref gD)))
  (tdk:xI K gD)
  (mI:LA K gD "__init__" "Desk.__init__" (mem (top 114) 0))
  (mR:AJ K gD "row_of" "Desk.row_of" (mem (top 114) 1))
  (mY:AJ K gD "say" "Desk.say" (mem (top 114) 2))
  (au2:W.nsIn K M6 "UNDOING" =some (some (.ref UU)))
  (ku2:AV K w.params UU jw)
  (kib:W.kitOne K (.type "int") (.type "bool")=some false):
  ∃fd:Nb,(∀(s:MZ)(v:MX),BindsTo s fd ⟨[v],[]⟩ [("_law_script",v)])/\∀base:Nc,K.In base->base.Ns M6 mg->aR l.prog w K mg base gh 33 fa fd ["_law_script"] (yV K):=by
 obtain⟨d0,d1,d2,d3,d4,d5,d6,d7,d8,d9,d10,d11,d12,d13,d14,d15,d16,d17,d18,d19,_⟩:=ds0;obtain⟨d20,d21,d22,d23,d24,d25,d26,d27,d28,d29,d30,d31,d32,d33,d34,d35,d36,d37,d38,d39,_⟩:=ds1;obtain⟨d40,d41,d42,d43,d44,d45,d46,d47,d48,d49,d50,d51,d52,d53,d54,d55,d56,d57,_⟩:=ds2;obtain⟨Kg,Kh,Ki,Kj,lD,Ir,Fe,Iu,Ff,yW,C8,lE,Kk,vw,vA,tq,_⟩:=zs.at X G;obtain⟨cl,ck,al_NotGreat,al_NoBound,mP,Ag,Ah,nj,pH⟩:=cs;have As:=ck.As X G lD tq;have gp:=W.mg_of X G eD;have nB:=W.mg_of X G fm;have nD:=W.mg_of X G fo;have Kl:=W.mg_of X G aDUE;have Km:=W.mg_of X G aANS;have Ai:=W.mg_of X G kj;have Iv:=W.mg_of X G aDesk;have kd:=kx.due tupk;have ka:=ky.ans rfl;have Iw:=W.mg_of X G au2;obtain⟨fd_law,Gi⟩:=d57.2.fn;have e:=hfa.symm.trans (W.mg_of X G d57.1);cases e;obtain⟨_,_,kV,dc,pm,an,cd,ct,_,rfl,_,_⟩:=id Gi.ex;refine⟨W.fnOf "law" "law" (eO (top 130)) (dB (top 130)) (ar (top 130)) .none kV dc pm an cd ct,fun s v=> .of_eq rfl,fun base _ _=>?_⟩;have t0:xi mg:=⟨Kg,Kh,Ki⟩;have t1:T1 mg K:={t0 with yj:=Kj,aM:=lD,Cv:=Ir,cu:=Fe,o7:=Iu,bQ:=Ff,KO:=kib};have hLr:(ql cl).Ed=fD:=rfl;have hLd:(ql cl).Ge=rF IG cl.bz cl.fM:=rfl;have hLa:(ql cl).ans=cI cl.bf cl.bz:=rfl;have ts:DM mg K:={t1 with dX:=vA};have ftake:FnAt l.prog w K mg base "_law_take" 1 ["_law_purse_here","_law_many"] mH:=⟨fC X G d44 fun vB=>Fc vB⟩;have td:TD l.prog w K mg base:={t1 with o3:=⟨fC X G d0 fun xn=>Ie xn t1⟩};have td2:LM l.prog w K mg base:={t1 with dW:=⟨fC X G d1 fun iz=>Bz iz td⟩};have td3:LJ l.prog w K mg base (.int 60 eC):={t1 with cE:=gp,cG:=⟨_,rfl⟩,jN:=⟨fC X G d2 fun p7=>Ek p7 td2⟩};have fbi:FnAt l.prog w K mg base "is_between" 2 ["thing","low","high"] JU:=⟨fC X G d1 fun iz=>aR.imp (Bz iz td) (fun _ H _ _ z=>by obtain⟨x,lo,hi,e,q⟩:=z;exact⟨.int x,fun _=>True,.int x,lo,hi,e,.int x,q⟩)⟩;have ttx:Ku mg K (.int 9 iI):={t1 with dX:=vA,ja:=nB,jk:=⟨_,rfl⟩};have trr:Lv l.prog w K mg base:={t1 with
  kD:=⟨fC X G d21 fun tu=>EZ tu ttx⟩
  dQ:=⟨fC X G d22 fun gE=>Be gE ttx⟩
  um:=⟨fC X G d3 fun C9=>AW C9 td3⟩}
 have tck:IZ mg K (.int 8 iJ) (.str (Mt "abcdefghijklmnopqrstuvwxyz") tkL) cl.ip:={t1 with
  jj:=nD
  jc:=⟨_,rfl⟩
  qy:=Ai
  qp:=⟨_,rfl⟩
  cC:=As.cC
  eW:=mP}
 have tr0:LN l.prog w K mg base:={t1 with iF:=yW,kS:=⟨fC X G d6 fun tD=>Jy tD⟩};have frd:FnAt l.prog w K mg base "rounds" 3 ["order"] fR:=⟨fC X G d7 fun Dc=>za Dc tr0⟩;have trwd:JM l.prog w K mg base (ql cl):={t1 with
  dQ:=⟨fC X G d22 fun gE=>aR.imp (Be gE ttx).lift fun _ _ _ _ h=>h.2⟩
  oW:=⟨fC X G d23 fun xo=>aR.imp (wk xo trr).lift fun _ _ _ _ h=>h.2⟩
  kC:=⟨fC X G d24 fun tE=>DR tE fun _ _ _ _ h=>absurd (show CL (Mt "order")=true from h.1) (by decide+kernel)⟩
  lC:=⟨fC X G d27 fun tF=>Gu tF tck⟩
  cC:=As.cC
  eW:=mP}
 have tca:LH l.prog w K mg base:={t1 with cB:=lE,eU:=⟨fC X G d8 fun jm=>FV jm⟩};have tmv:LB l.prog w K mg base UU cl.fM:={t1 with
  dW:=fbi
  mF:=⟨fC X G d13 fun Aj=>Hd Aj tca⟩
  qS:=Iw
  qf:=rfl
  qL:=ku2
  gK:=As.gK
  oS:=Ah}
 have trd:LL l.prog w K mg base IG (.int 60 eC) cl.bz cl.fM:={t1 with
  C6:=⟨fC X G d11 fun Iy=>DR Iy fun _ _ _ _ h=>absurd h.1 (by decide+kernel)⟩
  BR:=⟨fC X G d12 fun Iz=>DR Iz fun _ _ _ _ h=>absurd h.1 (by decide+kernel)⟩
  ym:=⟨fC X G d14 fun Fg=>aR.imp ((Ia Fg tmv).mono (by decide)) fun _ _ _ _ h=>h.2⟩
  cE:=gp
  cG:=⟨_,rfl⟩
  dv:=As.dv
  gW:=pH}
 have t2:T2 l.prog w K mg base:={t1 with xZ:=⟨fC X G d4 fun Fh=>Cm Fh t1⟩,eU:=⟨fC X G d8 fun jm=>FV jm⟩};have fled:FnAt l.prog w K mg base "led" 3 ["n","row"] tf:=⟨fC X G d9 fun Kn=>El Kn t2⟩;have tcg:JA l.prog w K mg base cl.bf:={t1 with u4:=fled,yz:=⟨fC X G d5 fun Fi=>BB Fi t1⟩,cL:=As.cL,fP:=nj};have fcg:eV l.prog w K mg base "check_great" 4 ["row"] (nW cl.bf):=⟨fC X G d10 fun p8=>Bp p8 tcg⟩;have ttf:JC l.prog w K mg base cl.bf:={t1 with i5:=vw,cS:=fcg};have tcr:Ik l.prog w K mg base cl.bf:={t1 with cS:=fcg};have tbg:JF l.prog w K mg base cl.bf:={tcr with mT:=⟨fC X G d17 fun vC=>Hv vC {t1 with cB:=lE,tQ:=frd}⟩,u4:=fled};have ts7:ED l.prog w K mg base cl.bf cl.bz:={t1 with
  dX:=vA
  dA:=⟨fC X G d36 fun mQ=>Hx mQ {t1 with cL:=As.cL,fP:=nj}⟩
  qO:=⟨fC X G d15 fun Ak=>wm Ak ttf⟩
  qv:=⟨fC X G d16 fun Al=>wc Al tcr⟩
  kP:=⟨fC X G d18 fun tG=>E2 tG tbg⟩
  cT:=⟨fC X G d26 fun gF=>FN gF t1⟩
  pk:=⟨fC X G d25 fun xt=>Jk xt⟩
  jh:=⟨fC X G d20 fun pI=>zG pI {t1 with jI:=⟨fC X G d19 fun p9=>zX p9 ttx⟩}⟩
  dv:=As.dv
  gW:=pH}
 have noA:∀{word:Str},word≠Mt "tree"->word≠Mt "cars"->word≠Mt "begun"->∀vs H Q E,iX (ql cl) word vs H Q E->False:=fun{word} h1 h2 h3 vs H Q E h=>A8 hLa h1 h2 h3 h;have tsay:IM l.prog w K mg base gD AD AA _ _ (ql cl):={t1,tdk with
  BU:=Kk
  cB:=lE
  cC:=As.cC
  eW:=mP
  yU:=Kl
  yO:=rfl
  yy:=kd
  mE:=Km
  lM:=rfl
  lW:=ka
  tabs:=zi tupk rfl
  jQ:=LC tdk.cls mR fun F=>B7 F {tdk with i4:=As.i4,uW:=Ag}
  mX:=⟨fC X G d28 fun vD=>IQ vD hLr trwd⟩
  qu:=⟨fC X G d29 fun Am=>Hq Am hLd trd⟩
  cT:=⟨fC X G d26 fun gF=>FN gF t1⟩
  Fw:=fun f sp h=>by
   obtain⟨word,e,rfl⟩:=h;have mm:=qT e;simp only[MC,MM,or_false,Prod.mk.injEq]at mm;rcases mm with⟨rfl,rfl⟩|⟨rfl,rfl⟩|⟨rfl,rfl⟩|⟨rfl,rfl⟩|⟨rfl,rfl⟩|⟨rfl,rfl⟩|⟨rfl,rfl⟩|⟨rfl,rfl⟩|⟨rfl,rfl⟩|⟨rfl,rfl⟩|⟨rfl,rfl⟩|⟨rfl,rfl⟩
   .exact sF d42 (noA (by decide+kernel) (by decide+kernel) (by decide+kernel))
   .exact sF d30 (noA (by decide+kernel) (by decide+kernel) (by decide+kernel))
   .exact sF d31 (noA (by decide+kernel) (by decide+kernel) (by decide+kernel))
   .exact sF d32 (noA (by decide+kernel) (by decide+kernel) (by decide+kernel))
   .exact sF d33 (noA (by decide+kernel) (by decide+kernel) (by decide+kernel))
   .exact sF d34 (noA (by decide+kernel) (by decide+kernel) (by decide+kernel))
   .exact sF d35 (noA (by decide+kernel) (by decide+kernel) (by decide+kernel))
   .exact vq d37 (by decide) fun vE=>(Bu vE hLa ts7).toQ
   .exact vq d38 (by decide) fun vF=>(Az vF hLa ts7).toQ
   .exact vq d39 (by decide) fun tH=>zV tH hLa ts7
   .exact sF d40 (noA (by decide+kernel) (by decide+kernel) (by decide+kernel))
   .exact sF d41 (noA (by decide+kernel) (by decide+kernel) (by decide+kernel))}
 have tls:F6 l.prog w K mg base cl gD (ql cl):={t1,As with oH:=LC tdk.cls mY fun F=>Il F tsay};have fsay:FnAt l.prog w K mg base "_law_say" 31 ["_law_desk","_law_row"] (mh K cl gD (ql cl)):=⟨fC X G d51 fun xu=>DP xu tls⟩;have fro:FnAt l.prog w K mg base "_law_rounds" 1 ["_law_order_here"] fR:=⟨fC X G d47 fun qc=>wN qc t1⟩;have flsr:FnAt l.prog w K mg base "_law_least_row" 2 ["_law_purse_here","_law_order_here"] xM:=⟨fC X G d48 fun mS=>GQ mS {t1 with iF:=yW,kr:=C8,aI:=ftake,cU:=fro}⟩;have tdu:FJ l.prog w K mg base:={t1 with
  dX:=vA
  cB:=lE
  ke:=⟨fC X G d46 fun xv=>E5 xv t1⟩
  cU:=fro
  jH:=⟨fC X G d52 fun qd=>Ib qd t1⟩
  gz:=⟨fC X G d54 fun qe=>EF qe ts⟩}
 have trg:FK l.prog w K mg base cl gD:={ts with
  dq:=fsay
  pE:=⟨fC X G d55 fun xw=>DG xw tdu⟩
  ij:=al_NotGreat
  qR:=al_NoBound}
 have tl:TL l.prog w K mg base cl gD:={ts with
  kr:=C8
  iF:=yW
  lb:=⟨fC X G d43 fun tI=>Bo tI t0⟩
  aI:=ftake
  bM:=flsr
  lh:=⟨fC X G d53 fun tJ=>DE tJ {t1 with aI:=ftake,kH:=⟨fC X G d45 fun tK=>B2 tK {t1 with aI:=ftake}⟩,bM:=flsr}⟩
  lu:=⟨fC X G d49 fun tL=>Hk tL {t1 with iF:=yW,kr:=C8}⟩
  iG:=⟨fC X G d50 fun nE=>Hz nE {t1 with dX:=vA}⟩
  dq:=fsay
  ie:=⟨fC X G d56 fun tM=>Ex tM trg⟩
  yp:=KS Iv mI fun F=>DL F tdk}
 exact Hi Gi tl
theorem walk{l:W.OpenLaw}{q:M0}{loose:List Str}{XP:(Str->Option MX)->Nc->Prop}{YP:M3->Nc->Prop}{d:DefRec}{K:Params->W.Frag}(hn:l.most=some 63)(hdf:d.params.defaults=[])
  (hY:∀(w:M3)(h:Nc),YP w h->(K w.params).In h)
  (F:∀(w:M3)(mg:Str->Option MX)(fa:MY)(h:Nc),(K w.params).In h->h.Ns M6 mg->mg d.name=some (.ref fa)->
   ∃fd:Nb,(∀(s:MZ)(u:MX),BindsTo s fd ⟨[u],[]⟩ [("_law_script",u)])/\∀base:Nc,(K w.params).In base->base.Ns M6 mg->aR l.prog w (K w.params) mg base gh 33 fa fd ["_law_script"] (yV (K w.params))):
  W.WalkO q loose XP YP l.row.toRowW d [] (fun f vs=>PySem.call f vs):=
 L2.E9 (n:=63) (k:=33) (x:= "_law_script") (CX:=fun _=>gh) (sp:=fun w=>yV (K w.params)) hn (by decide) hdf ⟨rfl,rfl,by decide,by decide⟩ hY F (fun _ _ a ns hl _ hS=>⟨a,ns,rfl,hS,hl,fun _=>rfl⟩) fun _ _ _ _ _ z=>z
end Sw
namespace PySem.W.Fast
def tw958527778770464853:=0
def tw17819961616363059022:=0
def tw14946506263894872266:=0
def tw7122838315823654066:=0
def tw18372387197965601223:=0
def tw8793293526800290080:=0
def tw12018501508417618318:=0
def tw5027829515646527647:=0
def tw8307703465018964361:=0
def tw7101030709816497683:=0
def tw11185188947874699864:=0
def tw2212743085664329034:=0
def tw2988782870085944439:=0
def tw11379989493685954200:=0
def tw17568970643518631141:=0
def tw2239291493238369283:=0
def tw10805973926253234697:=0
def tw13022103485060813949:=0
def tw3981099054119872618:=0
def tw12911261773299882879:=0
def tw14124617550278165123:=0
def tw594521409905394598:=0
def tw16690410543605142576:=0
def tw15591540225030900929:=0
def tw15463253357311021393:=0
def tw9768847634494700940:=0
def tw18421054960175754733:=0
def tw13831942254264838298:=0
def tw242530600517287967:=0
def tw1486584472924203407:=0
def tw7812524368402798264:=0
def tw15910888508042212650:=0
def tw11623931736528837520:=0
def tw13726421696245340990:=0
def tw5552551015498751405:=0
def tw13385139979418291609:=0
def tw11530336748246432999:=0
def tw10988958016567103199:=0
def tw13471219387957834175:=0
def tw571730060955802679:=0
def tw12328180433924450323:=0
def tw3352612827503560891:=0
def tw7876666702614834277:=0
def tw3158902459703735904:=0
def tw10130002667025460109:=0
def tw5319272743304424347:=0
def tw16965782168890815332:=0
def tw6117333893339051852:=0
def tw6360549172218152035:=0
def tw2612306007276705158:=0
def tw1243322844629783625:=0
def tw16494115886034402083:=0
def tw4615978813744922085:=0
def tw12589237271726054045:=0
def tw12417720878359946903:=0
def tw7912518968143245486:=0
def tw14576673020549763720:=0
def tw10068316172893280152:=0
def tw3036840699462764729:=0
def tw13804092545355475187:=0
def tw833944463676559461:=0
def tw12299059746174933379:=0
def tw5315635431843433365:=0
def tw15227295704462813669:=0
def tw1502959569931004494:=0
def tw13696118818868981196:=0
def tw12753292360131318391:=0
def tw16461368534317721393:=0
def tw631870882437033760:=0
def tw1792653153030673187:=0
def tw6123987196944421199:=0
def tw18192791745925564346:=0
def tw15144977083209669873:=0
def tw3510456846181833039:=0
def tw2781363394668823429:=0
def tw4622021041816082884:=0
def tw5999280618847930480:=0
def tw6341733864162667167:=0
def tw6487734871127460059:=0
def tw4277772602057069479:=0
def tw11252439289553324412:=0
def tw11480965846177410477:=0
def tw11028879140974711469:=0
def tw4459322599132147758:=0
def tw6371645293794438576:=0
def tw17128716238794801800:=0
def tw5955665571869813577:=0
def tw14189368590113658316:=0
def tw5725934435461483520:=0
def tw15574731861694620282:=0
def tw7168585517905513348:=0
def tw18051216890221128462:=0
def tw6277482245894524496:=0
def tw1825463435341887495:=0
def tw5791397979611351467:=0
def tw4701895752776427419:=0
def tw15289108943614436019:=0
def tw5510914581393686370:=0
def tw14488855130889072572:=0
def tw4264342216028393372:=0
def tw3492313975296372939:=0
def tw7785946226219044396:=0
def tw1567561366319769691:=0
def tw15254333780530897138:=0
def tw1140445713609905458:=0
def tw14073675358291986011:=0
def tw15771998798483231081:=0
def tw13807583539929807741:=0
def tw7390048036855085853:=0
def tw9451035798120117402:=0
def tw11194178066644207860:=0
def tw3450534057563935822:=0
def tw942545418653689269:=0
def tw6153801703398280403:=0
def tw6266941986157238854:=0
def tw9261933414681235181:=0
def tw11092359080945009512:=0
def tw13328727356928281093:=0
def tw13933903409639825996:=0
def tw17277835933087153275:=0
def tw16444272360930869393:=0
def tw11969904219376020271:=0
def tw13218022963505526921:=0
def tw3688428054190468914:=0
def tw15124073772364732545:=0
def tw3593237532790919457:=0
def tw10374703622788911753:=0
def tw14353585630802414893:=0
def tw18412733533888621509:=0
def tw18214094761026336399:=0
def tw493584232119942997:=0
def tw334777618427371351:=0
def tw8752301145135993269:=0
def tw18358823531492660209:=0
def tw17917473928133403892:=0
def tw1897998845606749796:=0
def tw10734354359735844083:=0
def tw15446365803338996427:=0
def tw785046865341051186:=0
def tw2051173327600001398:=0
def tw4834603203018579296:=0
def tw6363250615771728922:=0
def tw3121710872320025698:=0
def tw9739860076859624786:=0
def tw9332642024607888467:=0
def tw11155218086512442496:=0
def tw14080955144114980599:=0
def tw6423905982201439180:=0
def tw204464995798061786:=0
def tw9970107622797380867:=0
def tw406811309598022646:=0
def tw609096978167663684:=0
def tw14131208711224337298:=0
def tw7445674982286927969:=0
def tw1111770422585031039:=0
def tw15702869005595156089:=0
def tw14273875073419866225:=0
def tw9145578473724708007:=0
def tw4540545638936621151:=0
def tw9605368934604276435:=0
def tw9428629649812942324:=0
def tw13071093199277742789:=0
def tw434719603023592359:=0
def tw14461040754351571885:=0
def tw18131260103138890006:=0
def tw11560596876901260455:=0
def tw16546597133337005357:=0
def tw15670717213997084208:=0
def tw1963807809221307832:=0
def tw15094435978046988815:=0
def tw12086995751810305079:=0
def tw7609164772713630487:=0
def tw15209345346935562290:=0
def tw4414016951824575758:=0
def tw15507486026189054110:=0
def tw5410991984029515479:=0
def tw1665494754479171112:=0
def tw16948225199814368406:=0
def tw8391569763460086962:=0
def tw9130484859273137605:=0
def tw7078829148191447504:=0
def tw3527066074388896468:=0
def tw12701429641758370978:=0
def tw17597488858301922606:=0
def tw1296491335507551709:=0
def tw6881685187134160402:=0
def tw14229588037402191101:=0
def tw4890692762097661527:=0
def tw7556215842899580894:=0
def tw16811131658933556330:=0
def tw15954763174407286835:=0
def tw17110057242694254240:=0
def tw333004805487674563:=0
def tw715836416661726096:=0
def tw8350894950575696018:=0
def tw8274455771699284155:=0
def tw542413381377786204:=0
def tw1975356387243898179:=0
def tw16926714393116721067:=0
def tw4120581538438841064:=0
def tw5485618397871322064:=0
def tw17842171114940465229:=0
def tw18070168301128047756:=0
def tw13735615359719941589:=0
def tw5769776116845733562:=0
def tw3845882807522261539:=0
def tw17838575416929224238:=0
def tw10613452775619491191:=0
def tw10647528871364430532:=0
def tw6520501219636115930:=0
def tw2022694131193872009:=0
def tw11071114094275729220:=0
def tw12364061640591830955:=0
def tw16439468006392792476:=0
def tw3512090797916884258:=0
def tw10524479940142498396:=0
def tw18446726274213916768:=0
def tw3852085689426118431:=0
def tw2241987526078912974:=0
def tw17904579557244606836:=0
def tw2408049013055155149:=0
def tw7497619346207804272:=0
def tw5507328773877185215:=0
def tw17345494994950224415:=0
def tw15638825751323393155:=0
def tw1233844261818628076:=0
def tw15698252189615377044:=0
def tw13253568249717767945:=0
def tw13332000830116445949:=0
def tw13574248141639458367:=0
def tw16470167089519469431:=0
def tw9854746997785140116:=0
def tw10698969510643095506:=0
def tw1826220489519999212:=0
def tw1298991943568262321:=0
def tw17224531835659499150:=0
def tw14273589583003162435:=0
def tw14479753626226989274:=0
def tw14345009568459355957:=0
def tw12720625274335568989:=0
def tw16944465322906074803:=0
def tw7615218543351356777:=0
def tw6947926474356972278:=0
def tw9016488761891820907:=0
def tw15691598643902656833:=0
def tw2689417174641235350:=0
def tw13171698053933407232:=0
def tw9944985805326598975:=0
def tw14519463922106941376:=0
def tw5488034942080823751:=0
def tw11831723142311161932:=0
def tw16741104378291904080:=0
def tw1970439163920540301:=0
def tw2563173297877476837:=0
def tw1307518277581570377:=0
def tw16463110114883460520:=0
def tw15945313726521083937:=0
def tw5160584213463411943:=0
def tw4698226845836238284:=0
def tw4614243659396777526:=0
def tw10610121799256756757:=0
def tw13448134787197780544:=0
def tw11773767343941227445:=0
def tw14754359097426015615:=0
def tw7400817507390625309:=0
def tw380278189224934448:=0
def tw11720049221762975626:=0
def tw12046072292816466547:=0
def tw10410193431756180780:=0
def tw2282792087060765301:=0
def tw1660878266306355764:=0
def tw7162169847280424221:=0
def tw1040570986353707026:=0
def tw9303396404052160500:=0
def tw13394126572958235411:=0
def tw6105045605621328932:=0
def tw5965512086311968094:=0
def tw10330980883928002739:=0
def tw5353568197126867063:=0
def tw5128290175632921992:=0
def tw4187275819655126458:=0
def tw11660499537023283847:=0
def tw1095344167774593485:=0
def tw16865872284901787350:=0
def tw1628362990257788134:=0
def tw2785078569105468143:=0
def tw992122176793786896:=0
def tw16930546033891749043:=0
def tw15782235756815519271:=0
def tw6650544607432785077:=0
def tw2649227270439083266:=0
def tw879242076569547326:=0
def tw1060475182739782922:=0
def tw7816120378774013101:=0
def tw806174109490955203:=0
def tw759086714914266895:=0
def tw6157640529502168226:=0
def tw2383066540209926044:=0
def tw237937381666170371:=0
def tw17897097446104362493:=0
def tw15652293333579480272:=0
def tw15492794917687556906:=0
def tw14199826750714718940:=0
def tw13117250036199102714:=0
def tw17541886262394762069:=0
def tw1393937484424380514:=0
def tw1310269164680041827:=0
def tw13967948462787916810:=0
def tw13217777515115871667:=0
def tw2690619317632923149:=0
def tw11736082944883106351:=0
def tw12050215333961884480:=0
def tw2394324483378648771:=0
def tw1450660797273717065:=0
def tw3008434537770618750:=0
def tw17165558693625501489:=0
def tw12937984327107947033:=0
def tw15194577548598881089:=0
def tw18138000107508871388:=0
def tw2237920052580525141:=0
def tw11883759222699642981:=0
def tw12345680026176991123:=0
def tw12125044961225104000:=0
def tw10657574362157261829:=0
def tw17637739079725897049:=0
def tw15455501297444256073:=0
def tw14438996724971112838:=0
def tw2681055584877193292:=0
def tw2585181805751169557:=0
def tw1146793855415604261:=0
def tw14506297411009905779:=0
def tw9607811980972359920:=0
def tw18170650187541093106:=0
def tw16228412821096470264:=0
def tw2983345588013300075:=0
def tw17103483060450103035:=0
def tw1485328086320804571:=0
def tw15097617990339497063:=0
def tw7426573381450510266:=0
def tw8892684871203051968:=0
def tw200737140609252270:=0
def tw5246944497169301578:=0
def tw3017965212583446581:=0
def tw17904501976390330853:=0
def tw11351790334384440221:=0
def tw17003281612437977251:=0
def tw1118559432836149173:=0
def tw10006388607905055231:=0
def tw9370374184159519029:=0
def tw833209927187852372:=0
def tw3277270042722767784:=0
def tw3772474769382135583:=0
def tw9701515496805692512:=0
def tw6360764785892507826:=0
def tw16137220408172295859:=0
def tw15401071175412745142:=0
def tw10728741998520329311:=0
def tw3713674722628235393:=0
def tw8572842461317932850:=0
def tw7746920466457361861:=0
def tw7630880255742672153:=0
def tw7350842955758673812:=0
def tw18145772048222119902:=0
def tw16893594261978369247:=0
def tw15502336047053128307:=0
def tw4471255799092829633:=0
def tw9319787159187728832:=0
def tw7443424454767433607:=0
def tw5789863019005893847:=0
def tw15456663997672314000:=0
def tw823394118342186453:=0
def tw6653404678282033809:=0
def tw5243482707529695487:=0
def tw16162730319843517245:=0
def tw13291932409451886010:=0
def tw12089400342424008278:=0
def tw8253838073233427172:=0
def tw7880031425579857622:=0
def tw6995650093039462214:=0
def tw18126463695572272468:=0
def tw12860457860249753649:=0
def tw8347485360759455133:=0
def tw17628313057951563477:=0
def tw159669634573206768:=0
def tw14171165176858162083:=0
def tw8353232638332826197:=0
def tw5656774353503992546:=0
def tw5455885845438041957:=0
def tw2051269005779251433:=0
def tw12945693378240261594:=0
def tw10590082462193720113:=0
def tw6406398224751041912:=0
def tw4950718582481180918:=0
def tw4440093613277148895:=0
def tw2979598120622592565:=0
def tw2215458865573688260:=0
def tw15220536410658219816:=0
def tw10466898633894134848:=0
def tw9608756717252870417:=0
def tw5591036676176438314:=0
def tw4884857569124765421:=0
def tw3737690498366211656:=0
def tw3559889246997478643:=0
def tw638791122684418661:=0
def tw4357320405607421089:=0
def tw218039439147853814:=0
def tw14690776755529840746:=0
def tw13078222372795412768:=0
def tw12627922621335655592:=0
def tw10478743782528878163:=0
def tw862297278823386769:=0
def tw8106279792890687401:=0
def tw4807246754710668164:=0
def tw2891551431095508480:=0
def tw1747010300389402302:=0
def tw3101006407750022174:=0
def tw10105671790096009717:=0
def tw10060420400928169697:=0
def tw10826573861120214140:=0
def tw17588051726645740479:=0
def tw14991533177866146315:=0
def tw5346708474247812317:=0
def tw8023627554140692158:=0
def tw506662773685302132:=0
def tw4380468038213763147:=0
def tw5348730387399080705:=0
def tw448418426557381237:=0
def tw1406112887787024149:=0
def tw102922163179861914:=0
def tw5153225834725104052:=0
def tw3310118853644538018:=0
def tw4455487413133864708:=0
def tw12269298132085073304:=0
def tw7265361629863284175:=0
def tw1760349898651789965:=0
def tw11519904134888022426:=0
def tw17481903097269345527:=0
def tw3565922040813298032:=0
def tw17827364458656893623:=0
def tw16822286819978613752:=0
def tw10112560136087980299:=0
def tw3940163796911911774:=0
def tw3572795594145669758:=0
def tw15711438904162268855:=0
def tw12775187106318252385:=0
def tw18388546413613887101:=0
def tw18304509377381319446:=0
def tw14345649006585117798:=0
def tw11997388470047872147:=0
def tw5699043686748290964:=0
def tw16082099129402998608:=0
def tw13659576642128775335:=0
def tw14354904995783360601:=0
def tw11088813247294973675:=0
def tw7025375436700747516:=0
def tw9476991837327751087:=0
def tw17081764453832109537:=0
def tw658105984849136094:=0
def tw6181458079309396346:=0
def tw13298310631398861662:=0
def tw9863843277537446412:=0
def tw13502950619280430397:=0
def tw13933090022426165988:=0
def tw14091135260420615948:=0
def tw8942458276157121966:=0
def tw891289039119595015:=0
def tw8575141770653886316:=0
def tw7385789799642718351:=0
def tw5437146612202140466:=0
def tw4721768018856570613:=0
def tw3695658344073247302:=0
def tw3379013342359929754:=0
def tw3291548025578999270:=0
def tw3161362844664640008:=0
def tw255499942608759933:=0
def tw2256365790591939437:=0
def tw16730507012821376027:=0
def tw15203675715641168939:=0
def tw14128054475026563129:=0
def tw12396541384676096528:=0
def tw11456821759094797365:=0
def tw10847459915503593467:=0
def tw11556520337315887883:=0
def tw9825860940402217202:=0
def tw14149716075790613728:=0
def tw5706123116834979702:=0
def tw5970608423996791857:=0
def tw17344609966632987246:=0
def tw11848311844936421198:=0
def tw11298468869533536833:=0
def tw848509858401600867:=0
def tw6700729881710242202:=0
def tw4521767998687740546:=0
def tw2182154528662439908:=0
def tw1813687733549303841:=0
def tw18082160307872629432:=0
def tw17776642142926613813:=0
def tw15973421172537928893:=0
def tw15390017720181175343:=0
def tw14566757245398446212:=0
def tw12772273687690475481:=0
def tw9475243436051771919:=0
def tw15969129981434800644:=0
def tw15308617045752255140:=0
def tw11900802597091137387:=0
def tw9863966118108137079:=0
def tw1180281233333808928:=0
def tw17691610928968860983:=0
def tw15296060820812740114:=0
def tw6162326240182919387:=0
def tw5910912916662088942:=0
def tw1360245317195228476:=0
def tw8656696836738480054:=0
def tw8432382993770700448:=0
def tw8353117412696638004:=0
def tw6549042858805572402:=0
def tw4527388553397735684:=0
def tw4092617531419594563:=0
def tw18018091205931513662:=0
def tw17921005963168906259:=0
def tw15510267292273725759:=0
def tw10536448119608231802:=0
def tw10396523155066810289:=0
def tw8760087483207982286:=0
def tw4662107406064404766:=0
def tw15918080466014884247:=0
def tw14630857382085342754:=0
def tw14309812040512516795:=0
def tw8704185418750915956:=0
def tw7852938834191511083:=0
def tw7812926351591029487:=0
def tw7257794183664621391:=0
def tw6946638097044400517:=0
def tw6474038735448810772:=0
def tw3405405223615699054:=0
def tw2953739633731607310:=0
def tw2770263792693538684:=0
def tw2425481023927302527:=0
def tw1836922270188760062:=0
def tw15986825945413578950:=0
def tw15184387453036872850:=0
def tw13546032278526563621:=0
def tw951742108045118183:=0
def tw8736965022428284189:=0
def tw7584703130411813331:=0
def tw6635237768325270039:=0
def tw6063311676631147554:=0
def tw546431170906930196:=0
def tw5266240716052577882:=0
def tw3730813833057780999:=0
def tw3131278724047306912:=0
def tw17514751127242581433:=0
def tw16447985870178377259:=0
def tw16249430725526735617:=0
def tw14825834104226279072:=0
def tw12462932709958862741:=0
def tw341562077736396072:=0
def tw9448953398039047497:=0
def tw8849735983182766061:=0
def tw8773065863589020379:=0
def tw8511233016664907846:=0
def tw7729198206822946963:=0
def tw4279111164887715140:=0
def tw16789803982248616603:=0
def tw16740619618680855752:=0
def tw14940220251978300081:=0
def tw1427934566799394205:=0
def tw12181654566514533524:=0
def tw1015505396086935337:=0
def tw9092308114952362572:=0
def tw822204505958933394:=0
def tw7074585297679208894:=0
def tw571546175071586967:=0
def tw5446596749118722177:=0
def tw5014285846092842370:=0
def tw4748482741135562991:=0
def tw2865411175965017614:=0
def tw17373537698307322846:=0
def tw17352900711928397016:=0
def tw17099314878331548056:=0
def tw17037239926979749147:=0
def tw12305858869533532621:=0
def tw1126012329835537513:=0
def tw9629425008897800074:=0
def tw9610973681554975972:=0
def tw9527082188130230983:=0
def tw9513488523191562317:=0
def tw9471527081270313804:=0
def tw9256025862665797675:=0
def tw9183643120058032668:=0
def tw9166734669428797007:=0
def tw8929029320274420:=0
def tw881660257866544667:=0
def tw8770994896819043153:=0
def tw8581459522245048544:=0
def tw8538082436934539799:=0
def tw8531055358930975056:=0
def tw8510653996404755033:=0
def tw836614702616786530:=0
def tw8291923519678757570:=0
def tw8283884098629989268:=0
def tw825094741454635259:=0
def tw8224219678377608749:=0
def tw8168813274957386195:=0
def tw8104390666613451781:=0
def tw8086086981628096403:=0
def tw8072997970709760424:=0
def tw7994367893330830215:=0
def tw7858101092219115619:=0
def tw7550964134100662497:=0
def tw7526071284363687107:=0
def tw7495491449532413856:=0
def tw7424925471958550377:=0
def tw7422401265490946926:=0
def tw7343990845376340701:=0
def tw7341423329106067203:=0
def tw7272177652876360339:=0
def tw7152437141107279298:=0
def tw6951979326731513121:=0
def tw6900472135387802210:=0
def tw6840230213187513272:=0
def tw6802116312939040340:=0
def tw6740143696963061077:=0
def tw6597216132481729832:=0
def tw6507487554891611571:=0
def tw6447891303550418083:=0
def tw6242199610761239104:=0
def tw6215858723782128788:=0
def tw612768095880724182:=0
def tw6050500548416866284:=0
def tw6026446997325895630:=0
def tw558932297862745735:=0
def tw552558363779044570:=0
def tw552425363924367339:=0
def tw5331766179671833739:=0
def tw5214531243093984301:=0
def tw5162918741581694028:=0
def tw5091624992801005413:=0
def tw5081522494083794442:=0
def tw5051003646182704685:=0
def tw4950700583730535869:=0
def tw4947184613312249803:=0
def tw4565532689909533264:=0
def tw4547654566617367593:=0
def tw4412845955900178562:=0
def tw4395661470563189936:=0
def tw4085462982417492210:=0
def tw3991573317408860854:=0
def tw3937889636819875840:=0
def tw3864901768937237472:=0
def tw3663670992838768386:=0
def tw3059979133034850585:=0
def tw3032247483848166340:=0
def tw2975299615029195424:=0
def tw2844177850289250318:=0
def tw2759006893771450011:=0
def tw2627219543212007836:=0
def tw2572105917739359745:=0
def tw2449306884951585671:=0
def tw2390061027770424640:=0
def tw2362880630586573519:=0
def tw2341818477380520579:=0
def tw2308222803871332441:=0
def tw22952766265407114:=0
def tw2224720582979442869:=0
def tw196261542353082709:=0
def tw1907397424504252218:=0
def tw18160594791587595669:=0
def tw18155550064269427362:=0
def tw18032884385001559871:=0
def tw17963526592766618527:=0
def tw17924651393871629334:=0
def tw1787433216440508308:=0
def tw17754453869396050516:=0
def tw17697405023817436688:=0
def tw17628832476012351515:=0
def tw17628609555467318975:=0
def tw17443426003621322010:=0
def tw17337345698346875460:=0
def tw17106372711573259944:=0
def tw16979522979697706898:=0
def tw16940452250666652956:=0
def tw16855748211662539088:=0
def tw16776613883811567406:=0
def tw16766550782117878936:=0
def tw16560012602980082806:=0
def tw16433740288727107753:=0
def tw16411964026600554923:=0
def tw16262157629468131374:=0
def tw16133643757666018491:=0
def tw16064677297886411213:=0
def tw16009805872028059434:=0
def tw15978440977049334613:=0
def tw15954996696896943520:=0
def tw15915480465981608064:=0
def tw15777598531032295826:=0
def tw1577162828616413486:=0
def tw15730678823494058745:=0
def tw15685326099572631065:=0
def tw1556125457716980672:=0
def tw15473049269808998806:=0
def tw15438561079709554307:=0
def tw15417554621660690136:=0
def tw15185961713276545972:=0
def tw15072260565419495554:=0
def tw15055985222882454507:=0
def tw15030951785667749282:=0
def tw14827970780588533756:=0
def tw14807594437943944777:=0
def tw14799426862546676720:=0
def tw1473866309195061310:=0
def tw14715946995465922914:=0
def tw146122384691161285:=0
def tw14588065108824311861:=0
def tw14523128504186935796:=0
def tw14485183311998406306:=0
def tw14385497258784571796:=0
def tw1422265447372247280:=0
def tw14177438163295177495:=0
def tw14098253742496647593:=0
def tw13925829730016233453:=0
def tw13903893699484110005:=0
def tw13875210188408027171:=0
def tw13266019402231305027:=0
def tw13193374502518221047:=0
def tw13127208462468473309:=0
def tw13118898909302205776:=0
def tw13026447281220587260:=0
def tw12991086418357384259:=0
def tw12951090347944484133:=0
def tw12854785045650257566:=0
def tw12699747715985024664:=0
def tw12611589265903839551:=0
def tw12596843733891703492:=0
def tw12552438483318941111:=0
def tw12531140762354625387:=0
def tw12329454757398251430:=0
def tw12329106455487748610:=0
def tw12228343306389206162:=0
def tw11609372887288095405:=0
def tw11526848905440555520:=0
def tw11420925246740499782:=0
def tw11413664656622569876:=0
def tw1136653351119970689:=0
def tw11329664573288609981:=0
def tw11124602534590398069:=0
def tw11093473007976113843:=0
def tw11068924179922283994:=0
def tw11041754073058516547:=0
def tw10890948843621459423:=0
def tw10863785088613302340:=0
def tw10715054381613995733:=0
def tw10452850880487671227:=0
def tw1025638157757280550:=0
def tw10252539847354746240:=0
def tw10250054323486568369:=0
def tw10244911319094827034:=0
def tw10239673077871373001:=0
def tw10130480653084386929:=0
def tw10046531564372217212:=0
end PySem.W.Fast
open PySem PySem.W PyProof.Rows
set_option maxRecDepth 100000 in
set_option maxHeartbeats 0 in
theorem PySem.Challenge.cw_swapstars_k77_a_desk_of_the_great_round_holds : PySem.Challenge.rw_swapstars_k77_a_desk_of_the_great_round.Holds := by
 w_on;o_law;k_head;(case hw=>w_witness2)
 k_fill
 refine Sw.walk (l:=PySem.Challenge.rw_swapstars_k77_a_desk_of_the_great_round) rfl rfl (fun w h Y=>W.kIn_of Y) ?F
 case F=>
  intro w mg fa h KX G hmg
  refine' Sw.all_mk (due:=[("row",_),("star",_),("home",_),("copy",_),("join",_),("forth",_),("back",_),("drop",_),("show",_),("order",_),("kind",_),("least",_),("parts",_),("holes",_),("lead",_),("tree",_),("cars",_),("begun",_),("count",_),("joined",_),("names",_)]) KX G hmg ?ds0 ?ds1 ?ds2 ?zs ?cs ?eD ?fm ?fo ?aDUE ?kx ?tupk ?aANS ?ky ?kj ?aDesk ?tdk ?mI ?mR ?mY ?au2 ?ku2 ?kib
  (case ds0|ds1|ds2=>repeat(first|exact trivial|refine .c (by k_is) ⟨_,_,_,_,_,_,_,_,_,by k_is,by k_is,by k_is⟩ ?_))
  (case zs=>repeat(first|exact trivial|refine .c (by k_is) ?_))
  (case cs=>exact⟨⟨_,_,_,_,_,_,_,_,_,_,_,_,_⟩,⟨by dsimp only;k_is,by dsimp only;k_is,by dsimp only;k_is,by dsimp only;k_is,by dsimp only;k_is,by dsimp only;k_is,by dsimp only;k_is,by dsimp only;k_is,by dsimp only;k_is,by dsimp only;k_is,by dsimp only;k_is,by dsimp only;k_is,by dsimp only;k_is⟩,⟨⟨by first|k_is|(dsimp only;k_is),by first|k_is|(dsimp only;k_is),by first|k_is|(dsimp only;k_is),by first|k_is|(dsimp only;k_is),by first|k_is|(dsimp only;k_is),by first|k_is|(dsimp only;k_is),by first|k_is|(dsimp only;k_is),by kernel_rfl⟩,⟨by dsimp only;k_is,by kernel_rfl,by dsimp only;k_is,by dsimp only;k_is⟩,by dsimp only;kit_is,⟨false,false,false,false,false,true,false,false,false,false,false,false,by dsimp only;kit_is,by dsimp only;kit_is,by dsimp only;kit_is,by dsimp only;kit_is,by dsimp only;kit_is,by dsimp only;kit_is,by dsimp only;kit_is,by dsimp only;kit_is,by dsimp only;kit_is,by dsimp only;kit_is,by dsimp only;kit_is,by dsimp only;kit_is,by decide⟩,by decide⟩,⟨⟨by first|k_is|(dsimp only;k_is),by first|k_is|(dsimp only;k_is),by first|k_is|(dsimp only;k_is),by first|k_is|(dsimp only;k_is),by first|k_is|(dsimp only;k_is),by first|k_is|(dsimp only;k_is),by first|k_is|(dsimp only;k_is),by kernel_rfl⟩,⟨by dsimp only;k_is,by kernel_rfl,by dsimp only;k_is,by dsimp only;k_is⟩,by dsimp only;kit_is,⟨false,false,false,false,false,false,false,false,false,true,false,false,by dsimp only;kit_is,by dsimp only;kit_is,by dsimp only;kit_is,by dsimp only;kit_is,by dsimp only;kit_is,by dsimp only;kit_is,by dsimp only;kit_is,by dsimp only;kit_is,by dsimp only;kit_is,by dsimp only;kit_is,by dsimp only;kit_is,by dsimp only;kit_is,by decide⟩,by decide⟩,by kernel_rfl,by kernel_rfl,by kernel_rfl,by kernel_rfl,by kernel_rfl⟩)
  (case eD|fm|fo|aDUE=>k_is)
  (case kx=>exact⟨rfl,_,_,by k_is,by repeat(first|exact .nil|refine .cons ?_)⟩)
  (case tupk=>repeat(first|exact .nil|refine Sw.Lp (by k_is) (by decide) (by decide) (by repeat(first|exact .nil|refine .cons ⟨_,rfl⟩ ?_)) ?_))
  (case aANS=>k_is)
  (case ky=>exact⟨rfl,_,_,by k_is,by repeat(first|exact .nil|refine .cons ?_)⟩)
  (case kj|aDesk=>k_is)
  (case tdk=>exact⟨⟨by first|k_is|kernel_rfl,by first|k_is|kernel_rfl,by first|k_is|kernel_rfl,by first|k_is|kernel_rfl⟩,by unfold L2.gu;first|k_is|kernel_rfl,by unfold L2.gu;first|k_is|kernel_rfl⟩)
  (case mI=>exact⟨_,⟨by first|k_is|kernel_rfl,by first|k_is|kernel_rfl,by first|k_is|kernel_rfl,by first|k_is|kernel_rfl⟩,_,_,_,_,_,_,_,_,_,by first|k_is|kernel_rfl,by first|k_is|kernel_rfl,by first|k_is|kernel_rfl⟩)
  (case mR|mY=>exact⟨_,⟨by first|k_is|kernel_rfl,by first|k_is|kernel_rfl,by first|k_is|kernel_rfl⟩,_,_,_,_,_,_,_,_,_,by first|k_is|kernel_rfl,by first|k_is|kernel_rfl,by first|k_is|kernel_rfl⟩)
  (case au2=>k_is)
  (case ku2=>exact⟨rfl,by decide,_,_,by k_is,.cons (.cons .nil)⟩)
  (case kib=>exact L2.sG _)
