import PyProof.Rows.All
import Wide.All
import OpenK.AllK
import Wide.FinOn
import Lean
import PyProof.EqAt
import PyProof.EqKinds
import PyProof.TupleCall
import KE.KIntText
import PyProof.StrBlockH
import PyProof.StrLawsTight
import PyProof.StrLawsReplace
import PyProof.StrLawsJoin
import PyProof.StrLawsNeg
import KE.LcSums
import PyProof.ZipIter
import PyProof.Draws
import PyProof.ToksMono
import PyProof.StrReplace2
import KE.KSortAsk
import KE.KItemsList
import KE.KRevIter
import PyProof.DictWalks
import PySem.Challenge.RW_swapstars_k74_a_desk_told
open PySem.Str renaming ofString→LV
open List renaming length_map→LW
open List renaming getElem?_map→LX
open List renaming length_append→LY
open List renaming getElem?_eq_getElem→LZ
open List renaming map_append→L7
open List renaming length_cons→L8
open List renaming map_cons→L9
open List renaming length_take→Ma
open List renaming mem_cons→Mb
open List renaming all_cons→Mc
open List renaming map_map→Md
open List renaming getD_eq_getElem?_getD→Me
open List renaming mem_of_getElem?→Mf
open List renaming mem_cons_self→Mg
open List renaming mem_cons_of_mem→Mh
open List renaming take_of_length_le→Mi
open List renaming mem_append_right→Mj
open List renaming mem_append_left→Ml
open List renaming size_toArray→Mm
open List renaming not_mem_nil→Mn
open List renaming append_nil→Mo
open List renaming append_assoc→Mp
open List renaming take_succ→Mq
open List renaming zip_cons_cons→Mr
open Nat renaming le_refl→Ms
open Nat renaming lt_of_lt_of_le→Mt
open Nat renaming ne_of_lt→Mu
open Nat renaming le_trans→Mv
open Nat renaming zero_le→Mw
open Bool renaming false_ne_true→Mx
open Option.some renaming inj→My
open Option renaming map_some→Mz
open PySem renaming Value→MA
open PySem renaming Addr→MB
open PySem renaming Shared→MC
open PySem renaming Program→MD
open PySem renaming World→ME
open PySem renaming Around→MF
open PySem renaming sizeLine→MG
open PySem renaming mainGlobals→MH
open PySem renaming wpAny_bind→MI
open PySem renaming wpAny_pure→MJ
open PySem renaming wpAny_mono→MK
open PySem renaming starEach→ML
open PySem renaming FuncData→MM
open PySem renaming Heap→MN
open PySem renaming backTo→MO
open PySem renaming wpAny→MP
open PySem renaming Stmt→MQ
open PySem renaming NameKind→MR
open PySem renaming Builtin→MS
set_option Elab.async false
set_option linter.all false
set_option maxRecDepth 100000
set_option maxHeartbeats 8000000
namespace L2
open PySem PySem.Spec PyProof.Rows
abbrev Key:=Sum Int Str
def ot:Key->MA->Bool
 | .inl k,v=>MA.isInt k v
 | .inr x,v=>MA.isStrOf x v
def KQ(w:ME):Key->Int
 | .inl k=>hashInt k
 | .inr x=>hashStr w x
theorem bN:∀{k:Key}{v:MA},ot k v=true->(∃i t,k=Sum.inl i/\v=MA.int i t)\/(∃x t,k=Sum.inr x/\v=MA.str x t)
 | .inl i,v,h=>by
  obtain⟨t,e⟩:=MA.isInt_shape (k:=i) (v:=v) h;exact .inl ⟨i,t,rfl,e⟩
 | .inr x,v,h=>by
  obtain⟨t,e⟩:=MA.isStrOf_shape (x:=x) (v:=v) h;exact .inr ⟨x,t,rfl,e⟩
theorem zL(i:Int)(t:Tok):ot (.inl i) (.int i t)=true:=by simp[ot,MA.isInt]
theorem zk(x:Str)(t:Tok):ot (.inr x) (.str x t)=true:=by simp[ot,MA.isStrOf]
theorem FZ(a b:Int):decide ((Sum.inl a:Key)=Sum.inl b)=(a==b):=by
 by_cases e:a=b
 .subst e;simp
 .have h:¬(Sum.inl a:Key)=Sum.inl b:=fun q=>e (Sum.inl.inj q)
  rw[decide_eq_false h];exact(beq_eq_false_iff_ne.mpr e).symm
theorem Gy(a b:Str):decide ((Sum.inr a:Key)=Sum.inr b)=decide (a=b):=by
 by_cases e:a=b
 .subst e;simp
 .have h:¬(Sum.inr a:Key)=Sum.inr b:=fun q=>e (Sum.inr.inj q)
  rw[decide_eq_false h,decide_eq_false e]
theorem FT(a:Int)(b:Str):decide ((Sum.inl a:Key)=Sum.inr b)=false:=decide_eq_false (fun q=>nomatch q)
theorem Gu(a:Str)(b:Int):decide ((Sum.inr a:Key)=Sum.inl b)=false:=decide_eq_false (fun q=>nomatch q)
def a6(prog:MD)(w:ME):PySem.KeyKind prog w Key where
 is:=ot
 hash:=KQ w
 inj:=fun v a b ha hb=>by
  rcases bN ha with⟨i,t,rfl,rfl⟩|⟨x,t,rfl,rfl⟩
  .rcases bN hb with⟨j,u,rfl,e⟩|⟨y,u,rfl,e⟩
   .injection e with e1 _;rw[e1]
   .exact nomatch e
  .rcases bN hb with⟨j,u,rfl,e⟩|⟨y,u,rfl,e⟩
   .exact nomatch e
   .injection e with e1 _;rw[e1]
 byValue:=fun k v h=>by
  rcases bN h with⟨i,t,rfl,rfl⟩|⟨x,t,rfl,rfl⟩<;>rfl
 pyHash:=fun hv h=>by
  rcases bN hv with⟨i,t,rfl,rfl⟩|⟨x,t,rfl,rfl⟩
  .exact wpAny_pyHash_int h
  .exact wpAny_pyHash_str h
 eqBool:=fun hu hv h=>by
  rcases bN hu with⟨i,t,rfl,rfl⟩|⟨x,t,rfl,rfl⟩
  .rcases bN hv with⟨j,u,rfl,rfl⟩|⟨y,u,rfl,rfl⟩
   .rw[FZ]at h;exact wpAny_eqBool_int h
   .rw[FT]at h;exact SeqAt.EqAt.int_str i t y u _ _ _ _ h
  .rcases bN hv with⟨j,u,rfl,rfl⟩|⟨y,u,rfl,rfl⟩
   .rw[Gu]at h;exact SeqAt.EqAt.str_int x t j u _ _ _ _ h
   .rw[Gy]at h;exact wpAny_eqBool_str h
 «strs»:=fun k x t v h=>by
  rcases bN h with⟨i,u,rfl,e⟩|⟨y,u,rfl,e⟩
  .exact nomatch e
  .injection e with e1 _
   subst e1;cases v<;>rfl
theorem uE(prog:MD)(w:ME)(i:Int)(t:Tok):(a6 prog w).is (.inl i) (.int i t)=true:=zL i t
theorem um(prog:MD)(w:ME)(x:Str)(t:Tok):(a6 prog w).is (.inr x) (.str x t)=true:=zk x t
inductive V where
 |cE|bl (b:Bool)|int (i:Int)|str (x:Str)|byt (b:Array UInt8)|jK (b:UInt64)|ref (a:MB)|ty (n:String)
 deriving DecidableEq
def RelV:V->MA->Prop
 | .cE,u=>u=MA.none
 | .bl b,u=>u=MA.bool b
 | .int i,u=>∃t,u=MA.int i t
 | .str x,u=>∃t,u=MA.str x t
 | .byt b,u=>∃t,u=MA.bytes b t
 | .jK b,u=>∃t,u=MA.float b t
 | .ref a,u=>u=MA.ref a
 | .ty n,u=>u=MA.type n
abbrev Vals:List V->List MA->Prop:=Paired RelV
theorem Vals.length {xs:List V}{us:List MA}(r:Vals xs us):xs.length=us.length:=Paired.length r
theorem Vals.get:∀{xs:List V}{us:List MA}{i:Nat}{x:V},Vals xs us->xs[i]?=some x->∃u,us[i]?=some u/\RelV x u
 |_,_,_,_,.nil,e=>by simp at e
 |_,_,0,_,.cons r _,e=>by simp at e;subst e;exact⟨_,rfl,r⟩
 |_,_,i+1,x,.cons _ t,e=>by
  obtain⟨u,h1,h2⟩:=Vals.get (i:=i) (x:=x) t (by simpa using e);exact⟨u,by simpa using h1,h2⟩
theorem Vals.set {x:V}{u:MA}(r:RelV x u):∀{xs:List V}{us:List MA}(i:Nat),Vals xs us->Vals (xs.set i x) (us.set i u)
 |_,_,_,.nil=> .nil
 |_,_,0,.cons _ t=> .cons r t
 |_,_,i+1,.cons q t=> .cons q (Vals.set r i t)
theorem Vals.append:∀{xs ys:List V}{us ws:List MA},Vals xs us->Vals ys ws->Vals (xs++ys) (us++ws)
 |_,_,_,_,.nil,s=>s
 |_,_,_,_,.cons r t,s=> .cons r (Vals.append t s)
theorem Vals.take:∀{xs:List V}{us:List MA}(n:Nat),Vals xs us->Vals (xs.take n) (us.take n)
 |_,_,0,_=> .nil
 |_,_,_+1,.nil=> .nil
 |_,_,n+1,.cons r t=> .cons r (Vals.take n t)
theorem Vals.drop:∀{xs:List V}{us:List MA}(n:Nat),Vals xs us->Vals (xs.drop n) (us.drop n)
 |_,_,0,r=>r
 |_,_,_+1,.nil=> .nil
 |_,_,n+1,.cons _ t=>Vals.drop n t
def gY:Option V->Option MA->Prop
 |some v,some u=>RelV v u
 |none,none=>True
 |_,_=>False
def KV{κ:Type}:List (κ×V)->List (κ×MA)->Prop:=Paired fun(p:κ×V)(q:κ×MA)=>p.1=q.1/\RelV p.2 q.2
def kV:Key->V
 | .inl i=> .int i
 | .inr x=> .str x
inductive HO where
 |lst (xs:List V)
 |tup (xs:List V)
 |dK (kvs:List (Key×V))|dT (kvs:List (List Key×V))
 |set (S:Int->Bool) (n:Nat)
 |ins (C dx:MB) (fs:List (Str×V))
 |own (x:MB)
 |xd (fs:List (Str×V))
 |met (f x:MB)
 |tR (lo hi:Int)
 |uW (o:Obj) (u:HO)
 |Fl (ps:Array MA)
 |ext (φ:MN->Prop)
abbrev Hp:=MB->Option HO
def upd(H:Hp)(a:MB)(o:HO):Hp:=fun b=>if b=a then some o else H b
theorem ae{H:Hp}{a:MB}{o:HO}:upd H a o a=some o:=by unfold upd;rw[if_pos rfl]
theorem ao{H:Hp}{a b:MB}{o:HO}(h:b≠a):upd H a o b=H b:=by unfold upd;rw[if_neg h]
theorem tN{H:Hp}{a:MB}{o u:HO}:upd (upd H a o) a u=upd H a u:=by
 funext b;unfold upd;split<;>rfl
theorem uq{H:Hp}{a b:MB}{o u:HO}(h:H a=some o)(h':H b=some u)(d:o≠u):a≠b:=by
 intro e;subst e;rw[h]at h';exact d (My h')
theorem aq{H:Hp}{a b:MB}{o:HO}(h:H a=some o)(h':H b=none):a≠b:=by
 intro e;subst e;rw[h]at h';cases h'
section
variable(P:MD)(w:ME)
def bH(H:Hp)(h:MN)(a:MB):HO->Prop
 | .lst xs=>xs.length<=MG/\∃(its:List MA)(n:Nat),Vals xs its/\h.get? a=some {cls:= .type "list",data:= .seq its.toArray n}
 | .tup xs=>xs.length<=MG/\∃its:List MA,Vals xs its/\IsTup h a its.toArray
 | .dK kvs=>kvs.length<=MG/\(a==sysModules)=false/\∃vs,KV kvs vs/\h.DictOf (a6 P w) a vs
 | .dT kvs=>kvs.length<=MG/\(a==sysModules)=false/\∃xs:List (List Key×MB×MA),
   Paired (fun(p:List Key×V)(q:List Key×MB×MA)=>p.1=q.1/\H q.2.1=some (.tup (p.1.map kV))/\RelV p.2 q.2.2) kvs xs/\
   ∃o es ep,h.get? a=some o/\o.ExactDict/\o.data= .dict es ep/\es.toList=xs.map (entryOfKey (tupleKind (a6 P w)))/\(xs.map (·.1)).Nodup
 | .set S n=>h.SetOf (intKind P w) a S n
 | .ins C dx fs=>H dx=some (.own a)/\fs.length<=1000/\dx≠a/\h.get? a=some (W.instObj C dx)/\
   ∃mA,h.Ns1 dx mA/\(∀f,gY (fs.lookup f) (mA f))/\PySem.Within mA (fs.map (·.1))
 | .own _=>∃o,h.get? a=some o
 | .xd fs=>∃mA,h.Ns1 a mA/\∀f,gY (fs.lookup f) (mA f)
 | .tR lo hi=>∃t u v,h.get? a=some {cls:= .type "range",data:= .fields #[.int lo t,.int hi u,.int 1 v]}
 | .uW o u=>h.get? a=some o/\bH H h a u
 | .Fl ps=>h.get? a=some {cls:= .none,data:= .fields ps}
 | .met f x=>h.get? a=some (W.methodObj (.ref f) (.ref x))
 | .ext φ=>φ h/\(∃o,h.get? a=some o)/\∀h1 h2:MN,φ h1->(∀o,h1.get? a=some o->h2.get? a=some o)->φ h2
def jV(H:Hp)(h:MN):Prop:=∀a o,H a=some o->bH P w H h a o
end
section
variable{P:MD}{w:ME}{H H':Hp}{h h':MN}{a:MB}{o:HO}
theorem bH.lt (x:bH P w H h a o):a<h.objs.size:=by
 cases o with
 |lst xs=>obtain⟨_,_,_,_,e⟩:=x;exact MN.lt_size e
 |tup xs=>obtain⟨_,_,_,p⟩:=x;exact p.lt
 |dK kvs=>obtain⟨_,_,_,_,o,_,_,e,_⟩:=x;exact MN.lt_size e
 |dT kvs=>obtain⟨_,_,_,_,o,_,_,e,_⟩:=x;exact MN.lt_size e
 |set S n=>obtain⟨o,_,_,_,e,_⟩:=x;exact MN.lt_size e
 |ins C dx fs=>obtain⟨_,_,_,e,_⟩:=x;exact MN.lt_size e
 |own y=>obtain⟨_,e⟩:=x;exact MN.lt_size e
 |xd fs=>obtain⟨_,⟨_,_,_,e,_⟩,_⟩:=x;exact MN.lt_size e
 |tR lo hi=>obtain⟨_,_,_,e⟩:=x;exact MN.lt_size e
 |uW ob u=>obtain⟨e,_⟩:=x;exact MN.lt_size e
 |Fl ps=>exact MN.lt_size (show h.get? a=some _ from x)
 |met f y=>exact MN.lt_size (show h.get? a=some _ from x)
 |ext φ=>obtain⟨_,⟨_,e⟩,_⟩:=x;exact MN.lt_size e
theorem Paired.wG {α β:Type}{F G:α->β->Prop}:∀{l₁:List α}{l₂:List β},Paired F l₁ l₂->(∀a b,F a b->G a b)->Paired G l₁ l₂
 |_,_,.nil,_=> .nil
 |_,_,.cons r t,f=> .cons (f _ _ r) (Paired.wG t f)
theorem bH.jq (x:bH P w H h a o)(k:∀b u,(b=a\/H b=some (.own a))->h.get? b=some u->h'.get? b=some u)
  (ho:∀b,H b=some (.own a)->H' b=some (.own a)) (ht:∀b xs,H b=some (.tup xs)->H' b=some (.tup xs)):bH P w H' h' a o:=by
 induction o with
 |lst xs=>obtain⟨z,its,n,r,e⟩:=x;exact⟨z,its,n,r,k _ _ (.inl rfl) e⟩
 |tup xs=>obtain⟨z,its,r,ob,e,c⟩:=x;exact⟨z,its,r,ob,k _ _ (.inl rfl) e,c⟩
 |dK kvs=>obtain⟨z,y,vs,r,ob,es,ep,e,c⟩:=x;exact⟨z,y,vs,r,ob,es,ep,k _ _ (.inl rfl) e,c⟩
 |dT kvs=>
  obtain⟨z,y,xs,r,ob,es,ep,e,c⟩:=x;exact⟨z,y,xs,Paired.wG r fun p q z=>⟨z.1,ht _ _ z.2.1,z.2.2⟩,ob,es,ep,k _ _ (.inl rfl) e,c⟩
 |set S n=>obtain⟨ob,es,ep,t,e,c⟩:=x;exact⟨ob,es,ep,t,k _ _ (.inl rfl) e,c⟩
 |ins C dx fs=>
  obtain⟨d,z,ne,e,mA,⟨od,es,ep,e2,c⟩,r⟩:=x;exact⟨ho _ d,z,ne,k _ _ (.inl rfl) e,mA,⟨od,es,ep,k _ _ (.inr d) e2,c⟩,r⟩
 |own y=>obtain⟨ob,e⟩:=x;exact⟨ob,k _ _ (.inl rfl) e⟩
 |xd fs=>obtain⟨mA,⟨od,es,ep,e,c⟩,r⟩:=x;exact⟨mA,⟨od,es,ep,k _ _ (.inl rfl) e,c⟩,r⟩
 |tR lo hi=>obtain⟨t,u,v,e⟩:=x;exact⟨t,u,v,k _ _ (.inl rfl) e⟩
 |uW ob u ih=>obtain⟨e,q⟩:=x;exact⟨k _ _ (.inl rfl) e,ih q⟩
 |Fl ps=>
  have e:h.get? a=some {cls:= .none,data:= .fields ps}:=x;show h'.get? a=some {cls:= .none,data:= .fields ps};exact k a _ (.inl rfl) e
 |met f y=>
  have e:h.get? a=some (W.methodObj (.ref f) (.ref y)):=x;show h'.get? a=some (W.methodObj (.ref f) (.ref y));exact k a _ (.inl rfl) e
 |ext φ=>obtain⟨p,⟨o,e⟩,st⟩:=x;exact⟨st _ _ p fun o q=>k _ _ (.inl rfl) q,⟨o,k _ _ (.inl rfl) e⟩,st⟩
theorem jV.lt (x:jV P w H h)(e:H a=some o):a<h.objs.size:=(x a o e).lt
theorem jV.fresh (x:jV P w H h)(e:h.objs.size<=a):H a=none:=by
 cases q:H a with
 |none=>rfl
 |some u=>exact absurd (Mt (x.lt q) e) (Nat.lt_irrefl _)
theorem jV.kept (x:jV P w H h)(k:∀b u,h.get? b=some u->h'.get? b=some u):jV P w H h':=fun a o e=>
 (x a o e).jq (fun b u _ q=>k b u q) (fun _ q=>q) fun _ _ q=>q
theorem jV.laid (x:jV P w H h)(k:∀b u,h.get? b=some u->h'.get? b=some u)(hp:h.objs.size<=a)(new:bH P w (upd H a o) h' a o):jV P w (upd H a o) h':=fun b u e=>by
 have hn:=x.fresh hp;by_cases hb:b=a
 .subst hb;rw[ae]at e;cases e;exact new
 .rw[ao hb]at e
  exact(x b u e).jq (fun c v _ q=>k c v q) (fun c q=>by rw[ao (aq q hn)];exact q) fun c xs q=>by rw[ao (aq q hn)];exact q
end
def Rd(H:Hp)(a:MB)(u:HO):Prop:=H a=some u\/∃o,H a=some (.uW o u)
theorem Rd.ok {P:MD}{w:ME}{H:Hp}{h:MN}{a:MB}{u:HO}(r:Rd H a u)(x:jV P w H h):bH P w H h a u:=by
 rcases r with r|⟨o,r⟩
 .exact x a u r
 .obtain⟨_,q⟩:=x a _ r
  exact q
def IV:Option HO->Prop
 |some (.lst _)=>True
 |some (.dK _)=>True
 |some (.dT _)=>True
 |some (.set _ _)=>True
 |some (.ins _ _ _)=>True
 |some (.ext _)=>True
 |_=>False
section
variable{P:MD}{w:ME}{H:Hp}{h h':MN}{x e:MB}{o':HO}
theorem jV.write (ok:jV P w H h)(mu:IV (H x))(he:e=x\/H e=some (.own x))(k:∀b u,b≠e->h.get? b=some u->h'.get? b=some u)(heo:∃u,h'.get? e=some u)
  (new:bH P w (upd H x o') h' x o'):jV P w (upd H x o') h':=fun b u q=>by
 have nown:∀c y,H c=some (.own y)->c≠x:=fun c y r z=>by subst z;rw[r]at mu;exact mu
 have ntup:∀c xs,H c=some (.tup xs)->c≠x:=fun c xs r z=>by subst z;rw[r]at mu;exact mu
 by_cases hb:b=x
 .subst hb;rw[ae]at q;cases q;exact new
 .rw[ao hb]at q
  by_cases hbe:b=e
  .have q':H b=some (.own x):=by
    rcases he with z|z
    .exact absurd (hbe.trans z) hb
    .rw[hbe];exact z
   rw[q]at q';cases q';obtain⟨v,hv⟩:=heo;exact⟨v,by rw[hbe];exact hv⟩
  .refine(ok b u q).jq (fun c v hc r=>k c v ?_ r) (fun c r=>by rw[ao (nown c b r)];exact r) fun c xs r=>by rw[ao (ntup c xs r)];exact r
   rcases hc with rfl|hc
   .exact hbe
   .rintro rfl
    rcases he with z|z
    .exact nown c b hc z
    .rw[hc]at z;cases z;exact hb rfl
end
structure Un(fs ex:List MB)(H H':Hp)(h h':MN):Prop where
 keep:∀b o,h.get? b=some o->H b=none->b∉fs->b∉ex->h'.get? b=some o
 slot:∀b o,h.get? b=some o->H b=none->b∈fs->b∉ex->∃sl,h'.get? b=some {o with slots:=sl}
 free:∀b o,h.get? b=some o->H b=none->b∉ex->H' b=none
 there:∀b o,h.get? b=some o->b∉ex->∃o',h'.get? b=some o'
 bI:∀b xs,H b=some (.tup xs)->H' b=some (.tup xs)
 iF:∀b o u,H b=some (.uW o u)->H' b=some (.uW o u)
 i6:∀b ps,H b=some (.Fl ps)->∃more,H' b=some (.Fl (ps++more))
section
variable{fs fs' ex ex':List MB}{H H1 H2:Hp}{h h1 h2 h':MN}{a x e:MB}{o:HO}
theorem Un.any (u:Un fs ex H H1 h h1){b:MB}{ob:Obj}(q:h.get? b=some ob)(n:H b=none)(hx:b∉ex):∃sl,h1.get? b=some {ob with slots:=sl}:=by
 by_cases hb:b∈fs
 .exact u.slot b ob q n hb hx
 .exact⟨ob.slots,u.keep b ob q n hb hx⟩
theorem Un.kept (k:∀b u,h.get? b=some u->h'.get? b=some u):Un fs ex H H h h':=
 ⟨fun b ob q _ _ _=>k b ob q,fun b ob q _ _ _=>⟨ob.slots,k b ob q⟩,fun _ _ _ n _=>n,fun b ob q _=>⟨ob,k b ob q⟩,fun _ _ q=>q,fun _ _ _ q=>q,fun _ ps q=>⟨#[],by rw[q];simp⟩⟩
theorem Un.refl:Un fs ex H H h h:=Un.kept fun _ _ q=>q
theorem Un.laid (k:∀b u,h.get? b=some u->h'.get? b=some u)(hp:h.objs.size<=a)(hn:H a=none):Un fs ex H (upd H a o) h h' where
 keep:=fun b u q _ _ _=>k b u q
 slot:=fun b u q _ _ _=>⟨u.slots,k b u q⟩
 free:=fun b u q n _=>by rw[ao (Mu (Mt (MN.lt_size q) hp))];exact n
 there:=fun b u q _=>⟨u,k b u q⟩
 bI:=fun b xs q=>by rw[ao (aq q hn)];exact q
 iF:=fun b u xs q=>by rw[ao (aq q hn)];exact q
 i6:=fun b ps q=>⟨#[],by rw[ao (aq q hn),q];simp⟩
theorem Un.write (mu:IV (H x))(he:e=x\/H e=some (.own x))(k:∀b u,b≠e->h.get? b=some u->h'.get? b=some u)(heo:∃u,h'.get? e=some u):Un fs ex H (upd H x o) h h':=by
 have hx:∀b,H b=none->b≠x:=fun b n z=>by subst z;rw[n]at mu;exact mu
 have hb:∀b,H b=none->b≠e:=fun b n z=>by
  subst z;rcases he with r|r
  .exact hx b n r
  .rw[n]at r;cases r
 have hm:∀b u,H b=some u->¬IV (some u)->b≠x:=fun b u q nm z=>by subst z;rw[q]at mu;exact nm mu
 refine⟨fun b u q n _ _=>k b u (hb b n) q,fun b u q n _ _=>⟨u.slots,k b u (hb b n) q⟩,fun b u q n _=>by rw[ao (hx b n)];exact n,fun b u q _=>?_,
  fun b xs q=>by rw[ao (hm b _ q fun z=>z)];exact q,fun b u xs q=>by rw[ao (hm b _ q fun z=>z)];exact q,fun b ps q=>⟨#[],by rw[ao (hm b _ q fun z=>z),q];simp⟩⟩
 by_cases hbe:b=e
 .subst hbe;exact heo
 .exact⟨u,k b u hbe q⟩
end
def t8(h:MN)(H:Hp):List MB:=(List.range h.objs.size).filter fun a=>(H a).isSome
def sE(h:MN)(H:Hp):MN:=W.hideAll h (t8 h H)
theorem zC(h:MN)(H:Hp):(sE h H).objs.size=h.objs.size:=W.hideAll_size _ _
theorem Bf{h:MN}{H:Hp}{b:MB}{o:Obj}(e:h.get? b=some o)(n:H b=none):(sE h H).get? b=some o:=
 W.hideAll_get _ e fun hm=>by
  have q:(H b).isSome=true:=(List.mem_filter.mp hm).2;rw[n]at q;simp at q
theorem DV{h:MN}{H:Hp}{b:MB}{o:Obj}(e:(sE h H).get? b=some o):h.get? b=some o/\H b=none:=by
 have e':h.get? b=some o:=W.of_hideAll (t8 h H) e;refine⟨e',?_⟩
 cases q:H b with
 |none=>rfl
 |some x=>
  have hm:b∈t8 h H:=List.mem_filter.mpr ⟨List.mem_range.mpr (MN.lt_size e'),by simp[q]⟩;have z:(sE h H).get? b=none:=W.hideAll_none (t8 h H) hm;rw[z]at e;cases e
structure Mod(K:W.Frag)(mg:Str->Option MA)(base:MN):Prop where
 CU:K.In base
 glob:base.Ns MH mg
 blt:∃mb,base.Ns builtinsNs mb/\∀x:Str,x≠"__name__"->mb x=bootBuiltins x
 nolimit:base.NoLimit
structure Cx where
 prog:MD
 w:ME
 K:W.Frag
 mg:Str->Option MA
 base:MN
 A:MF
 N:List Str
 s₀:MC
 H₀:Hp
 env:Env
 outer:List Env
 stack:List Env
 ex:List MB
 fn:Str->Bool
 calm:Bool
 pn:List (MB×Obj)
 xe:MA->MC->Prop
def gw(l:List Env):List MB:=l.filterMap (·.frame)
abbrev Cx.fs (X:Cx):List MB:=gw X.outer
def JX(sc:Scope)(x:Str):Prop:=sc.names.lookup x=some .local\/sc.names.lookup x=some .cell\/sc.names.lookup x=some .free
def Loc(sc:Scope)(x:Str):Prop:=sc.names.lookup x=some .local\/sc.names.lookup x=some .cell
def Look(env:Env)(h:MN)(m:Str->Option MA)(x:Str)(u:MA):Prop:=
 (env.kindOf x=some .local/\m x=some u)\/((env.kindOf x=some .cell\/env.kindOf x=some .free)/\∃c,env.cells.lookup x=some c/\h.IsCell c (some u))
structure Cx.Ok (X:Cx):Prop where
 mod:Mod X.K X.mg X.base
 kind:X.env.scope.kind= .function
 glob:X.env.globals=MH
 blt:X.env.builtins=builtinsNs
 above:X.s₀.heap.objs.size<=X.env.locals
 inj:∀x y c,X.env.cells.lookup x=some c->X.env.cells.lookup y=some c->x=y
 has:∀x,(X.env.kindOf x=some .cell\/X.env.kindOf x=some .free)->∃c,X.env.cells.lookup x=some c
 CA:∀x c,X.fn x=true->X.env.cells.lookup x=some c->X.s₀.heap.objs.size<=c
 hd:X.calm=true->X.A.handled=none
 frames:X.A.frames=some X.stack
 Av:X.stack=X.outer\/(X.stack=X.env::X.outer/\X.env.frame=some X.env.locals)
 EV:∀b∈X.ex,b≠X.env.locals/\∀x c,X.env.cells.lookup x=some c->c≠b
 bs:∀b o,X.base.get? b=some o->X.s₀.heap.get? b=some o/\X.H₀ b=none
 yZ:X.base.objs.size<=X.s₀.heap.objs.size
 pL:∀b o,X.base.get? b=some o->b∉X.ex
 qc:∀b∈X.ex,b∉X.fs
 iJ:X.s₀.heap.FunFrames X.base X.outer
 nS:∀b∈X.fs,X.H₀ b=none
structure Inv(X:Cx)(pins:List (MB×Obj))(σ:List (Option V))(H:Hp)(s:MC):Prop where
 ok:X.Ok
 os:s.os=X.s₀.os
 bare:AllBare s.gens
 base:Un X.fs X.ex X.H₀ H X.s₀.heap s.heap
 loc:∃m,s.heap.Ns X.env.locals m/\∀(i:Nat)(x:Str)(v:V),X.N[i]?=some x->σ[i]?=some (some v)->JX X.env.scope x->∃u,RelV v u/\Look X.env s.heap m x u
 cell:∀x c,X.env.cells.lookup x=some c->∃v,s.heap.IsCell c v
 free:H X.env.locals=none
 fE:∀x c,X.env.cells.lookup x=some c->H c=none
 pin:∀p∈X.pn++pins,s.heap.get? p.1=some p.2/\H p.1=none/\p.1≠X.env.locals/\p.1∉X.fs/\∀v,p.2.data≠.cell v
 bc:jV X.prog X.w H s.heap
 len:σ.length=X.N.length
section
variable{X:Cx}{pins:List (MB×Obj)}{σ:List (Option V)}{H H':Hp}{s:MC}{h':MN}
theorem Cx.Ok.Kv (ok:X.Ok){b:MB}{o:Obj}(e:X.base.get? b=some o):b∉X.fs:=fun hb=>by
 have:=(ok.iJ.mem hb).1;rw[e]at this;cases this
theorem Inv.bs (I:Inv X pins σ H s):∀b o,X.base.get? b=some o->s.heap.get? b=some o/\H b=none:=fun b o e=>
 ⟨I.base.keep b o (I.ok.bs b o e).1 (I.ok.bs b o e).2 (I.ok.Kv e) (I.ok.pL b o e),I.base.free b o (I.ok.bs b o e).1 (I.ok.bs b o e).2 (I.ok.pL b o e)⟩
theorem Inv.bk (I:Inv X pins σ H s):∀b o,X.base.get? b=some o->s.heap.get? b=some o:=fun b o e=>(I.bs b o e).1
theorem Inv.mod (I:Inv X pins σ H s):Mod X.K X.mg X.base:=I.ok.mod
theorem Inv.je (I:Inv X pins σ H s):X.K.In s.heap:=I.ok.mod.CU.keeps I.bk
theorem Inv.lt (I:Inv X pins σ H s):X.env.locals<s.heap.objs.size:=let⟨_,hn,_⟩:=I.loc;hn.lt
theorem Inv.sz (I:Inv X pins σ H s):X.s₀.heap.objs.size<=s.heap.objs.size:=Mv I.ok.above (Nat.le_of_lt I.lt)
theorem Inv.Jc (I:Inv X pins σ H s){a:MB}(h:s.heap.objs.size<=a):a∉X.fs:=fun hb=>by
 obtain⟨_,o,ho,_⟩:=I.ok.iJ.mem hb;exact absurd (Mt (MN.lt_size ho) (Mv I.sz h)) (Nat.lt_irrefl _)
theorem Inv.B7 (I:Inv X pins σ H s):∀x c,X.env.cells.lookup x=some c->c≠X.env.locals:=fun x c e z=>by
 obtain⟨v,o,ho,hd⟩:=I.cell x c e;obtain⟨m,⟨o',es,ep,ho',hd',_⟩,_⟩:=I.loc;rw[z,ho']at ho;cases ho;rw[hd']at hd;cases hd
theorem Inv.iJ (I:Inv X pins σ H s):s.heap.FunFrames X.base X.outer:=by
 have all:∀(l:List Env),(∀b∈gw l,b∈X.fs)->X.s₀.heap.FunFrames X.base l->s.heap.FunFrames X.base l:=by
  intro l
  induction l with
  |nil=>intro _ _;trivial
  |cons env r ih=>
   intro hs hl;obtain⟨hk,⟨L,o,hf,hn,ho,hd⟩,hr⟩:=hl;have hL:L∈X.fs:=hs L (by unfold gw;rw[List.filterMap_cons,hf];exact Mg);obtain⟨sl,e⟩:=I.base.slot L o ho (I.ok.nS L hL) hL fun z=>I.ok.qc L z hL;exact⟨hk,⟨L,_,hf,hn,e,hd⟩,ih (fun b hb=>hs b (by unfold gw;rw[List.filterMap_cons,hf];exact Mh _ hb)) hr⟩
 exact all X.outer (fun _ hb=>hb) I.ok.iJ
theorem Inv.stack (I:Inv X pins σ H s):s.heap.FunFrames X.base X.stack:=by
 rcases I.ok.Av with e|⟨e,hf⟩
 .rw[e];exact I.iJ
 .rw[e]
  obtain⟨m,hn,_⟩:=I.loc;refine .cons (by rw[I.ok.kind];decide) hf hn ?_ I.iJ;exact MN.get?_none_of_le (Mv I.ok.yZ I.ok.above)
theorem Inv.iO (I:Inv X pins σ H s):∀b∈gw X.stack,b∈X.env.locals::X.fs:=fun b hb=>by
 rcases I.ok.Av with e|⟨e,hf⟩
 .rw[e]at hb;exact Mh _ hb
 .rw[e]at hb
  unfold gw at hb;rw[List.filterMap_cons,hf]at hb;exact hb
theorem Inv.nU (I:Inv X pins σ H s):∀b∈gw X.stack,H b=none:=fun b hb=>by
 rcases List.mem_cons.mp (I.iO b hb)with e|hb
 .rw[e];exact I.free
 .obtain⟨_,o,ho,_⟩:=I.ok.iJ.mem hb
  exact I.base.free b o ho (I.ok.nS b hb) fun z=>I.ok.qc b z hb
theorem Inv.step {g':Array GenState}{t':Nat}{d':Drawn}{ch:List MB}(I:Inv X pins σ H s)
  (hch:∀b∈ch,(b∈X.ex\/X.s₀.heap.objs.size<=b)/\b≠X.env.locals/\(∀x c,X.env.cells.lookup x=some c->c≠b)/\∀p∈X.pn++pins,p.1≠b)
  (keep:∀b o,b≠X.env.locals->b∉X.fs->b∉ch->s.heap.get? b=some o->H b=none->h'.get? b=some o)
  (slot:∀b o,b≠X.env.locals->b∈X.fs->b∉ch->s.heap.get? b=some o->H b=none->∃sl,h'.get? b=some {o with slots:=sl}) (free:∀b o,b∉ch->s.heap.get? b=some o->H b=none->H' b=none)
  (there:∀b o,b∉ch->s.heap.get? b=some o->∃o',h'.get? b=some o')
  (bI:∀b xs,H b=some (.tup xs)->H' b=some (.tup xs)) (iF:∀b o u,H b=some (.uW o u)->H' b=some (.uW o u)) (i6:∀b ps,H b=some (.Fl ps)->∃more,H' b=some (.Fl (ps++more)))
  (ns:∀m,s.heap.Ns X.env.locals m->h'.Ns X.env.locals m) (bc:jV X.prog X.w H' h') (hg:AllBare g'):
  Inv X pins σ H' {s with heap:=h',gens:=g',drawn:=d',toks:=t'}:=by
 have neL:∀b o,X.s₀.heap.get? b=some o->b≠X.env.locals:=fun b o e=>Mu (Mt (MN.lt_size e) I.ok.above);have neC:∀b o,X.s₀.heap.get? b=some o->b∉X.ex->b∉ch:=fun b o e hx hb=>by
  rcases(hch b hb).1 with z|z
  .exact hx z
  .exact absurd (Mt (MN.lt_size e) z) (Nat.lt_irrefl _)
 have cellK:∀x c,X.env.cells.lookup x=some c->∀v,s.heap.IsCell c v->h'.IsCell c v:=fun x c e v ⟨o,ho,hd⟩=>by
  have nch:c∉ch:=fun z=>(hch c z).2.2.1 x c e rfl;by_cases hc:c∈X.fs
  .obtain⟨sl,q⟩:=slot c o (I.B7 x c e) hc nch ho (I.fE x c e)
   exact⟨_,q,hd⟩
  .exact⟨o,keep c o (I.B7 x c e) hc nch ho (I.fE x c e),hd⟩
 refine⟨I.ok,I.os,hg,⟨fun b o e n hb hx=>?_,fun b o e n hb hx=>?_,fun b o e n hx=>?_,fun b o e hx=>?_,fun b xs e=>bI b xs (I.base.bI b xs e),fun b o xs e=>iF b o xs (I.base.iF b o xs e),fun b ps e=>?_⟩,?_,fun x c e=>?_,?_,fun x c e=>?_,fun p hp=>?_,bc,I.len⟩
 .exact keep b o (neL b o e) hb (neC b o e hx) (I.base.keep b o e n hb hx) (I.base.free b o e n hx)
 .obtain⟨sl,e1⟩:=I.base.slot b o e n hb hx
  obtain⟨sl',e2⟩:=slot b _ (neL b o e) hb (neC b o e hx) e1 (I.base.free b o e n hx);exact⟨sl',e2⟩
 .obtain⟨o',e1⟩:=I.base.there b o e hx
  exact free b o' (neC b o e hx) e1 (I.base.free b o e n hx)
 .obtain⟨o',e1⟩:=I.base.there b o e hx
  exact there b o' (neC b o e hx) e1
 .obtain⟨m1,e1⟩:=I.base.i6 b ps e
  obtain⟨m2,e2⟩:=i6 b _ e1;exact⟨m1++m2,by rw[e2,Array.append_assoc]⟩
 .obtain⟨m,hn,hl⟩:=I.loc
  refine⟨m,ns m hn,fun i x v e1 e2 e3=>?_⟩;obtain⟨u,r,l⟩:=hl i x v e1 e2 e3;refine⟨u,r,?_⟩;rcases l with l|⟨k,c,e,z⟩
  .exact .inl l
  .exact .inr ⟨k,c,e,cellK x c e _ z⟩
 .obtain⟨v,z⟩:=I.cell x c e
  exact⟨v,cellK x c e v z⟩
 .obtain⟨m,⟨o,_,_,ho,_⟩,_⟩:=I.loc
  exact free _ o (fun z=>(hch _ z).2.1 rfl) ho I.free
 .obtain⟨v,o,ho,hd⟩:=I.cell x c e
  exact free c o (fun z=>(hch c z).2.2.1 x c e rfl) ho (I.fE x c e)
 .obtain⟨e,n,ne,nf,d⟩:=I.pin p hp
  have nch:p.1∉ch:=fun z=>(hch p.1 z).2.2.2 p hp rfl;exact⟨keep p.1 p.2 ne nf nch e n,free p.1 p.2 nch e n,ne,nf,d⟩
theorem Inv.un {t':Nat}(I:Inv X pins σ H s)(u:Un X.fs [] H H' s.heap h')(bc:jV X.prog X.w H' h'):Inv X pins σ H' {s with heap:=h',toks:=t'}:=by
 obtain⟨m,⟨o,es,ep,ho,r⟩,_⟩:=id I.loc;obtain⟨sl,hL⟩:=u.any ho I.free (by simp);exact I.step (g':=s.gens) (d':=s.drawn) (ch:=[]) (fun _ z=>nomatch z) (fun b o _ hb _ e n=>u.keep b o e n hb (by simp)) (fun b o _ hb _ e n=>u.slot b o e n hb (by simp)) (fun b o _ e n=>u.free b o e n (by simp)) (fun b o _ e=>u.there b o e (by simp)) u.bI u.iF u.i6 (fun m' hm=>by
  obtain⟨o',es',ep',ho',r'⟩:=hm;rw[ho]at ho';cases ho';exact⟨_,es',ep',hL,r'⟩) bc I.bare
theorem Inv.call {g':Array GenState}{t':Nat}{d':Drawn}{ch:List MB}(I:Inv X pins σ H s)(u:Un (gw X.stack) ch H H' s.heap h')(bc:jV X.prog X.w H' h')(hg:AllBare g')
  (hch:∀b∈ch,(b∈X.ex\/X.s₀.heap.objs.size<=b)/\b≠X.env.locals/\(∀x c,X.env.cells.lookup x=some c->c≠b)/\∀p∈X.pn++pins,p.1≠b):
  Inv X pins σ H' {s with heap:=h',gens:=g',drawn:=d',toks:=t'}:=by
 obtain⟨m,⟨o,es,ep,ho,r⟩,_⟩:=id I.loc;obtain⟨sl,hL⟩:=u.any ho I.free fun z=>(hch _ z).2.1 rfl;exact I.step (ch:=ch) hch (fun b o hL hb hc e n=>u.keep b o e n (fun z=>(List.mem_cons.mp (I.iO b z)).elim hL hb) hc) (fun b o _ _ hc e n=>u.any e n hc) (fun b o hc e n=>u.free b o e n hc) (fun b o hc e=>u.there b o e hc) u.bI u.iF u.i6 (fun m' hm=>by
  obtain⟨o',es',ep',ho',r'⟩:=hm;rw[ho]at ho';cases ho';exact⟨_,es',ep',hL,r'⟩) bc hg
theorem Inv.turned {t':Nat}{it:MB}(I:Inv X pins σ H s)(k:∀b o,b≠it->s.heap.get? b=some o->h'.get? b=some o)(hn:H it=none)(hL:it≠X.env.locals)
  (h1:it∈X.ex\/X.s₀.heap.objs.size<=it) (h2:∀x c,X.env.cells.lookup x=some c->c≠it) (h3:∀p∈X.pn++pins,p.1≠it):Inv X pins σ H {s with heap:=h',toks:=t'}:=by
 have nit:∀b u,H b=some u->b≠it:=fun b u e z=>by rw[z,hn]at e;cases e
 refine I.step (g':=s.gens) (d':=s.drawn) (ch:=[it]) (fun b hb=>?_) (fun b o _ _ hc e _=>k b o (fun z=>hc (by simp[z])) e) (fun b o _ _ hc e _=>⟨o.slots,k b o (fun z=>hc (by simp[z])) e⟩) (fun _ _ _ _ n=>n)
  (fun b o hc e=>⟨o,k b o (fun z=>hc (by simp[z])) e⟩) (fun _ _ e=>e) (fun _ _ _ e=>e) (fun b ps e=>⟨#[],by rw[e];simp⟩) (fun m hm=>?_) (fun b u e=>?_) I.bare
 .have e:b=it:=by simpa using hb
  subst e;exact⟨h1,hL,h2,h3⟩
 .obtain⟨o,es,ep,ho,r⟩:=hm
  exact⟨o,es,ep,k _ o (Ne.symm hL) ho,r⟩
 .refine(I.bc b u e).jq (fun c v hc q=>k c v ?_ q) (fun _ q=>q) fun _ _ q=>q
  rcases hc with z|z
  .rw[z];exact nit b u e
  .exact nit c _ z
theorem Inv.tok (I:Inv X pins σ H s)(t:Nat):Inv X pins σ H {s with toks:=t}:=I.un (h':=s.heap) (t':=t) Un.refl I.bc
theorem Inv.kept {t':Nat}(I:Inv X pins σ H s)(k:∀b u,s.heap.get? b=some u->h'.get? b=some u):Inv X pins σ H {s with heap:=h',toks:=t'}:=I.un (Un.kept k) (I.bc.kept k)
theorem Inv.laid {a:MB}{o:HO}{t':Nat}(I:Inv X pins σ H s)(k:∀b u,s.heap.get? b=some u->h'.get? b=some u)(hp:s.heap.objs.size<=a)(new:bH X.prog X.w (upd H a o) h' a o):
  Inv X pins σ (upd H a o) {s with heap:=h',toks:=t'}:=I.un (Un.laid k hp (I.bc.fresh hp)) (I.bc.laid k hp new)
theorem Inv.write {x e:MB}{o:HO}{t':Nat}(I:Inv X pins σ H s)(mu:IV (H x))(he:e=x\/H e=some (.own x))(k:∀b u,b≠e->s.heap.get? b=some u->h'.get? b=some u)(heo:∃u,h'.get? e=some u)
  (new:bH X.prog X.w (upd H x o) h' x o):Inv X pins σ (upd H x o) {s with heap:=h',toks:=t'}:=I.un (Un.write mu he k heo) (I.bc.write mu he k heo new)
theorem Inv.kX {pins':List (MB×Obj)}(I:Inv X pins σ H s)(h:∀p∈pins',s.heap.get? p.1=some p.2/\H p.1=none/\p.1≠X.env.locals/\p.1∉X.fs/\∀v,p.2.data≠.cell v):Inv X pins' σ H s:=
 ⟨I.ok,I.os,I.bare,I.base,I.loc,I.cell,I.free,I.fE,fun p hp=>(List.mem_append.mp hp).elim (fun z=>I.pin p (Ml _ z)) (h p),I.bc,I.len⟩
theorem o5{N:List Str}(hN:N.Nodup){i j:Nat}{x:Str}(a:N[i]?=some x)(b:N[j]?=some x):i=j:=by
 obtain⟨h1,e1⟩:=List.getElem?_eq_some_iff.mp a;obtain⟨h2,e2⟩:=List.getElem?_eq_some_iff.mp b;exact(List.getElem_inj hN).mp (e1.trans e2.symm)
theorem ma{M:Model}{A:MF}{E:MA->MC->Prop}{i:Nat}{x:Str}{v:V}{u:MA}{Q:Unit->MC->Prop}(I:Inv X pins σ H s)(hN:X.N.Nodup)(hi:X.N[i]?=some x)(hx:Loc X.env.scope x)(r:RelV v u)
  (h:∀s',Inv X pins (σ.set i (some v)) H s'->(∃a,MN.SameBut a s.heap s'.heap/\(a=X.env.locals\/X.env.cells.lookup x=some a))->Q () s') (hf:X.fn x=true\/X.env.scope.names.lookup x=some .local:=by first|exact .inl rfl|exact .inr rfl|assumption):MP M A (storeName X.env x u) Q E s:=by
 obtain⟨m,hn,hl⟩:=id I.loc;have hcls:(X.env.scope.kind== .class||(X.env.scope.kind== .module&&X.env.locals !=X.env.globals))=false:=by rw[I.ok.kind];rfl
 have hiσ:i<σ.length:=by rw[I.len];exact(List.getElem?_eq_some_iff.mp hi).1
 have B7:=I.B7;have tracked:∀{a:MB}{h':MN},(∃o,s.heap.get? a=some o/\H a=none)->MN.SameBut a s.heap h'->jV X.prog X.w H h':=fun{a h'} ha hs b ob e=>by
  obtain⟨_,_,hfree⟩:=ha;refine(I.bc b ob e).jq (fun c w' hc q=>(hs.2 c ?_).trans q) (fun _ q=>q) fun _ _ q=>q;rintro rfl;rcases hc with rfl|hc
  .rw[hfree]at e;cases e
  .rw[hfree]at hc;cases hc
 rcases hx with hk|hk
 .refine wpAny_storeName_local hk hn (fun h' hn' hs=>?_) hcls
  obtain⟨oL,_,_,hoL,_⟩:=id hn;refine h _ ⟨I.ok,I.os,I.bare,⟨fun b o e n hb hx=>?_,fun b o e n hb hx=>?_,I.base.free,fun b o e hx=>?_,I.base.bI,I.base.iF,I.base.i6⟩,⟨_,hn',fun j y v' e1 e2 e3=>?_⟩,fun y c e=>?_,I.free,I.fE,fun p hp=>?_,tracked ⟨oL,hoL,I.free⟩ hs,by simpa using I.len⟩ ⟨_,hs,.inl rfl⟩
  .exact(hs.2 b (Mu (Mt (MN.lt_size e) I.ok.above))).trans (I.base.keep b o e n hb hx)
  .obtain⟨sl,e1⟩:=I.base.slot b o e n hb hx
   exact⟨sl,(hs.2 b (Mu (Mt (MN.lt_size e) I.ok.above))).trans e1⟩
  .obtain⟨o',e1⟩:=I.base.there b o e hx
   exact⟨o',(hs.2 b (Mu (Mt (MN.lt_size e) I.ok.above))).trans e1⟩
  .by_cases hj:j=i
   .subst hj
    rw[hi]at e1;cases e1;rw[List.getElem?_set_self hiσ]at e2;cases e2;exact⟨u,r,.inl ⟨hk,by simp⟩⟩
   .rw[List.getElem?_set_ne (Ne.symm hj)]at e2
    obtain⟨u',r',q⟩:=hl j y v' e1 e2 e3;refine⟨u',r',?_⟩;rcases q with⟨k,e⟩|⟨k,c,e,z⟩
    .refine .inl ⟨k,?_⟩
     have:y≠x:=fun e=>hj (o5 hN e1 (e▸hi));simp[this,e]
    .exact .inr ⟨k,c,e,z.sameBut hs (B7 y c e)⟩
  .obtain⟨w',z⟩:=I.cell y c e
   exact⟨w',z.sameBut hs (B7 y c e)⟩
  .obtain⟨e,n,ne,nf,d⟩:=I.pin p hp
   exact⟨(hs.2 p.1 ne).trans e,n,ne,nf,d⟩
 .have hfn:X.fn x=true:=by
   rcases hf with z|z
   .exact z
   .rw[z]at hk;cases hk
  obtain⟨c,hc⟩:=I.ok.has x (.inl hk);obtain⟨w',z⟩:=I.cell x c hc;refine wpAny_storeName_cell I.ok.kind hk hc z (fun h' hc' hs=>?_);obtain⟨oc,hoc,hocd⟩:=id z;refine h {s with heap:=h'} ⟨I.ok,I.os,I.bare,⟨fun b o e n hb hx=>?_,fun b o e n hb hx=>?_,I.base.free,fun b o e hx=>?_,I.base.bI,I.base.iF,I.base.i6⟩,⟨m,hn.sameBut hs (Ne.symm (B7 x c hc)),fun j y v' e1 e2 e3=>?_⟩,fun y c' e=>?_,I.free,I.fE,fun p hp=>?_,tracked ⟨oc,hoc,I.fE x c hc⟩ hs,by simpa using I.len⟩ ⟨c,hs,.inr hc⟩
  .exact(hs.2 b (Mu (Mt (MN.lt_size e) (I.ok.CA x c hfn hc)))).trans (I.base.keep b o e n hb hx)
  .obtain⟨sl,e1⟩:=I.base.slot b o e n hb hx
   exact⟨sl,(hs.2 b (Mu (Mt (MN.lt_size e) (I.ok.CA x c hfn hc)))).trans e1⟩
  .obtain⟨o',e1⟩:=I.base.there b o e hx
   exact⟨o',(hs.2 b (Mu (Mt (MN.lt_size e) (I.ok.CA x c hfn hc)))).trans e1⟩
  .by_cases hj:j=i
   .subst hj
    rw[hi]at e1;cases e1;rw[List.getElem?_set_self hiσ]at e2;cases e2;exact⟨u,r,.inr ⟨.inl hk,c,hc,hc'⟩⟩
   .rw[List.getElem?_set_ne (Ne.symm hj)]at e2
    obtain⟨u',r',q⟩:=hl j y v' e1 e2 e3;refine⟨u',r',?_⟩;rcases q with q|⟨k,c',e,z'⟩
    .exact .inl q
    .refine .inr ⟨k,c',e,z'.sameBut hs ?_⟩
     rintro rfl;exact hj (o5 hN e1 (I.ok.inj _ _ _ e hc▸hi))
  .by_cases hcc:c'=c
   .subst hcc;exact⟨_,hc'⟩
   .obtain⟨w2,z2⟩:=I.cell y c' e
    exact⟨w2,z2.sameBut hs hcc⟩
  .obtain⟨e,n,ne,nf,d⟩:=I.pin p hp
   refine⟨(hs.2 p.1 ?_).trans e,n,ne,nf,d⟩;intro q;rw[q,hoc]at e;have q':oc=p.2:=My e;exact d w' (by rw[←q'];exact hocd)
theorem gv{M:Model}{A:MF}{E:MA->MC->Prop}{i:Nat}{x:Str}{v:V}{u:MA}{Q:Unit->MC->Prop}(I:Inv X pins σ H s)(hN:X.N.Nodup)(hi:X.N[i]?=some x)(hx:Loc X.env.scope x)(r:RelV v u)
  (h:∀s',Inv X pins (σ.set i (some v)) H s'->Q () s') (hf:X.fn x=true\/X.env.scope.names.lookup x=some .local:=by first|exact .inl rfl|exact .inr rfl|assumption):MP M A (storeName X.env x u) Q E s:=
 ma I hN hi hx r (fun s' I' _=>h s' I') hf
theorem Inv.Bi {s':MC}{ch:List MB}(I:Inv X pins σ H s)(ho:s'.os=s.os)(u:Un (gw X.stack) ch H H' s.heap s'.heap)(bc:jV X.prog X.w H' s'.heap)(hg:AllBare s'.gens)
  (hch:∀b∈ch,(b∈X.ex\/X.s₀.heap.objs.size<=b)/\b≠X.env.locals/\(∀x c,X.env.cells.lookup x=some c->c≠b)/\∀p∈X.pn++pins,p.1≠b):Inv X pins σ H' s':=by
 obtain⟨h',g',d',t',o'⟩:=s';have e:o'=s.os:=ho;subst e;exact I.call (g':=g') (t':=t') (d':=d') u bc hg hch
end
abbrev XK:=MA->Option MB->Hp->Prop
abbrev St:=List (Option V)
abbrev VK:=V->Hp->Prop
abbrev TE:=St->Hp->VK->Prop
abbrev TT:=St->Hp->(Bool->Hp->Prop)->Prop
abbrev TA:=St->Hp->(List V->Hp->Prop)->Prop
structure Ends where
 nx:St->Hp->Prop
 rt:VK
 bk:St->Hp->Prop:=fun _ _=>False
 ct:St->Hp->Prop:=fun _ _=>False
abbrev TS:=Ends->St->Hp->Prop
def EP(X:Cx)(pins:List (MB×Obj))(σ:St)(Q:VK)(u:MA)(s':MC):Prop:=∃v H',Inv X pins σ H' s'/\RelV v u/\Q v H'
def TP(X:Cx)(pins:List (MB×Obj))(σ:St)(Q:Bool->Hp->Prop)(b:Bool)(s':MC):Prop:=∃H',Inv X pins σ H' s'/\Q b H'
def AP(X:Cx)(pins:List (MB×Obj))(σ:St)(Q:List V->Hp->Prop)(us:List MA)(s':MC):Prop:=∃vs H',Inv X pins σ H' s'/\Vals vs us/\Q vs H'
def SP(X:Cx)(pins:List (MB×Obj))(D:Ends)(f:Flow)(s':MC):Prop:=
 match f with
 | .next=>∃σ' H',Inv X pins σ' H' s'/\D.nx σ' H'
 | .brk=>∃σ' H',Inv X pins σ' H' s'/\D.bk σ' H'
 | .cont=>∃σ' H',Inv X pins σ' H' s'/\D.ct σ' H'
 | .ret u=>∃v σ' H',Inv X pins σ' H' s'/\RelV v u/\D.rt v H'
def PE(X:Cx)(e:Expr)(t:TE):Prop:=
 ∀(pins:List (MB×Obj))(s:MC)(σ:St)(H:Hp)(Q:VK),Inv X pins σ H s->t σ H Q->MP (model X.prog X.w) X.A (eval e X.env) (EP X pins σ Q) X.xe s
def PT(X:Cx)(e:Expr)(t:TT):Prop:=
 ∀(pins:List (MB×Obj))(s:MC)(σ:St)(H:Hp)(Q:Bool->Hp->Prop),Inv X pins σ H s->t σ H Q->MP (model X.prog X.w) X.A (isTrue e X.env (eval e X.env)) (TP X pins σ Q) X.xe s
def PW(X:Cx)(e:Expr)(t:TT):Prop:=
 ∀(whole:Sem MA)(pins:List (MB×Obj))(s:MC)(σ:St)(H:Hp)(Q:Bool->Hp->Prop),Inv X pins σ H s->t σ H Q->MP (model X.prog X.w) X.A (isTrue e X.env whole) (TP X pins σ Q) X.xe s
theorem PW.pt {X:Cx}{e:Expr}{t:TT}(h:PW X e t):PT X e t:=h _
def PA(X:Cx)(es:List Expr)(t:TA):Prop:=
 ∀(pos:Pos)(pins:List (MB×Obj))(s:MC)(σ:St)(H:Hp)(Q:List V->Hp->Prop),Inv X pins σ H s->t σ H Q->MP (model X.prog X.w) X.A (spliced (MO pos (ML es X.env))) (AP X pins σ Q) X.xe s
def PS(X:Cx)(st:MQ)(t:TS):Prop:=
 ∀(pins:List (MB×Obj))(s:MC)(σ:St)(H:Hp)(D:Ends),Inv X pins σ H s->t D σ H->MP (model X.prog X.w) X.A (exec st X.env) (SP X pins D) X.xe s
def pX(X:Cx)(st:List MQ)(t:TS):Prop:=
 ∀(pins:List (MB×Obj))(s:MC)(σ:St)(H:Hp)(D:Ends),Inv X pins σ H s->t D σ H->MP (model X.prog X.w) X.A (execs st X.env) (SP X pins D) X.xe s
theorem aV{α:Type}{t:Sem α}{Q Q':α->MC->Prop}{M:Model}{A:MF}{E:MA->MC->Prop}{s:MC}(h:MP M A t Q E s)(hQ:∀a s,Q a s->Q' a s):MP M A t Q' E s:=MK h hQ fun _ _ x=>x
section
variable{X:Cx}
theorem bin{a b:Expr}{ta tb:TE}(ha:PE X a ta)(hb:PE X b tb){pins:List (MB×Obj)}{s:MC}{σ:St}{H:Hp}{R:V->V->Hp->Prop}(I:Inv X pins σ H s)(h:ta σ H fun x H1=>tb σ H1 fun y H2=>R x y H2)
  {α:Type} {Q:α->MC->Prop} {f:MA->MA->Sem α}
  (hf:∀v u s2 x y H2,Inv X pins σ H2 s2->RelV x v->RelV y u->R x y H2->MP (model X.prog X.w) X.A (f v u) Q X.xe s2):
  MP (model X.prog X.w) X.A (eval a X.env) (fun v s₁=>MP (model X.prog X.w) X.A (eval b X.env) (fun u s₂=>MP (model X.prog X.w) X.A (f v u) Q X.xe s₂) X.xe s₁) X.xe s:=by
 refine aV (ha pins s σ H _ I h) fun v s1 ⟨x,H1,I1,r1,q1⟩=>?_;refine aV (hb pins s1 σ H1 _ I1 q1) fun u s2 ⟨y,H2,I2,r2,q2⟩=>?_;exact hf v u s2 x y H2 I2 r1 r2 q2
def zH(i:Nat):TE:=fun σ H Q=>∃v,σ[i]?=some (some v)/\Q v H
def tC(v:V):TE:=fun _ H Q=>Q v H
theorem Cu{i:Nat}{x:Str}{pos:Pos}(hN:X.N[i]?=some x)(hv:JX X.env.scope x)(hd:(x==("__debug__" :Str))=false:=by decide)(hcd:(x==("__classdict__" :Str))=false:=by decide):PE X (.Name x pos) (zH i):=by
 intro pins s σ H Q I h;obtain⟨v,e,h⟩:=h;obtain⟨m,hn,hl⟩:=I.loc;obtain⟨u,r,l⟩:=hl i x v hN e hv;have fin:EP X pins σ Q u s:=⟨v,H,I,r,h⟩;rcases l with⟨hk,hm⟩|⟨hk,c,hc,hcell⟩
 .exact wpAny_Name (wpAny_loadName_local I.ok.kind hk hn hm fin) hd
 .rcases hk with hk|hk
  .exact wpAny_Name (wpAny_loadName_cell I.ok.kind hk hc hcell fin) hd
  .exact wpAny_Name (wpAny_loadName_free I.ok.kind hk hc hcell fin hcd) hd
theorem ai{i j pos}:PE X (.Constant (.int i) j pos) (tC (.int i)):=fun _ _ _ H _ I h=>wpAny_Constant_int ⟨.int i,H,I.tok _,⟨_,rfl⟩,h⟩
theorem i3{b j pos}:PE X (.Constant (.bool b) j pos) (tC (.bl b)):=fun _ _ _ H _ I h=>Constant_bool ⟨.bl b,H,I,rfl,h⟩
theorem Bs{j pos}:PE X (.Constant .none j pos) (tC .cE):=fun _ _ _ H _ I h=>Constant_none ⟨.cE,H,I,rfl,h⟩
theorem az{x j pos}:PE X (.Constant (.str x) j pos) (tC (.str x)):=fun _ _ _ H _ I h=>Calls.Constant_str ⟨.str x,H,I.tok _,⟨_,rfl⟩,h⟩
def Gl(X:Cx)(x:Str):Prop:=X.env.kindOf x=some .globalImplicit
theorem iy{E:MA->MC->Prop}{pins:List (MB×Obj)}{s:MC}{σ:St}{H:Hp}{x:Str}{u:MA}{pos:Pos}{Q:MA->MC->Prop}(I:Inv X pins σ H s)(hg:Gl X x)(hm:X.mg x=some u)(h:Q u s)
  (hd:(x==("__debug__" :Str))=false:=by decide):MP (model X.prog X.w) X.A (eval (.Name x pos) X.env) Q E s:=
 Calls.Name_function_global I.ok.kind hg (Calls.loadGlobal_global (by rw[I.ok.glob];exact I.mod.glob.keeps I.bk) hm h) hd
theorem jv{E:MA->MC->Prop}{pins:List (MB×Obj)}{s:MC}{σ:St}{H:Hp}{x:Str}{u:MA}{pos:Pos}{Q:MA->MC->Prop}(I:Inv X pins σ H s)(hg:Gl X x)(hm:X.mg x=none)(hv:bootBuiltins x=some u)(h:Q u s)
  (hn:x≠"__name__" :=by decide) (hd:(x==("__debug__" :Str))=false:=by decide):MP (model X.prog X.w) X.A (eval (.Name x pos) X.env) Q E s:=by
 obtain⟨mb,h1,h2⟩:=I.mod.blt;exact Calls.Name_function_global I.ok.kind hg (Calls.loadGlobal_builtin (by rw[I.ok.glob];exact I.mod.glob.keeps I.bk) hm (by rw[I.ok.blt];exact h1.keeps I.bk) ((h2 x hn).trans hv) h) hd
theorem di{x:Str}{v:V}{u:MA}{pos:Pos}(hg:Gl X x)(hm:X.mg x=some u)(r:RelV v u)(hd:(x==("__debug__" :Str))=false:=by decide):PE X (.Name x pos) (tC v):=
 fun _ _ _ H _ I h=>iy I hg hm ⟨v,H,I,r,h⟩ hd
theorem iP{x:Str}{v:V}{u:MA}{pos:Pos}(hg:Gl X x)(hm:X.mg x=none)(hv:bootBuiltins x=some u)(r:RelV v u)(hn:x≠"__name__" :=by decide)(hd:(x==("__debug__" :Str))=false:=by decide):PE X (.Name x pos) (tC v):=
 fun _ _ _ H _ I h=>jv I hg hm hv ⟨v,H,I,r,h⟩ hn hd
variable{a b:Expr}{ta tb:TE}{pos:Pos}
def PC(X:Cx)(op:CmpOp)(a b:Expr)(t:TE):Prop:=
 ∀(pins:List (MB×Obj))(s:MC)(σ:St)(H:Hp)(Q:VK),Inv X pins σ H s->t σ H Q->
  MP (model X.prog X.w) X.A (eval a X.env) (fun v s₁=>MP (model X.prog X.w) X.A (eval b X.env) (fun u s₂=>MP (model X.prog X.w) X.A (compareOp op v u) (EP X pins σ Q) X.xe s₂) X.xe s₁) X.xe s
def tB(t:TE):TT:=fun σ H Q=>t σ H fun x H1=>∃c,x= .bl c/\Q c H1
theorem kD{op:CmpOp}{t:TE}(h:PC X op a b t)(h1:behindInMarks op b=false:=by first|exact nobehind _ (by decide) (by decide)|rfl):PT X (.Compare a [op] [b] pos) (tB t):=by
 intro pins s σ H Q I hw;refine wpAny_isTrue_Compare1 (aV (h pins s σ H _ I hw) fun v s1 h1=>aV h1 fun u s2 h2=>aV h2 fun c s3 ⟨x,H1,I1,r1,q1⟩=>?_) h1;obtain⟨d,rfl,q⟩:=q1;cases r1;exact wpAny_truthy_bool ⟨H1,I1,q⟩
theorem eI{e:Expr}{t:TE}(h:PE X e t)(he:∀whole,isTrue e X.env whole=(do let v←whole;standAt e.pos;holding [v] (truthy v)):=by intro _;rfl):PT X e (tB t):=by
 intro pins s σ H Q I hw;refine isTrue_plain (aV (h pins s σ H _ I hw) fun v s1 ⟨x,H1,I1,r1,q1⟩=>?_) (he _);obtain⟨d,rfl,q⟩:=q1;cases r1;exact wpAny_truthy_bool ⟨H1,I1,q⟩
variable{tA tB':TT}{rest:List Expr}
def Ku(t u:TT):TT:=fun σ H Q=>t σ H fun c H1=>if c=true then u σ H1 Q else Q false H1
def LU(t u:TT):TT:=fun σ H Q=>t σ H fun c H1=>if c=true then Q true H1 else u σ H1 Q
def K3(t:TT):TT:=fun σ H Q=>t σ H fun c H1=>Q (!c) H1
theorem Dj(ha:PT X a tA):PW X (.BoolOp .And [a] pos) tA:=by
 intro wh pins s σ H Q I h;refine isTrue_and (aV (ha pins s σ H Q I h) fun c s1 e=>?_)
 cases c with
 |true=>exact isTrue_and_nil e
 |false=>exact e
theorem jz(ha:PT X a tA):PW X (.BoolOp .Or [a] pos) tA:=by
 intro wh pins s σ H Q I h;refine isTrue_or (aV (ha pins s σ H Q I h) fun c s1 e=>?_)
 cases c with
 |false=>exact isTrue_or_nil e
 |true=>exact e
theorem F7(ha:PT X a tA)(hb:PW X (.BoolOp .And (b::rest) pos) tB'):PW X (.BoolOp .And (a::b::rest) pos) (Ku tA tB'):=by
 intro wh pins s σ H Q I h;refine isTrue_and (aV (ha pins s σ H _ I h) fun c s1 ⟨H1,I1,q1⟩=>?_)
 cases c with
 |true=>exact hb wh pins s1 σ H1 Q I1 q1
 |false=>exact⟨H1,I1,q1⟩
theorem j5(ha:PT X a tA)(hb:PW X (.BoolOp .Or (b::rest) pos) tB'):PW X (.BoolOp .Or (a::b::rest) pos) (LU tA tB'):=by
 intro wh pins s σ H Q I h;refine isTrue_or (aV (ha pins s σ H _ I h) fun c s1 ⟨H1,I1,q1⟩=>?_)
 cases c with
 |true=>exact⟨H1,I1,q1⟩
 |false=>exact hb wh pins s1 σ H1 Q I1 q1
theorem eL(ha:PT X a tA):PT X (.UnaryOp .Not a pos) (K3 tA):=by
 intro pins s σ H Q I h;exact isTrue_not (ha pins s σ H (fun c H1=>Q (!c) H1) I h)
def Im(ta tb:TE):TE:=fun σ H Q=>ta σ H fun x H1=>∃c,x= .bl c/\if c=true then tb σ H1 Q else Q (.bl false) H1
def Jd(ta:TE):TE:=fun σ H Q=>ta σ H fun x H1=>∃c,x= .bl c/\Q (.bl (!c)) H1
theorem sZ{op}{t:TE}(h:PE X a t):PE X (.BoolOp op [a] pos) t:=fun pins s σ H Q I hw=>BoolOp_one (h pins s σ H Q I hw)
theorem w4(ha:PE X a ta)(hb:PE X (.BoolOp .And (b::rest) pos) tb):PE X (.BoolOp .And (a::b::rest) pos) (Im ta tb):=by
 intro pins s σ H Q I h;refine BoolOp_and (aV (ha pins s σ H _ I h) fun v s1 ⟨x,H1,I1,r1,q1⟩=>?_);obtain⟨c,rfl,q1⟩:=q1;cases r1;refine wpAny_truthy_bool ?_
 cases c with
 |true=>exact hb pins s1 σ H1 Q I1 q1
 |false=>exact⟨.bl false,H1,I1,rfl,q1⟩
theorem FL(ha:PE X a ta):PE X (.UnaryOp .Not a pos) (Jd ta):=by
 intro pins s σ H Q I h;refine UnaryOp_ (aV (ha pins s σ H _ I h) fun v s1 ⟨x,H1,I1,r1,q1⟩=>?_);obtain⟨c,rfl,q1⟩:=q1;cases r1;exact not_of (wpAny_truthy_bool ⟨.bl (!c),H1,I1,rfl,q1⟩)
def Lr(t:TT)(ta tb:TE):TE:=fun σ H Q=>t σ H fun c H1=>if c=true then ta σ H1 Q else tb σ H1 Q
theorem pq{c:Expr}(hc:PT X c tA)(ha:PE X a ta)(hb:PE X b tb):PE X (.IfExp c a b pos) (Lr tA ta tb):=by
 intro pins s σ H Q I h;refine wpAny_IfExp (aV (hc pins s σ H _ I h) fun d s1 ⟨H1,I1,q1⟩=>?_)
 cases d with
 |true=>exact ha pins s1 σ H1 Q I1 q1
 |false=>exact hb pins s1 σ H1 Q I1 q1
end
def aG(K:W.Frag)(H:Hp)(a:MB)(xs:List V):Prop:=
 Rd H a (.lst xs)\/
  ∃(o:Obj)(its:Array MA)(n:Nat),K.lookup a=some o/\o.cls= .type "list"/\o.dict=none/\o.data= .seq its n/\its.size<=MG/\Vals xs its.toList
def dH(K:W.Frag)(H:Hp)(a:MB)(xs:List V):Prop:=
 Rd H a (.tup xs)\/
  ∃(o:Obj)(its:Array MA)(n:Nat),K.lookup a=some o/\o.cls= .type "tuple"/\o.data= .seq its n/\its.size<=MG/\Vals xs its.toList
def Kr:MA->Option V
 | .none=>some .cE
 | .bool b=>some (.bl b)
 | .int i _=>some (.int i)
 | .str x _=>some (.str x)
 | .bytes b _=>some (.byt b)
 | .float b _=>some (.jK b)
 | .ref a=>some (.ref a)
 | .type n=>some (.ty n)
 |_=>none
theorem RelV.abs {x:V}{u:MA}(r:RelV x u):Kr u=some x:=by
 cases x with
 |cE=>cases r;rfl
 |bl _=>cases r;rfl
 |int _=>obtain⟨t,rfl⟩:=r;rfl
 |str _=>obtain⟨t,rfl⟩:=r;rfl
 |byt _=>obtain⟨t,rfl⟩:=r;rfl
 |jK _=>obtain⟨t,rfl⟩:=r;rfl
 |ref _=>cases r;rfl
 |ty _=>cases r;rfl
theorem RelV.inj {x y:V}{u:MA}(r:RelV x u)(q:RelV y u):x=y:=My (r.abs.symm.trans q.abs)
theorem Vals.inj:∀{xs ys:List V}{us:List MA},Vals xs us->Vals ys us->xs=ys
 |_,_,_,.nil,.nil=>rfl
 |_,_,_,.cons r t,.cons r' t'=>by rw[r.inj r',Vals.inj t t']
section
variable{X:Cx}{pins:List (MB×Obj)}{σ:St}{H:Hp}{s:MC}{a:MB}{xs ys:List V}
theorem aG.of {K:W.Frag}(h:H a=some (.lst xs)):aG K H a xs:= .inl (.inl h)
theorem dH.of {K:W.Frag}(h:H a=some (.tup xs)):dH K H a xs:= .inl (.inl h)
theorem Inv.list (I:Inv X pins σ H s)(h:aG X.K H a xs):∃its:List MA,Vals xs its/\PlainL s.heap a its.toArray/\xs.length<=MG:=by
 rcases h with h|⟨o,its,n,hk,hc,hd,hs,hz,r⟩
 .obtain⟨z,its,n,r,e⟩:=h.ok I.bc
  exact⟨its,r,⟨_,n,e,rfl,rfl,rfl⟩,z⟩
 .refine⟨its.toList,r,⟨o,n,I.je a o hk,hc,hd,by simpa using hs⟩,?_⟩
  have e:=r.length;simp only[Array.length_toList]at e;lia
theorem Inv.tuple (I:Inv X pins σ H s)(h:dH X.K H a xs):∃its:List MA,Vals xs its/\IsTup s.heap a its.toArray/\xs.length<=MG:=by
 rcases h with h|⟨o,its,n,hk,hc,hs,hz,r⟩
 .obtain⟨z,its,r,p⟩:=h.ok I.bc
  exact⟨its,r,p,z⟩
 .refine⟨its.toList,r,⟨o,I.je a o hk,hc,n,by simpa using hs⟩,?_⟩
  have e:=r.length;simp only[Array.length_toList]at e;lia
theorem Inv.CL (I:Inv X pins σ H s)(h:aG X.K H a xs)(h':aG X.K H a ys):xs=ys:=by
 obtain⟨its,r,⟨o,n,e,_,_,d⟩,_⟩:=I.list h;obtain⟨its',r',⟨o',n',e',_,_,d'⟩,_⟩:=I.list h';rw[e]at e';cases e';rw[d]at d';injection d' with d1 _
 have:its=its':=by simpa using congrArg Array.toList d1
 subst this;exact r.inj r'
theorem Inv.zi (I:Inv X pins σ H s)(h:dH X.K H a xs)(h':dH X.K H a ys):xs=ys:=by
 obtain⟨its,r,⟨o,e,_,n,d⟩,_⟩:=I.tuple h;obtain⟨its',r',⟨o',e',_,n',d'⟩,_⟩:=I.tuple h';rw[e]at e';cases e';rw[d]at d';injection d' with d1 _
 have:its=its':=by simpa using congrArg Array.toList d1
 subst this;exact r.inj r'
end
abbrev Cx.qh (X:Cx)(E:MA->MC->Prop):Cx:={X with xe:=E}
abbrev Cx.J1 (X:Cx):Cx:=X.qh fun _ _=>False
theorem Cx.Ok.qh {X:Cx}(ok:X.Ok)(E:MA->MC->Prop):(X.qh E).Ok:=
 ⟨ok.mod,ok.kind,ok.glob,ok.blt,ok.above,ok.inj,ok.has,ok.CA,ok.hd,ok.frames,ok.Av,ok.EV,ok.bs,ok.yZ,ok.pL,ok.qc,ok.iJ,ok.nS⟩
theorem Cx.Ok.jF {X:Cx}{E:MA->MC->Prop}(ok:(X.qh E).Ok):X.Ok:=
 ⟨ok.mod,ok.kind,ok.glob,ok.blt,ok.above,ok.inj,ok.has,ok.CA,ok.hd,ok.frames,ok.Av,ok.EV,ok.bs,ok.yZ,ok.pL,ok.qc,ok.iJ,ok.nS⟩
section
variable{X:Cx}{pins:List (MB×Obj)}{σ:St}{H:Hp}{s:MC}{E:MA->MC->Prop}
theorem Inv.qh (I:Inv X pins σ H s)(E:MA->MC->Prop):Inv (X.qh E) pins σ H s:=⟨I.ok.qh E,I.os,I.bare,I.base,I.loc,I.cell,I.free,I.fE,I.pin,I.bc,I.len⟩
theorem Inv.jF (I:Inv (X.qh E) pins σ H s):Inv X pins σ H s:=⟨I.ok.jF,I.os,I.bare,I.base,I.loc,I.cell,I.free,I.fE,I.pin,I.bc,I.len⟩
theorem SP.jF {D:Ends}{f:Flow}{s':MC}(h:SP (X.qh E) pins D f s'):SP X pins D f s':=by
 cases f with
 |next=>obtain⟨σ',H',I,q⟩:=h;exact⟨σ',H',I.jF,q⟩
 |brk=>obtain⟨σ',H',I,q⟩:=h;exact⟨σ',H',I.jF,q⟩
 |cont=>obtain⟨σ',H',I,q⟩:=h;exact⟨σ',H',I.jF,q⟩
 |ret u=>obtain⟨v,σ',H',I,r,q⟩:=h;exact⟨v,σ',H',I.jF,r,q⟩
theorem pX.J1 {st:List MQ}{t:TS}(h:pX X.J1 st t):pX X st t:=fun pins s σ H D I hw=>
 MK (h pins s σ H D (I.qh _) hw) (fun _ _ q=>q.jF) fun _ _ z=>False.elim z
end
section
variable{X:Cx}{st:MQ}{rest:List MQ}{t u:TS}{e:Expr}{te:TE}{pos:Pos}
def JA:TS:=fun D σ H=>D.nx σ H
def Bd(t u:TS):TS:=fun D σ H=>t {D with nx:=u D} σ H
theorem aB:pX X [] JA:=fun _ _ σ H _ I h=>wpAny_execs_nil ⟨σ,H,I,h⟩
theorem ag(h1:PS X st t)(h2:pX X rest u):pX X (st::rest) (Bd t u):=by
 intro pins s σ H D I h;refine wpAny_execs_cons (aV (h1 pins s σ H {D with nx:=u D} I h) fun f s1 q=>?_)
 cases f with
 |next=>
  obtain⟨σ',H',I',q⟩:=q;exact h2 pins s1 σ' H' D I' q
 |ret v=>exact q
 |brk=>exact q
 |cont=>exact q
theorem aj(h1:PS X st t):pX X [st] t:=by
 intro pins s σ H D I h;refine wpAny_execs_cons (aV (h1 pins s σ H D I h) fun f s1 q=>?_)
 cases f with
 |next=>exact wpAny_execs_nil q
 |ret v=>exact q
 |brk=>exact q
 |cont=>exact q
theorem Inv.quiet {pins:List (MB×Obj)}{σ:St}{H:Hp}{s:MC}(I:Inv X pins σ H s):interactive X.env=false:=by simp[interactive,I.ok.kind]
def JG(te:TE):TS:=fun D σ H=>te σ H fun _ H1=>D.nx σ H1
theorem dh(he:PE X e te)(hs:swapsWith e none pos.line X.env=pure false:=by rfl):PS X (.Expr e pos) (JG te):=by
 intro pins s σ H D I h;exact wpAny_Expr_any (aV (he pins s σ H _ I h) fun v s1 ⟨x,H1,I1,r1,q1⟩=>⟨σ,H1,I1,q1⟩) I.quiet hs
def Ds(te:TE):TS:=fun D σ H=>te σ H D.rt
theorem aA(he:PE X e te):PS X (.Return (some e) pos) (Ds te):=by
 intro pins s σ H D I h;exact wpAny_Return_some (aV (he pins s σ H _ I h) fun v s1 ⟨x,H1,I1,r1,q1⟩=>⟨x,σ,H1,I1,r1,q1⟩)
def vb(c:TT)(t u:TS):TS:=fun D σ H=>c σ H fun b H1=>if b=true then t D σ H1 else u D σ H1
theorem aQ{c:Expr}{a b:List MQ}{tc:TT}(hc:PT X c tc)(ha:pX X a t)(hb:pX X b u):PS X (.If c a b pos) (vb tc t u):=by
 intro pins s σ H D I h;refine wpAny_If (aV (hc pins s σ H _ I h) fun d s1 ⟨H1,I1,q1⟩=>?_)
 cases d with
 |true=>exact ha pins s1 σ H1 D I1 q1
 |false=>exact hb pins s1 σ H1 D I1 q1
def Hl:TS:=fun _ _ _=>False
theorem dF:PS X st Hl:=fun _ _ _ _ _ _ h=>h.elim
end
abbrev TG:=V->St->Hp->(St->Hp->Prop)->Prop
abbrev Fh:=List V->St->Hp->(St->Hp->Prop)->Prop
def PG(X:Cx)(target:Expr)(t:TG):Prop:=
 ∀(pins:List (MB×Obj))(s:MC)(σ:St)(H:Hp)(v:V)(u:MA)(Q:St->Hp->Prop),Inv X pins σ H s->RelV v u->t v σ H Q->
  MP (model X.prog X.w) X.A (assign target X.env u) (fun _ s'=>∃σ' H',Inv X pins σ' H' s'/\Q σ' H') X.xe s
def Jz(X:Cx)(ts:List Expr)(t:Fh):Prop:=
 ∀(pins:List (MB×Obj))(s:MC)(σ:St)(H:Hp)(vs:List V)(us:List MA)(Q:St->Hp->Prop),Inv X pins σ H s->Vals vs us->t vs σ H Q->
  MP (model X.prog X.w) X.A (assignInOrder ((assignEach ts X.env).map (·.2)) us) (fun _ s'=>∃σ' H',Inv X pins σ' H' s'/\Q σ' H') X.xe s
abbrev GG:=V->V->V->Hp->(Hp->Prop)->Prop
def JC(X:Cx)(t:GG):Prop:=
 ∀(pins:List (MB×Obj))(s:MC)(σ:St)(H:Hp)(o i v:V)(ov iv u:MA)(Q:Hp->Prop),Inv X pins σ H s->RelV o ov->RelV i iv->RelV v u->t o i v H Q->
  MP (model X.prog X.w) X.A (setItem ov iv u) (fun _ s'=>∃H',Inv X pins σ H' s'/\Q H') X.xe s
section
variable{X:Cx}{pos:Pos}
def cu(i:Nat):TG:=fun v σ H Q=>Q (σ.set i (some v)) H
theorem aC{i:Nat}{x:Str}(hN:X.N.Nodup)(hi:X.N[i]?=some x)(hx:Loc X.env.scope x)(hf:X.fn x=true\/X.env.scope.names.lookup x=some .local:=by first|exact .inl rfl|exact .inr rfl|assumption):PG X (.Name x pos) (cu i):=by
 intro pins s σ H v u Q I r h;exact wpAny_assign_Name (gv I hN hi hx r (fun s' I'=>⟨_,H,I',h⟩) hf)
def GU:Fh:=fun vs σ H Q=>vs=[]/\Q σ H
def uS(t:TG)(u:Fh):Fh:=fun vs σ H Q=>∃v r,vs=v::r/\t v σ H fun σ' H'=>u r σ' H' Q
theorem eC:Jz X [] GU:=by
 intro pins s σ H vs us Q I r h;obtain⟨e,h⟩:=h;subst e;cases r;exact assignInOrder_nil ⟨σ,H,I,h⟩
theorem bh{e:Expr}{es:List Expr}{t:TG}{u:Fh}(h1:PG X e t)(h2:Jz X es u)
  (hs:(assignEach (e::es) X.env).map (·.2)=assign e X.env::(assignEach es X.env).map (·.2):=by rfl):Jz X (e::es) (uS t u):=by
 intro pins s σ H vs us Q I r h;obtain⟨v,vr,e1,h⟩:=h;subst e1
 cases r with
 |cons r rr=>
  rw[hs];refine assignInOrder_cons (aV (h1 pins s σ H _ _ _ I r h) fun _ s1 ⟨σ1,H1,I1,q1⟩=>?_);exact h2 pins s1 σ1 H1 _ _ Q I1 rr q1
def C7(K:W.Frag)(n:Nat)(t:Fh):TG:=fun v σ H Q=>∃a xs,v= .ref a/\dH K H a xs/\xs.length=n/\t xs σ H Q
theorem F5{es:List Expr}{k:Nat}{t:Fh}{n:Nat}(hc:X.calm=true)(h:Jz X es t)
  (hn:(assignEach es X.env).length=n:=by rfl) (hst:(assignEach es X.env).findIdx? (·.1)=none:=by rfl):PG X (.Tuple es k pos) (C7 X.K n t):=by
 intro pins s σ H v u Q I r hw;obtain⟨a,xs,e1,hq,hl,hw⟩:=hw;subst e1;cases r;obtain⟨its,rv,ht,hz⟩:=I.tuple hq;refine assign_Tuple_tuple (I.ok.hd hc) ht (by simp[hn,←hl,rv.length]) hst fun h' hx=>?_;have I1:Inv X pins σ H {s with heap:=h'}:=I.kept (t':=s.toks) fun b o e=>hx b o (Mu (MN.lt_size e)) e;exact h pins _ σ H xs _ Q I1 (by simpa using rv) hw
def KU(to ti:TE)(t:GG):TG:=fun v σ H Q=>to σ H fun o H1=>ti σ H1 fun i H2=>t o i v H2 fun H3=>Q σ H3
theorem oY{o i:Expr}{to ti:TE}{t:GG}(ho:PE X o to)(hi:PE X i ti)(hs:JC X t)
  (ha:∀v,assign (.Subscript o i pos) X.env v=(do
   let ov←holding [v] (eval o X.env)
   let iv←holding [v,ov] (eval i X.env)
   standAt pos
   holding [v,ov,iv] (setItem ov iv v)
   release [v,ov,iv] []):=by intro _;rfl):PG X (.Subscript o i pos) (KU to ti t):=by
 intro pins s σ H v u Q I r h;rw[ha];refine MI (wpAny_holding (aV (ho pins s σ H _ I h) fun ov s1 ⟨x,H1,I1,r1,q1⟩=>?_));refine MI (wpAny_holding (aV (hi pins s1 σ H1 _ I1 q1) fun iv s2 ⟨y,H2,I2,r2,q2⟩=>?_));refine MI (wpAny_standAt (MI (wpAny_holding (aV (hs pins s2 σ H2 x y v ov iv u _ I2 r1 r2 r q2) fun _ s3 ⟨H3,I3,q3⟩=>?_))));exact wpAny_release ⟨σ,H3,I3,q3⟩
def uQ(te:TE)(g:TG):TS:=fun D σ H=>te σ H fun x H1=>g x σ H1 D.nx
theorem mB{tg e:Expr}{te:TE}{g:TG}(he:PE X e te)(hg:PG X tg g)(hs:swapsWithSole [tg] e pos.line X.env=pure false:=by rfl)(hw:swappedStores [tg] e X.env=pure none:=by rfl)
  (h1:(assignEach [tg] X.env).map (·.2)=[assign tg X.env]:=by rfl):PS X (.Assign [tg] e pos) (uQ te g):=by
 intro pins s σ H D I h;refine wpAny_Assign_stores (aV (he pins s σ H _ I h) fun v s1 ⟨x,H1,I1,r1,q1⟩=>?_) hs hw;rw[h1];exact aV (hg pins s1 σ H1 x v _ I1 r1 q1) fun _ s2 q=>q
theorem aw{i:Nat}{x:Str}{e:Expr}{te:TE}{pos':Pos}(hN:X.N.Nodup)(hi:X.N[i]?=some x)(hx:Loc X.env.scope x)(he:PE X e te)(hs:swapsWith e (some (.Name x pos')) pos.line X.env=pure false:=by rfl)(hf:X.fn x=true\/X.env.scope.names.lookup x=some .local:=by first|exact .inl rfl|exact .inr rfl|assumption):
  PS X (.Assign [.Name x pos'] e pos) (uQ te (cu i)):=by
 intro pins s σ H D I h;refine wpAny_Assign_Name (aV (he pins s σ H _ I h) fun v s1 ⟨y,H1,I1,r1,q1⟩=>?_) hs;exact gv I1 hN hi hx r1 (fun s2 I2=>⟨_,H1,I2,q1⟩) hf
def Kt(i j:Nat)(ta:TA):TS:=fun D σ H=>ta σ H fun vs H1=>∃v w,vs=[v,w]/\D.nx ((σ.set i (some v)).set j (some w)) H1
theorem Gs{i j:Nat}{x y:Str}{a b:Expr}{ta:TA}{px py pt:Pos}{kt k2 pt2}(hc:X.calm=true)(hN:X.N.Nodup)(hi:X.N[i]?=some x)(hj:X.N[j]?=some y)(hij:i≠j)
  (hx:X.env.scope.names.lookup x=some .local) (hy:X.env.scope.names.lookup y=some .local) (ha:PA X [a,b] ta)
  (hw:swappedStores [.Tuple [.Name x px,.Name y py] kt pt] (.Tuple [a,b] k2 pt2) X.env=pure (some [x,y]))
  (hs:swapsWithSole [.Tuple [.Name x px,.Name y py] kt pt] (.Tuple [a,b] k2 pt2) pos.line X.env=pure false:=by rfl):
  PS X (.Assign [.Tuple [.Name x px,.Name y py] kt pt] (.Tuple [a,b] k2 pt2) pos) (Kt i j ta):=by
 intro pins s σ H D I h;rw[exec_Assign_arm];refine MI (wpAny_standAt ?_);rw[hs];refine MI (MJ ?_);rw[if_neg (by decide)];refine MI (Tuple_ (aV (ha _ pins s σ H _ I h) fun us s1 ⟨vs,H1,I1,r1,q1⟩=>?_));obtain⟨v,w,e1,q1⟩:=q1;subst e1;obtain⟨u1,u2,rfl,rv,rw'⟩:∃u1 u2,us=[u1,u2]/\RelV v u1/\RelV w u2:=by
  cases r1 with
  |cons p q=>
   cases q with
   |cons p' q'=>
    cases q';exact⟨_,_,rfl,p,p'⟩
 refine wpAny_newObj_type ?_ (by show 2<=MG;decide);have I2:Inv X pins σ H1 {s1 with heap:=s1.heap.push {cls:= .type "tuple",data:= .seq [u1,u2].toArray}}:=I1.kept (t':=s1.toks) fun b o e=>MN.get?_push_of_some _ e;rw[hw];refine MI (MJ ?_);show MP (model X.prog X.w) X.A (do rule "assign.swapped-stores";let items←unpackItems (.ref s1.heap.objs.size) 2 none;assignInOrder [fun v=>bindName X.env y v,fun v=>bindName X.env x v] items.reverse;pure Flow.next) _ _ _;refine MI (wpAny_rule (MI (unpackItems_tuple (items:= #[u1,u2]) (I.ok.hd hc) (IsTup.new s1.heap _) fun h' hx'=>?_)));have I3:=I2.kept (h':=h') (t':=s1.toks) fun b o e=>hx' b o (Mu (MN.lt_size e)) e;show MP _ _ (assignInOrder [fun v=>bindName X.env y v,fun v=>bindName X.env x v] [u2,u1]>>=fun _=>pure Flow.next) _ _ _;refine MI (assignInOrder_cons (wpAny_bindName (gv I3 hN hj (.inl hy) rw' (fun s2 I4=>?_) (.inr hy))));refine assignInOrder_cons (wpAny_bindName (gv I4 hN hi (.inl hx) rv (fun s3 I5=>assignInOrder_nil (MJ ?_)) (.inr hx)));rw[List.set_comm _ _ (Ne.symm hij)]at I5;exact⟨_,H1,I5,q1⟩
end
section
variable{X:Cx}{pos:Pos}
def FW(c:TT)(tb:TS):TS:=fun D σ H=>∃W:Nat->St->Hp->Prop,(∃m,W m σ H)/\∀m σ H,W m σ H->
 c σ H fun b H1=>if b=true then∃N:St->Hp->Prop,(∀σ' H',N σ' H'->∃m',m'<m/\W m' σ' H')/\tb {D with nx:=N,ct:=N,bk:=D.nx} σ H1 else D.nx σ H1
theorem vB{c:Expr}{body:List MQ}{tc:TT}{tb:TS}(hp:PassesOwn (model X.prog X.w) X.A X.env X.xe)(hc:PT X c tc)(hb:pX X body tb):PS X (.While c body [] pos) (FW tc tb):=by
 intro pins s σ H D I h;obtain⟨W,⟨m0,w0⟩,turn⟩:=h;refine wpAny_While (codeAny_whileLoop (fun n s'=>∃σ' H',Inv X pins σ' H' s'/\W n σ' H') ?_ m0 ⟨σ,H,I,w0⟩);rintro n s1 ⟨σ1,H1,I1,w1⟩;refine wpAny_passesOwn hp (aV (hc pins s1 σ1 H1 _ I1 (turn n σ1 H1 w1)) fun b s2 ⟨H2,I2,q2⟩=>?_)
 cases b with
 |true=>
  obtain⟨N,hN,q2⟩:=q2;rw[if_pos rfl];refine wpAny_passesOwn hp (aV (hb pins s2 σ1 H2 _ I2 q2) fun f s3 q3=>?_)
  cases f with
  |next=>
   obtain⟨σ3,H3,I3,n3⟩:=q3;obtain⟨m',hm,w3⟩:=hN σ3 H3 n3;exact⟨m',hm,σ3,H3,I3,w3⟩
  |cont=>
   obtain⟨σ3,H3,I3,n3⟩:=q3;obtain⟨m',hm,w3⟩:=hN σ3 H3 n3;exact⟨m',hm,σ3,H3,I3,w3⟩
  |brk=>exact q3
  |ret v=>exact q3
 |false=>
  rw[if_neg Mx];exact wpAny_execs_nil ⟨σ1,H2,I2,q2⟩
end
structure It where
 go:Nat->Hp->Prop
 Aw:Nat->Hp->V->Hp->Prop
 stop:Nat->Hp->Prop
def ik(X:Cx)(pins:List (MB×Obj))(H:Hp)(b:MB):Prop:=
 H b=none/\b≠X.env.locals/\b∉X.fs/\(b∈X.ex\/X.s₀.heap.objs.size<=b)/\(∀x c,X.env.cells.lookup x=some c->c≠b)/\∀p∈X.pn++pins,p.1≠b
theorem Inv.pZ {X:Cx}{pins:List (MB×Obj)}{σ:St}{H H':Hp}{s:MC}{b:MB}(I:Inv X pins σ H s)(hb:s.heap.objs.size<=b)(hn:H' b=none):ik X pins H' b:=by
 refine⟨hn,Nat.ne_of_gt (Mt I.lt hb),I.Jc hb,.inr (Mv I.sz hb),fun x c e z=>?_,fun p hp z=>?_⟩
 .obtain⟨v,q⟩:=I.cell x c e
  exact absurd (Mt q.lt (by rw[z];exact hb)) (Nat.lt_irrefl _)
 .exact absurd (Mt (MN.lt_size (I.pin p hp).1) (by rw[z];exact hb)) (Nat.lt_irrefl _)
structure Turn(P:MD)(w:ME)(K:W.Frag)(tg:Expr)(J:It)(fp:List MB)(it:MB)(tn:Nat->MN->Prop):Prop where
 mem:it∈fp
 obj:∀i h,tn i h->∀b∈fp,∃o,h.get? b=some o/\∀v,o.data≠.cell v
 keep:∀i h h',tn i h->(∀b∈fp,∀o,h.get? b=some o->h'.get? b=some o)->tn i h'
 item:∀(X:Cx),X.prog=P->X.w=w->X.K=K->X.calm=true->∀(i:Nat)(pins:List (MB×Obj))(s:MC)(σ:St)(H:Hp)(E:MA->MC->Prop),Inv X pins σ H s->(∀b∈fp,ik X pins H b)->tn i s.heap->J.go i H->
  MP (model P w) X.A (pyNext (.ref it)) (fun r s1=>∃u,r=some u/\
   MP (model P w) X.A (letOwnedTupleGo tg (.ref it) u) (fun _ s2=>∃x H',Inv X pins σ H' s2/\RelV x u/\J.Aw i H x H'/\tn (i+1) s2.heap/\∀b∈fp,H' b=none) E s1) E s
 done:∀(X:Cx),X.prog=P->X.w=w->X.K=K->X.calm=true->∀(i:Nat)(pins:List (MB×Obj))(s:MC)(σ:St)(H:Hp)(E:MA->MC->Prop),Inv X pins σ H s->(∀b∈fp,ik X pins H b)->tn i s.heap->J.stop i H->
  MP (model P w) X.A (pyNext (.ref it)) (fun r s1=>r=none/\Inv X pins σ H s1) E s
 self:∀(A:MF)(i:Nat)(s:MC)(Q:MA->MC->Prop)(E:MA->MC->Prop),tn i s.heap->Q (.ref it) s->MP (model P w) A (pyIter (.ref it)) Q E s
abbrev TI:=St->Hp->(It->Hp->Prop)->Prop
def HQ(X:Cx)(pins:List (MB×Obj))(σ:St)(tg:Expr)(R:It->Hp->Prop)(itv:MA)(s2:MC):Prop:=
 ∃(it:MB)(fp:List MB)(tn:Nat->MN->Prop)(J:It)(H':Hp),itv= .ref it/\Inv X pins σ H' s2/\Turn X.prog X.w X.K tg J fp it tn/\tn 0 s2.heap/\(∀b∈fp,ik X pins H' b)/\R J H'
def PI(X:Cx)(tg iter:Expr)(wi:TI):Prop:=
 ∀(pins:List (MB×Obj))(s:MC)(σ:St)(H:Hp)(R:It->Hp->Prop),Inv X pins σ H s->wi σ H R->
  MP (model X.prog X.w) X.A (eval iter X.env) (fun v s1=>MP (model X.prog X.w) X.A (pyIter v) (HQ X pins σ tg R) X.xe s1) X.xe s
theorem rP{M:Model}{A:MF}{E:MA->MC->Prop}{s:MC}{tg:Expr}{it:MB}{u:MA}{o:Obj}{n:String}{vs:Array MA}{Q:Unit->MC->Prop}(ho:s.heap.get? it=some o)(hc:o.cls= .type n)(hd:o.data= .fields vs)
  (hn:["enumerate","zip","dict_itemiterator","dict_reverseitemiterator","odict_iterator","itertools.zip_longest","itertools.pairwise"].contains n=false) (hQ:Q () s):MP M A (letOwnedTupleGo tg (.ref it) u) Q E s:=by
 unfold letOwnedTupleGo;cases tg<;>first
  |exact MJ hQ
  |(cases u<;>first
    |exact MJ hQ
    |(refine MI (wpAny_load ho ?_)
      rw[hc,hd];show MP M A (if(["enumerate","zip","dict_itemiterator","dict_reverseitemiterator","odict_iterator","itertools.zip_longest","itertools.pairwise"].contains n&&vs[0]?==some (rawInt _))=true then _ else _) Q E s;rw[if_neg (by intro h;rw[hn,Bool.false_and]at h;cases h)];exact MJ hQ))
def Ay(K:W.Frag)(a:MB):It:=
 ⟨fun i H=>∃xs x,aG K H a xs/\xs[i]?=some x,fun i H x H'=>H'=H/\∀xs,aG K H a xs->xs[i]?=some x,fun i H=>∃xs,aG K H a xs/\xs.length<=i⟩
def Kf(K:W.Frag)(a:MB):It:=
 ⟨fun i H=>∃xs x,dH K H a xs/\xs[i]?=some x,fun i H x H'=>H'=H/\∀xs,dH K H a xs->xs[i]?=some x,fun i H=>∃xs,dH K H a xs/\xs.length<=i⟩
def Fm(lo:Int)(n:Nat):It:=⟨fun i _=>i<n,fun i H x H'=>H'=H/\x= .int (lo+i),fun i _=>n<=i⟩
theorem zX{P:MD}{w:ME}{K:W.Frag}{tg:Expr}(a it:MB):Turn P w K tg (Ay K a) [it] it (fun i h=>h.IsListIter it a i)where
 mem:=by simp
 obj:=fun i h st b hb=>by
  have e:b=it:=by simpa using hb
  subst e;obtain⟨o,e,c,d⟩:=st;exact⟨o,e,fun v z=>by rw[d]at z;cases z⟩
 keep:=fun i h h' st k=>st.at fun o e=>k it (by simp) o e
 item:=by
  intro X hP hw hK hc i pins s σ H E I hf st hg;subst hP hw hK;obtain⟨xs,x,hq,hx⟩:=hg;obtain⟨its,rv,p,hz⟩:=I.list hq;obtain⟨u,hu,ru⟩:=rv.get hx;obtain⟨f0,f1,f2,f3,f4,f5⟩:=hf it (by simp);refine wpAny_pyNext_list_item st p.isList (x:=u) (by simpa using hu) fun h' st' sb=>?_;have I1:Inv X pins σ H {s with heap:=h'}:=I.turned (t':=s.toks) (fun b o hb e=>(sb.2 b hb).trans e) f0 f1 f3 f4 f5;obtain⟨o,e,c,d⟩:=id st';exact⟨u,rfl,rP (s:={s with heap:=h'}) e c d (by decide) ⟨x,H,I1,ru,⟨rfl,fun ys hy=>by rw[I.CL hy hq];exact hx⟩,st',fun b hb=>(hf b hb).1⟩⟩
 done:=by
  intro X hP hw hK hc i pins s σ H E I hf st hg;subst hP hw hK;obtain⟨xs,hq,hx⟩:=hg;obtain⟨its,rv,p,hz⟩:=I.list hq;obtain⟨f0,f1,f2,f3,f4,f5⟩:=hf it (by simp);have hl:=rv.length;exact wpAny_pyNext_list_end (I.ok.hd hc) st p.isList (by simp;lia) fun h' eb=>⟨rfl,I.turned (t':=s.toks) (fun b o hb e=>eb b o hb e) f0 f1 f3 f4 f5⟩
 self:=fun _ _ _ _ _ st h=>wpAny_pyIter_listiter st h
theorem wN{P:MD}{w:ME}{K:W.Frag}{tg:Expr}(a it:MB):Turn P w K tg (Kf K a) [it] it (fun i h=>h.IsTupleIter it a i)where
 mem:=by simp
 obj:=fun i h st b hb=>by
  have e:b=it:=by simpa using hb
  subst e;obtain⟨o,e,c,d⟩:=st;exact⟨o,e,fun v z=>by rw[d]at z;cases z⟩
 keep:=fun i h h' st k=>st.at fun o e=>k it (by simp) o e
 item:=by
  intro X hP hw hK hc i pins s σ H E I hf st hg;subst hP hw hK;obtain⟨xs,x,hq,hx⟩:=hg;obtain⟨its,rv,p,hz⟩:=I.tuple hq;obtain⟨u,hu,ru⟩:=rv.get hx;obtain⟨f0,f1,f2,f3,f4,f5⟩:=hf it (by simp);refine wpAny_pyNext_tuple_item st (show s.heap.IsTuple a its.toArray from p) (x:=u) (by simpa using hu) fun h' st' sb=>?_;have I1:Inv X pins σ H {s with heap:=h'}:=I.turned (t':=s.toks) (fun b o hb e=>(sb.2 b hb).trans e) f0 f1 f3 f4 f5;obtain⟨o,e,c,d⟩:=id st';exact⟨u,rfl,rP (s:={s with heap:=h'}) e c d (by decide) ⟨x,H,I1,ru,⟨rfl,fun ys hy=>by rw[I.zi hy hq];exact hx⟩,st',fun b hb=>(hf b hb).1⟩⟩
 done:=by
  intro X hP hw hK hc i pins s σ H E I hf st hg;subst hP hw hK;obtain⟨xs,hq,hx⟩:=hg;obtain⟨its,rv,p,hz⟩:=I.tuple hq;obtain⟨f0,f1,f2,f3,f4,f5⟩:=hf it (by simp);have hl:=rv.length;exact wpAny_pyNext_tuple_end (I.ok.hd hc) st (show s.heap.IsTuple a its.toArray from p) (by simp;lia) fun h' eb=>⟨rfl,I.turned (t':=s.toks) (fun b o hb e=>eb b o hb e) f0 f1 f3 f4 f5⟩
 self:=fun _ _ _ _ _ st h=>wpAny_pyIter_tupleiter st h
theorem xH{P:MD}{w:ME}{K:W.Frag}{tg:Expr}(it:MB)(lo:Int)(n:Nat):Turn P w K tg (Fm lo n) [it] it (fun i h=>IsRangeIter h it (lo+(i:Nat)*1) ((n:Int)-(i:Nat)) 1)where
 mem:=by simp
 obj:=fun i h st b hb=>by
  have e:b=it:=by simpa using hb
  subst e;exact⟨_,st,fun v z=>by
   have z':Data.fields _=Data.cell v:=z;cases z'⟩
 keep:=fun i h h' st k=>k it (by simp) _ st
 item:=by
  intro X hP hw hK hc i pins s σ H E I hf st hg;subst hP hw hK;obtain⟨f0,f1,f2,f3,f4,f5⟩:=hf it (by simp);have W:=Walks.range (prog:=X.prog) (w:=X.w) (I.ok.hd hc) it lo 1 n;refine W.item i s _ _ hg st fun v h' tk hv st' kk=>?_;obtain⟨t,rfl⟩:=hv;have I1:Inv X pins σ H {s with heap:=h',toks:=tk}:=I.turned (fun b o hb e=>kk b o (by simpa using hb) e) f0 f1 f3 f4 f5;refine⟨_,rfl,rP (s:={s with heap:=h',toks:=tk}) (n:= "range_iterator") st' rfl rfl (by decide) ⟨.int (lo+i),H,I1,⟨t,?_⟩,⟨rfl,rfl⟩,st',fun b hb=>(hf b hb).1⟩⟩;rw[Int.mul_one]
 done:=by
  intro X hP hw hK hc i pins s σ H E I hf st hg;subst hP hw hK;obtain⟨f0,f1,f2,f3,f4,f5⟩:=hf it (by simp);exact wpAny_pyNext_range_end (I.ok.hd hc) st (by have:n<=i:=hg;lia) fun h' eb=>⟨rfl,I.turned (t':=s.toks) (fun b o hb e=>eb b o hb e) f0 f1 f3 f4 f5⟩
 self:=fun _ _ _ _ _ st h=>wpAny_pyIter_rangeiter st h
section
variable{X:Cx}{tg:Expr}
def Fv(K:W.Frag)(tl:TE):TI:=fun σ H R=>tl σ H fun x H1=>∃a,x= .ref a/\(∃xs,aG K H1 a xs)/\R (Ay K a) H1
def Iv(K:W.Frag)(tl:TE):TI:=fun σ H R=>tl σ H fun x H1=>∃a,x= .ref a/\(∃xs,dH K H1 a xs)/\R (Kf K a) H1
theorem ED{l:Expr}{tl:TE}(hl:PE X l tl):PI X tg l (Fv X.K tl):=by
 intro pins s σ H R I h;refine aV (hl pins s σ H _ I h) fun v s1 ⟨x,H1,I1,r1,q1⟩=>?_;obtain⟨a,e,⟨xs,hq⟩,q⟩:=q1;subst e;cases r1;obtain⟨its,rv,p,hz⟩:=I1.list hq;refine wpAny_pyIter_list p.isList ?_;refine⟨s1.heap.objs.size,[s1.heap.objs.size],_,_,H1,rfl,I1.kept (t':=s1.toks) fun b o e=>MN.get?_push_of_some _ e,zX a _,⟨_,MN.get?_push_size _ rfl,rfl,rfl⟩,fun b hb=>?_,q⟩;have e:b=s1.heap.objs.size:=by simpa using hb
 subst e;exact I1.pZ (Ms _) (I1.bc.fresh (Ms _))
theorem Gx{l:Expr}{tl:TE}(hl:PE X l tl):PI X tg l (Iv X.K tl):=by
 intro pins s σ H R I h;refine aV (hl pins s σ H _ I h) fun v s1 ⟨x,H1,I1,r1,q1⟩=>?_;obtain⟨a,e,⟨xs,hq⟩,q⟩:=q1;subst e;cases r1;obtain⟨its,rv,p,hz⟩:=I1.tuple hq;refine wpAny_pyIter_tuple (show s1.heap.IsTuple a its.toArray from p) ?_;refine⟨s1.heap.objs.size,[s1.heap.objs.size],_,_,H1,rfl,I1.kept (t':=s1.toks) fun b o e=>MN.get?_push_of_some _ e,wN a _,⟨_,MN.get?_push_size _ rfl,rfl,rfl⟩,fun b hb=>?_,q⟩;have e:b=s1.heap.objs.size:=by simpa using hb
 subst e;exact I1.pZ (Ms _) (I1.bc.fresh (Ms _))
theorem u7{pins:List (MB×Obj)}{σ:St}{H:Hp}{s:MC}{R:It->Hp->Prop}{E:MA->MC->Prop}{lo hi:Int}{t u v:Tok}{tk:Nat}(I:Inv X pins σ H s)(h1: -(2^62)<=lo)(h2:lo<2^62)(h3: -(2^62)<=hi)(h4:hi<2^62)
  (q:R (Fm lo (hi-lo).toNat) H):MP (model X.prog X.w) X.A (pyIter (.ref s.heap.objs.size)) (HQ X pins σ tg R) E {s with heap:=s.heap.push {cls:= .type "range",data:= .fields #[.int lo t,.int hi u,.int 1 v]},toks:=tk}:=by
 refine wpAny_pyIter_range (IsRange.new ..) (small_one h1 h2 h3 h4) ?_;have I1:Inv X pins σ H {s with heap:=s.heap.push {cls:= .type "range",data:= .fields #[.int lo t,.int hi u,.int 1 v]},toks:=tk}:=I.kept fun b o e=>MN.get?_push_of_some _ e;refine⟨(s.heap.push {cls:= .type "range",data:= .fields #[.int lo t,.int hi u,.int 1 v]}).objs.size,[(s.heap.push {cls:= .type "range",data:= .fields #[.int lo t,.int hi u,.int 1 v]}).objs.size],_,_,H,rfl,
  I1.kept (t':=tk) fun b o e=>MN.get?_push_of_some _ e,xH _ lo (hi-lo).toNat,?_,fun b hb=>?_,q⟩
 .have e1:lo+((0:Nat):Int)*1=lo:=by simp
  have e2:(((hi-lo).toNat:Nat):Int)-((0:Nat):Int)=MS.Range.rangeSize lo hi 1:=by rw[rangeSize_one];split<;>lia
  show IsRangeIter _ _ (lo+((0:Nat):Int)*1) ((((hi-lo).toNat:Nat):Int)-((0:Nat):Int)) 1;rw[e1,e2];exact MN.get?_push_size _ rfl
 .have e:b=(s.heap.push {cls:= .type "range",data:= .fields #[.int lo t,.int hi u,.int 1 v]}).objs.size:=by simpa using hb
  subst e;exact I1.pZ (Ms _) (I1.bc.fresh (Ms _))
def JL(ta:TA):TI:=fun σ H R=>ta σ H fun vs H1=>∃j:Int,vs=[.int j]/\-(2^62)<=j/\j<2^62/\R (Fm 0 j.toNat) H1
def IS(ta:TA):TI:=fun σ H R=>ta σ H fun vs H1=>∃i j:Int,vs=[.int i,.int j]/\(-(2^62)<=i/\i<2^62/\-(2^62)<=j/\j<2^62)/\R (Fm i (j-i).toNat) H1
theorem cN{a:Expr}{ta:TA}{p pos:Pos}(hg:Gl X "range")(hm:X.mg "range" =none)(ha:PA X [a] ta)(hs:ML [a] X.env=[(false,eval a X.env)]:=by rfl):PI X tg (.Call (.Name "range" p) [a] [] pos) (JL ta):=by
 intro pins s σ H R I h;refine Call_ (jv I hg hm boot_range (PyProof.Rows.callWith_type1 (aV (ha pos pins s σ H _ I h) fun us s1 ⟨vs,H1,I1,r1,q1⟩=>?_) hs rfl));obtain⟨j,e,q1,q2,q⟩:=q1;subst e
 cases r1 with
 |cons r rr=>
  cases rr;obtain⟨t,rfl⟩:=r;exact call_range_1 (u7 I1 (by lia) (by lia) q1 q2 (by simpa using q))
theorem jT{a b:Expr}{ta:TA}{p pos:Pos}(hg:Gl X "range")(hm:X.mg "range" =none)(ha:PA X [a,b] ta)(hs:ML [a,b] X.env=[(false,eval a X.env),(false,eval b X.env)]:=by rfl)(hs2:ML [b] X.env=[(false,eval b X.env)]:=by rfl):
  PI X tg (.Call (.Name "range" p) [a,b] [] pos) (IS ta):=by
 intro pins s σ H R I h;refine Call_ (jv I hg hm boot_range (PyProof.Rows.callWith_type1 (aV (ha pos pins s σ H _ I h) fun us s1 ⟨vs,H1,I1,r1,q1⟩=>?_) (by rw[hs,hs2]) (by rw[hs2];rfl)));obtain⟨i,j,e,⟨q1,q2,q3,q4⟩,q⟩:=q1;subst e
 cases r1 with
 |cons r rr=>
  cases rr with
  |cons r' rr=>
   cases rr;obtain⟨t,rfl⟩:=r;obtain⟨t',rfl⟩:=r';exact call_range_2 (u7 I1 q1 q2 q3 q4 q)
def KJ(wi:TI)(g:TG)(tb:TS):TS:=fun D σ H=>wi σ H fun J H1=>∃W:Nat->Nat->St->Hp->Prop,(∃m,W 0 m σ H1)/\∀i m σ H,W i m σ H->
 (J.stop i H/\D.nx σ H)\/(J.go i H/\∃N:St->Hp->Prop,(∀σ' H',N σ' H'->∃m',m'<m/\W (i+1) m' σ' H')/\∀x H',J.Aw i H x H'->g x σ H' fun σ2 H2=>tb {D with nx:=N,ct:=N,bk:=D.nx} σ2 H2)
def gQ(fp:List MB)(h:MN):List (MB×Obj):=fp.filterMap fun b=>(h.get? b).map fun o=>(b,o)
theorem bW{fp:List MB}{h:MN}{b:MB}{o:Obj}(hb:b∈fp)(e:h.get? b=some o):(b,o)∈gQ fp h:=List.mem_filterMap.mpr ⟨b,hb,by rw[e];rfl⟩
theorem rS{fp:List MB}{h:MN}{p:MB×Obj}(hp:p∈gQ fp h):p.1∈fp/\h.get? p.1=some p.2:=by
 obtain⟨b,hb,e⟩:=List.mem_filterMap.mp hp
 cases q:h.get? b with
 |none=>rw[q]at e;cases e
 |some o=>
  rw[q]at e;have e':(b,o)=p:=My e;subst e';exact⟨hb,q⟩
theorem Inv.pinned {pins:List (MB×Obj)}{σ:St}{H:Hp}{s:MC}{fp:List MB}(I:Inv X pins σ H s)(hf:∀b∈fp,ik X pins H b)(ho:∀b∈fp,∃o,s.heap.get? b=some o/\∀v,o.data≠.cell v):Inv X (pins++gQ fp s.heap) σ H s:=
 I.kX fun p hp=>(List.mem_append.mp hp).elim (fun z=>I.pin p (Mj _ z)) fun z=>by
  obtain⟨hb,e⟩:=rS z;obtain⟨f0,f1,f2,_⟩:=hf p.1 hb;obtain⟨o,e',d⟩:=ho p.1 hb;rw[e]at e';cases e';exact⟨e,f0,f1,f2,d⟩
theorem Inv.cD {pins pl:List (MB×Obj)}{σ:St}{H:Hp}{s:MC}(I:Inv X (pins++pl) σ H s):Inv X pins σ H s:=I.kX fun p hp=>I.pin p (Mj _ (Ml _ hp))
theorem dE{iter:Expr}{body:List MQ}{wi:TI}{g:TG}{tb:TS}{pos:Pos}(hp:PassesOwn (model X.prog X.w) X.A X.env X.xe)(hc:X.calm=true)(hi:PI X tg iter wi)(hg:PG X tg g)(hb:pX X body tb)
  (hs:∀x,foldedSetIterable iter X.env x=pure x:=by intro _;rfl):PS X (.For tg iter body [] pos) (KJ wi g tb):=by
 intro pins s σ H D I h;refine wpAny_For (aV (hi pins s σ H _ I h) fun v s1 h1=>aV h1 fun itv s2 h2=>?_) hs;obtain⟨it,fp,tn,J,H2,e,I2,T,st2,f2,W,⟨m0,w0⟩,turn⟩:=h2;subst e;have stat:∀{H':Hp},(∀b∈fp,H' b=none)->∀b∈fp,ik X pins H' b:=fun hn b hb=>⟨hn b hb,(f2 b hb).2⟩;refine codeAny_forLoop_any (fun n s'=>∃i σ' H',Inv X pins σ' H' s'/\tn i s'.heap/\(∀b∈fp,H' b=none)/\W i n σ' H') ?_ m0 ⟨0,σ,H2,I2,st2,fun b hb=>(f2 b hb).1,w0⟩;rintro n s3 ⟨i,σ3,H3,I3,st3,fr3,w3⟩;rcases turn i n σ3 H3 w3 with⟨stop,qn⟩|⟨go,N,hN,step⟩
 .refine wpAny_passesOwn hp (aV (T.done X rfl rfl rfl hc i pins s3 σ3 H3 X.xe I3 (stat fr3) st3 stop) fun r s4 ⟨hr,I4⟩=>?_)
  subst hr;exact wpAny_execs_nil ⟨σ3,H3,I4,qn⟩
 .refine wpAny_passesOwn hp (aV (T.item X rfl rfl rfl hc i pins s3 σ3 H3 X.xe I3 (stat fr3) st3 go) fun r s4 ⟨u,hr,h4⟩=>?_)
  subst hr;refine wpAny_passesOwn hp (aV h4 fun _ s5 ⟨x,H5,I5,r5,y5,st5,fr5⟩=>?_);have I5':=I5.pinned (stat fr5) (T.obj _ _ st5);refine wpAny_passesOwn hp (aV (hg _ s5 σ3 H5 x u _ I5' r5 (step x H5 y5)) fun _ s6 ⟨σ6,H6,I6,q6⟩=>?_);refine wpAny_passesOwn hp (aV (hb _ s6 σ6 H6 _ I6 q6) fun f s7 q7=>?_);have again:∀{σ7:St}{H7:Hp},Inv X (pins++gQ fp s5.heap) σ7 H7 s7->N σ7 H7->∃m,m<n/\∃i σ' H',Inv X pins σ' H' s7/\tn i s7.heap/\(∀b∈fp,H' b=none)/\W i m σ' H':=fun{σ7 H7} I7 n7=>by
   obtain⟨m',hm,w7⟩:=hN σ7 H7 n7;refine⟨m',hm,i+1,σ7,H7,I7.cD,T.keep _ _ _ st5 fun b hb o e=>(I7.pin (b,o) (Mj _ (Mj _ (bW hb e)))).1,fun b hb=>?_,w7⟩;obtain⟨o,e,d⟩:=T.obj _ _ st5 b hb;exact(I7.pin (b,o) (Mj _ (Mj _ (bW hb e)))).2.1
  cases f with
  |next=>obtain⟨σ7,H7,I7,n7⟩:=q7;exact again I7 n7
  |cont=>obtain⟨σ7,H7,I7,n7⟩:=q7;exact again I7 n7
  |brk=>obtain⟨σ7,H7,I7,q7⟩:=q7;exact⟨σ7,H7,I7.cD,q7⟩
  |ret v=>obtain⟨x7,σ7,H7,I7,r7,q7⟩:=q7;exact⟨x7,σ7,H7,I7.cD,r7,q7⟩
end
theorem ig{K:W.Frag}{a:MB}{xs:List V}{g:TG}{tb:TS}{D:Ends}{σ:St}{H:Hp}(Pv:Nat->St->Hp->Prop)(h0:Pv 0 σ H)(hl:∀i σ H,i<=xs.length->Pv i σ H->aG K H a xs)
  (hs:∀i x σ H,xs[i]?=some x->Pv i σ H->g x σ H fun σ2 H2=>tb {D with nx:=Pv (i+1),ct:=Pv (i+1),bk:=D.nx} σ2 H2) (hd:∀σ H,Pv xs.length σ H->D.nx σ H):
  ∃W:Nat->Nat->St->Hp->Prop,(∃m,W 0 m σ H)/\∀i m σ H,W i m σ H->
   ((Ay K a).stop i H/\D.nx σ H)\/((Ay K a).go i H/\∃N:St->Hp->Prop,(∀σ' H',N σ' H'->∃m',m'<m/\W (i+1) m' σ' H')/\∀x H',(Ay K a).Aw i H x H'->g x σ H' fun σ2 H2=>tb {D with nx:=N,ct:=N,bk:=D.nx} σ2 H2):=by
 refine⟨fun i m σ H=>m=xs.length-i/\i<=xs.length/\Pv i σ H,⟨xs.length,by simp,Mw _,h0⟩,?_⟩;rintro i m σ H ⟨rfl,hi,p⟩;have q:=hl i σ H hi p;by_cases hlt:i<xs.length
 .refine .inr ⟨⟨xs,xs[i],q,by simp[hlt]⟩,Pv (i+1),fun σ' H' p'=>⟨xs.length-(i+1),by lia,rfl,hlt,p'⟩,fun x H' y=>?_⟩
  obtain⟨e,y⟩:=y;subst e;exact hs i x σ _ (y xs q) p
 .have e:i=xs.length:=by lia
  subst e;exact .inl ⟨⟨xs,q,Ms _⟩,hd σ H p⟩
theorem eU{lo:Int}{n:Nat}{g:TG}{tb:TS}{D:Ends}{σ:St}{H:Hp}(Pv:Nat->St->Hp->Prop)(h0:Pv 0 σ H)
  (hs:∀i σ H,i<n->Pv i σ H->g (.int (lo+i)) σ H fun σ2 H2=>tb {D with nx:=Pv (i+1),ct:=Pv (i+1),bk:=D.nx} σ2 H2) (hd:∀σ H,Pv n σ H->D.nx σ H):
  ∃W:Nat->Nat->St->Hp->Prop,(∃m,W 0 m σ H)/\∀i m σ H,W i m σ H->
   ((Fm lo n).stop i H/\D.nx σ H)\/((Fm lo n).go i H/\∃N:St->Hp->Prop,(∀σ' H',N σ' H'->∃m',m'<m/\W (i+1) m' σ' H')/\∀x H',(Fm lo n).Aw i H x H'->g x σ H' fun σ2 H2=>tb {D with nx:=N,ct:=N,bk:=D.nx} σ2 H2):=by
 refine⟨fun i m σ H=>m=n-i/\i<=n/\Pv i σ H,⟨n,by simp,Mw _,h0⟩,?_⟩;rintro i m σ H ⟨rfl,hi,p⟩;by_cases hlt:i<n
 .refine .inr ⟨hlt,Pv (i+1),fun σ' H' p'=>⟨n-(i+1),by lia,rfl,hlt,p'⟩,fun x H' y=>?_⟩
  obtain⟨e,y⟩:=y;subst e y;exact hs i σ _ hlt p
 .have e:i=n:=by lia
  subst e;exact .inl ⟨Ms _,hd σ H p⟩
abbrev R2:=V->V->Hp->VK->Prop
def j0(X:Cx)(f:MA->MA->Sem MA)(r:R2):Prop:=
 ∀(pins:List (MB×Obj))(s:MC)(σ:St)(H:Hp)(x y:V)(v u:MA)(Q:VK),Inv X pins σ H s->RelV x v->RelV y u->r x y H Q->
  MP (model X.prog X.w) X.A (f v u) (EP X pins σ Q) X.xe s
def KL(X:Cx)(f:MA->Sem MA)(r:V->Hp->VK->Prop):Prop:=
 ∀(pins:List (MB×Obj))(s:MC)(σ:St)(H:Hp)(x:V)(v:MA)(Q:VK),Inv X pins σ H s->RelV x v->r x H Q->
  MP (model X.prog X.w) X.A (f v) (EP X pins σ Q) X.xe s
def bX(X:Cx)(f:MA)(r:List V->Hp->VK->Prop):Prop:=
 ∀(pins:List (MB×Obj))(s:MC)(σ:St)(H:Hp)(xs:List V)(us:List MA)(Q:VK),Inv X pins σ H s->Vals xs us->r xs H Q->
  MP (model X.prog X.w) X.A (call f us) (EP X pins σ Q) X.xe s
def KI(X:Cx)(r:V->Hp->(Bool->Hp->Prop)->Prop):Prop:=
 ∀(pins:List (MB×Obj))(s:MC)(σ:St)(H:Hp)(x:V)(v:MA)(Q:Bool->Hp->Prop),Inv X pins σ H s->RelV x v->r x H Q->
  MP (model X.prog X.w) X.A (truthy v) (TP X pins σ Q) X.xe s
def E8(r:R2)(ta tb:TE):TE:=fun σ H Q=>ta σ H fun x H1=>tb σ H1 fun y H2=>r x y H2 Q
def LQ(r:V->Hp->VK->Prop)(ta:TE):TE:=fun σ H Q=>ta σ H fun x H1=>r x H1 Q
def rI(C:Int->Int->Prop)(g:Int->Int->V):R2:=fun x y H Q=>∃i j,x= .int i/\y= .int j/\C i j/\Q (g i j) H
def E9(g:Int->Int->V):R2:=fun x y H Q=>∃i j,x= .int i/\y= .int j/\Q (g i j) H
def rU(g:Int->V):V->Hp->VK->Prop:=fun x H Q=>∃i,x= .int i/\Q (g i) H
section
variable{X:Cx}{a b c:Expr}{ta tb tc:TE}{pos:Pos}
theorem GF(ha:PE X a ta)(hb:PE X b tb){pins:List (MB×Obj)}{s:MC}{σ:St}{H:Hp}{R:V->V->Hp->Prop}(I:Inv X pins σ H s)
  (h:ta σ H fun x H1=>tb σ H1 fun y H2=>R x y H2) {Q:MA->MC->Prop} {f:MA->MA->Sem MA}
  (hf:∀v u s2 x y H2,Inv X pins σ H2 s2->RelV x v->RelV y u->R x y H2->MP (model X.prog X.w) X.A (f v u) Q X.xe s2):
  MP (model X.prog X.w) X.A (eval a X.env) (fun v s₁=>MP (model X.prog X.w) X.A (eval b X.env) (fun u s₂=>MP (model X.prog X.w) X.A (f v u) Q X.xe s₂) X.xe s₁) X.xe s:=by
 refine aV (ha pins s σ H _ I h) fun v s1 ⟨x,H1,I1,r1,q1⟩=>?_;refine aV (hb pins s1 σ H1 _ I1 q1) fun u s2 ⟨y,H2,I2,r2,q2⟩=>?_;exact hf v u s2 x y H2 I2 r1 r2 q2
theorem av{op:Operator}{r:R2}(ho:j0 X (binaryOp op) r)(ha:PE X a ta)(hb:PE X b tb):PE X (.BinOp a op b pos) (E8 r ta tb):=by
 intro pins s σ H Q I h;exact wpAny_BinOp (GF ha hb I h fun v u s2 x y H2 I2 rx ry q=>ho pins s2 σ H2 x y v u Q I2 rx ry q)
theorem vR{op:UnaryOp}{r:V->Hp->VK->Prop}(ho:KL X (unaryOp op) r)(ha:PE X a ta):PE X (.UnaryOp op a pos) (LQ r ta):=by
 intro pins s σ H Q I h;exact UnaryOp_ (aV (ha pins s σ H _ I h) fun v s1 ⟨x,H1,I1,r1,q1⟩=>ho pins s1 σ H1 x v Q I1 r1 q1)
theorem JW{f:MA->MA->Sem MA}{C:Int->Int->Prop}{g:Int->Int->Int}
  (rule:∀(i j:Int)(t u:Tok)(s:MC)(Q:MA->MC->Prop)(E:MA->MC->Prop),C i j->Q (.int (g i j) s.toks) {s with toks:=s.toks+1}->MP (model X.prog X.w) X.A (f (.int i t) (.int j u)) Q E s):
  j0 X f (rI C fun i j=> .int (g i j)):=by
 intro pins s σ H x y v u Q I rx ry h;obtain⟨i,j,rfl,rfl,hc,q⟩:=h;obtain⟨t,rfl⟩:=rx;obtain⟨t',rfl⟩:=ry;exact rule i j t t' s _ _ hc ⟨.int (g i j),H,I.tok _,⟨_,rfl⟩,q⟩
theorem Ia{f:MA->MA->Sem MA}{g:Int->Int->Int}
  (rule:∀(i j:Int)(t u:Tok)(s:MC)(Q:MA->MC->Prop)(E:MA->MC->Prop),Q (.int (g i j) s.toks) {s with toks:=s.toks+1}->MP (model X.prog X.w) X.A (f (.int i t) (.int j u)) Q E s):
  j0 X f (E9 fun i j=> .int (g i j)):=by
 intro pins s σ H x y v u Q I rx ry h;obtain⟨i,j,rfl,rfl,q⟩:=h;obtain⟨t,rfl⟩:=rx;obtain⟨t',rfl⟩:=ry;exact rule i j t t' s _ _ ⟨.int (g i j),H,I.tok _,⟨_,rfl⟩,q⟩
theorem Dg{f:MA->MA->Sem MA}{g:Int->Int->Bool}
  (rule:∀(i j:Int)(t u:Tok)(s:MC)(Q:MA->MC->Prop)(E:MA->MC->Prop),Q (.bool (g i j)) s->MP (model X.prog X.w) X.A (f (.int i t) (.int j u)) Q E s):
  j0 X f (E9 fun i j=> .bl (g i j)):=by
 intro pins s σ H x y v u Q I rx ry h;obtain⟨i,j,rfl,rfl,q⟩:=h;obtain⟨t,rfl⟩:=rx;obtain⟨t',rfl⟩:=ry;exact rule i j t t' s _ _ ⟨.bl (g i j),H,I,rfl,q⟩
def KW(i j:Int):Prop:=0<=j/\j<=1000000/\i.natAbs<2^64
def GR(i j:Int):Prop:=(-(2^64)<i/\i<2^64)\/(-(2^64)<j/\j<2^64)
theorem GR.ok {i j:Int}(h:GR i j):IntMulOk i j:=by
 rcases h with⟨h1,h2⟩|⟨h1,h2⟩
 .exact .of_left (intBits_le_64 h1 h2)
 .exact .of_right (intBits_le_64 h1 h2)
theorem bp:j0 X (binaryOp .Add) (E9 fun i j=> .int (i+j)):=Ia fun _ _ _ _ _ _ _ q=>add_int q
theorem cO:j0 X (binaryOp .Sub) (E9 fun i j=> .int (i-j)):=Ia fun _ _ _ _ _ _ _ q=>sub_int q
theorem jj:j0 X (binaryOp .Mult) (rI GR fun i j=> .int (i*j)):=JW fun _ _ _ _ _ _ _ hc q=>mul_int q hc.ok
theorem dU:j0 X (binaryOp .Mod) (rI (fun _ j=>0<j) fun i j=> .int (i%j)):=JW fun i j _ _ _ _ _ hc q=>by
 have h1:(0:Int)<j:=hc;exact mod_int' (by lia) (by rw[Int.fmod_eq_emod_of_nonneg i (by lia)];exact q)
theorem xB:j0 X (binaryOp .Pow) (rI KW fun i j=> .int (i^j.toNat)):=JW fun _ _ _ _ _ _ _ hc q=>pow_int_small hc.1 hc.2.1 hc.2.2 q
theorem Ly{f:MA->Sem MA}{g:Int->Int}
  (rule:∀(i:Int)(t:Tok)(s:MC)(Q:MA->MC->Prop)(E:MA->MC->Prop),Q (.int (g i) s.toks) {s with toks:=s.toks+1}->MP (model X.prog X.w) X.A (f (.int i t)) Q E s):
  KL X f (rU fun i=> .int (g i)):=by
 intro pins s σ H x v Q I rx h;obtain⟨i,rfl,q⟩:=h;obtain⟨t,rfl⟩:=rx;exact rule i t s _ _ ⟨.int (g i),H,I.tok _,⟨_,rfl⟩,q⟩
theorem oz:KL X (unaryOp .USub) (rU fun i=> .int (-i)):=Ly fun _ _ _ _ _ q=>neg_int q
end
def IA:V->V->Bool
 | .cE,.cE=>true| .cE,.int _=>true| .int _,.cE=>true| .cE,.bl _=>true| .bl _,.cE=>true| .cE,.str _=>true| .str _,.cE=>true
 | .int _,.int _=>true| .bl _,.bl _=>true| .str _,.str _=>true| .byt _,.byt _=>true
 | .int _,.str _=>true| .str _,.int _=>true| .bl _,.str _=>true| .str _,.bl _=>true
 |_,_=>false
def LG:R2:=fun x y H Q=>IA x y=true/\Q (.bl (decide (x=y))) H
def LB:R2:=fun x y H Q=>IA x y=true/\Q (.bl (!decide (x=y))) H
theorem za{i j:Int}:decide (V.int i=V.int j)=(i==j):=by
 rw[Bool.eq_iff_iff];simp
theorem BV{i j:Bool}:decide (V.bl i=V.bl j)=(i==j):=by
 rw[Bool.eq_iff_iff];simp
theorem y6{i j:Str}:decide (V.str i=V.str j)=(i==j):=by
 rw[Bool.eq_iff_iff];simp
theorem y9{i j:Array UInt8}:decide (V.byt i=V.byt j)=(i.toList==j.toList):=by
 rw[Bool.eq_iff_iff];cases i;cases j;simp
section
variable{X:Cx}{a b c:Expr}{ta tb tc:TE}{pos:Pos}
theorem bt{pins:List (MB×Obj)}{σ:St}{H:Hp}{s:MC}{Q:VK}{k k':Bool}(I:Inv X pins σ H s)(q:Q (.bl k) H)(e:k=k'):EP X pins σ Q (.bool k') s:=by
 subst e;exact⟨.bl k,H,I,rfl,q⟩
theorem bY:j0 X (compareOp .Eq) LG:=by
 intro pins s σ H x y v u Q I rx ry h;obtain⟨hs,q⟩:=h
 cases x with
 |cE=>
  cases rx
  cases y with
  |cE=>cases ry;exact PySem.EqNone.eq_none_none (bt I q (by simp))
  |bl j=>cases ry;exact PySem.EqNone.eq_none_bool (bt I q (by simp))
  |int j=>obtain⟨t',rfl⟩:=ry;exact PySem.EqNone.eq_none_int (bt I q (by simp))
  |str j=>obtain⟨t',rfl⟩:=ry;exact PySem.EqNone.eq_none_str (bt I q (by simp))
  |_=>exact absurd (show false=true from hs) Mx
 |bl i=>
  cases rx
  cases y with
  |cE=>cases ry;exact PySem.EqNone.eq_bool_none (bt I q (by simp))
  |bl j=>cases ry;exact eq_bool (bt I q BV)
  |str j=>obtain⟨t',rfl⟩:=ry;exact PySem.EqMixed.eq_bool_str (bt I q (by simp))
  |_=>exact absurd (show false=true from hs) Mx
 |int i=>
  obtain⟨t,rfl⟩:=rx
  cases y with
  |cE=>cases ry;exact PySem.EqNone.eq_int_none (bt I q (by simp))
  |int j=>obtain⟨t',rfl⟩:=ry;exact eq_int (bt I q za)
  |str j=>obtain⟨t',rfl⟩:=ry;exact PySem.EqMixed.eq_int_str (bt I q (by simp))
  |_=>exact absurd (show false=true from hs) Mx
 |str i=>
  obtain⟨t,rfl⟩:=rx
  cases y with
  |cE=>cases ry;exact PySem.EqNone.eq_str_none (bt I q (by simp))
  |bl j=>cases ry;exact PySem.EqMixed.eq_str_bool (bt I q (by simp))
  |int j=>obtain⟨t',rfl⟩:=ry;exact PySem.EqMixed.eq_str_int (bt I q (by simp))
  |str j=>obtain⟨t',rfl⟩:=ry;exact eq_str (bt I q y6)
  |_=>exact absurd (show false=true from hs) Mx
 |byt i=>
  obtain⟨t,rfl⟩:=rx
  cases y with
  |byt j=>obtain⟨t',rfl⟩:=ry;exact W.eq_bytes (bt I q y9)
  |_=>exact absurd (show false=true from hs) Mx
 |_=>cases y<;>exact absurd (show false=true from hs) Mx
theorem gH:j0 X (compareOp .NotEq) LB:=by
 intro pins s σ H x y v u Q I rx ry h;obtain⟨hs,q⟩:=h
 cases x with
 |cE=>
  cases rx
  cases y with
  |cE=>cases ry;exact PySem.EqNone.ne_none_none (bt I q (by simp))
  |bl j=>cases ry;exact PySem.EqNone.ne_none_bool (bt I q (by simp))
  |int j=>obtain⟨t',rfl⟩:=ry;exact PySem.EqNone.ne_none_int (bt I q (by simp))
  |str j=>obtain⟨t',rfl⟩:=ry;exact PySem.EqNone.ne_none_str (bt I q (by simp))
  |_=>exact absurd (show false=true from hs) Mx
 |bl i=>
  cases rx
  cases y with
  |cE=>cases ry;exact PySem.EqNone.ne_bool_none (bt I q (by simp))
  |bl j=>cases ry;exact ne_bool (bt I q (congrArg not BV))
  |str j=>obtain⟨t',rfl⟩:=ry;exact PySem.EqMixed.ne_bool_str (bt I q (by simp))
  |_=>exact absurd (show false=true from hs) Mx
 |int i=>
  obtain⟨t,rfl⟩:=rx
  cases y with
  |cE=>cases ry;exact PySem.EqNone.ne_int_none (bt I q (by simp))
  |int j=>obtain⟨t',rfl⟩:=ry;exact ne_int (bt I q (congrArg not za))
  |str j=>obtain⟨t',rfl⟩:=ry;exact PySem.EqMixed.ne_int_str (bt I q (by simp))
  |_=>exact absurd (show false=true from hs) Mx
 |str i=>
  obtain⟨t,rfl⟩:=rx
  cases y with
  |cE=>cases ry;exact PySem.EqNone.ne_str_none (bt I q (by simp))
  |bl j=>cases ry;exact PySem.EqMixed.ne_str_bool (bt I q (by simp))
  |int j=>obtain⟨t',rfl⟩:=ry;exact PySem.EqMixed.ne_str_int (bt I q (by simp))
  |str j=>obtain⟨t',rfl⟩:=ry;exact ne_str (bt I q (congrArg not y6))
  |_=>exact absurd (show false=true from hs) Mx
 |byt i=>
  obtain⟨t,rfl⟩:=rx
  cases y with
  |byt j=>obtain⟨t',rfl⟩:=ry;exact W.ne_bytes (bt I q (congrArg not y9))
  |_=>exact absurd (show false=true from hs) Mx
 |_=>cases y<;>exact absurd (show false=true from hs) Mx
theorem rQ:j0 X (compareOp .Lt) (E9 fun i j=> .bl (decide (i<j))):=Dg fun _ _ _ _ _ _ _ q=>lt_int q
theorem vS:j0 X (compareOp .LtE) (E9 fun i j=> .bl (decide (i<=j))):=Dg fun _ _ _ _ _ _ _ q=>le_int q
theorem mV:j0 X (compareOp .Gt) (E9 fun i j=> .bl (decide (j<i))):=Dg fun _ _ _ _ _ _ _ q=>gt_int q
theorem IL:j0 X (compareOp .GtE) (E9 fun i j=> .bl (decide (j<=i))):=Dg fun _ _ _ _ _ _ _ q=>ge_int q
theorem Hy:j0 X (compareOp .Is) (fun x y H Q=>y= .cE/\Q (.bl (decide (x= .cE))) H):=by
 intro pins s σ H x y v u Q I rx ry h;obtain⟨rfl,q⟩:=h;cases ry;refine is_none_gen (bt I q ?_);cases x<;>first
  |(cases rx;rfl)
  |(obtain⟨t,rfl⟩:=rx;rfl)
theorem aH(b:Expr){op:CmpOp}(h:op≠.In:=by decide)(h2:op≠.NotIn:=by decide):behindInMarks op b=false:=by
 have e1:(op==CmpOp.In)=false:=by cases op<;>first|rfl|exact absurd rfl h
 have e2:(op==CmpOp.NotIn)=false:=by cases op<;>first|rfl|exact absurd rfl h2
 cases b<;>simp[behindInMarks,e1,e2]
theorem lM{op:CmpOp}{r:R2}(ho:j0 X (compareOp op) r)(ha:PE X a ta)(hb:PE X b tb)(hm:behindInMarks op b=false):PE X (.Compare a [op] [b] pos) (E8 r ta tb):=by
 intro pins s σ H Q I h;exact wpAny_Compare1 (GF ha hb I h fun v u s2 x y H2 I2 rx ry q=>ho pins s2 σ H2 x y v u Q I2 rx ry q) hm
def Az(t:TE):TT:=fun σ H Q=>t σ H fun x H'=>∃k,x= .bl k/\Q k H'
theorem aE{op:CmpOp}{r:R2}(ho:j0 X (compareOp op) r)(ha:PE X a ta)(hb:PE X b tb)(hm:behindInMarks op b=false):PT X (.Compare a [op] [b] pos) (Az (E8 r ta tb)):=by
 intro pins s σ H Q I h;refine wpAny_isTrue_Compare1 (aV (ha pins s σ H _ I h) fun v s1 ⟨x,H1,I1,r1,q1⟩=>aV (hb pins s1 σ H1 _ I1 q1) fun u s2 ⟨y,H2,I2,r2,q2⟩=>
  aV (ho pins s2 σ H2 x y v u _ I2 r1 r2 q2) fun c s3 ⟨z,H3,I3,r3,k,e,q3⟩=>?_) hm
 subst e;cases r3;exact wpAny_truthy_bool ⟨H3,I3,q3⟩
def B9(r r':R2)(ta tb tc:TE):TE:=fun σ H Q=>ta σ H fun x H1=>tb σ H1 fun y H2=>r x y H2 fun z H3=>∃k,z= .bl k/\
 (if k=true then tc σ H3 fun w' H4=>r' y w' H4 Q else Q (.bl false) H3)
theorem Ck{op op':CmpOp}{r r':R2}(ho:j0 X (compareOp op) r)(ho':j0 X (compareOp op') r')(ha:PE X a ta)(hb:PE X b tb)(hc:PE X c tc)
  (hm:lastMarks [op,op'] [b,c]=false:=by with_unfolding_all rfl):PE X (.Compare a [op,op'] [b,c] pos) (B9 r r' ta tb tc):=by
 intro pins s σ H Q I h;refine Compare_chain (aV (ha pins s σ H _ I h) fun v s1 ⟨x,H1,I1,r1,q1⟩=>chain_link (aV (hb pins s1 σ H1 _ I1 q1) fun u s2 ⟨y,H2,I2,r2,q2⟩=>
  aV (ho pins s2 σ H2 x y v u _ I2 r1 r2 q2) fun d s3 ⟨z,H3,I3,r3,k,e,q3⟩=>?_)) hm
 subst e;cases r3;refine wpAny_truthy_bool ?_
 cases k with
 |false=>exact ite_ff ⟨.bl false,H3,I3,rfl,q3⟩
 |true=>exact ite_tt (chain_last (aV (hc pins s3 σ H3 _ I3 q3) fun w' s4 ⟨z',H4,I4,r4,q4⟩=>ho' pins s4 σ H4 y z' u w' Q I4 r2 r4 q4))
theorem u4{op op':CmpOp}{r r':R2}(ho:j0 X (compareOp op) r)(ho':j0 X (compareOp op') r')(ha:PE X a ta)(hb:PE X b tb)(hc:PE X c tc)
  (hm:lastMarks [op,op'] [b,c]=false:=by with_unfolding_all rfl):PT X (.Compare a [op,op'] [b,c] pos) (Az (B9 r r' ta tb tc)):=by
 intro pins s σ H Q I h;refine isTrue_chain (aV (ha pins s σ H _ I h) fun v s1 ⟨x,H1,I1,r1,q1⟩=>test_link (aV (hb pins s1 σ H1 _ I1 q1) fun u s2 ⟨y,H2,I2,r2,q2⟩=>
  aV (ho pins s2 σ H2 x y v u _ I2 r1 r2 q2) fun d s3 ⟨z,H3,I3,r3,k,e,q3⟩=>?_)) hm
 subst e;cases r3;refine wpAny_truthy_bool ?_
 cases k with
 |false=>
  obtain⟨k',e',q'⟩:=q3;cases e';exact ite_ff ⟨H3,I3,q'⟩
 |true=>
  refine ite_tt (test_last (aV (hc pins s3 σ H3 _ I3 q3) fun w' s4 ⟨z',H4,I4,r4,q4⟩=>aV (ho' pins s4 σ H4 y z' u w' _ I4 r2 r4 q4) fun d' s5 ⟨z2,H5,I5,r5,k2,e2,q5⟩=>?_));subst e2;cases r5;exact wpAny_truthy_bool ⟨H5,I5,q5⟩
def He(K:W.Frag)(x:V)(H:Hp)(k:Bool):Prop:=
 match x with
 | .cE=>k=false
 | .bl b=>k=b
 | .int i=>k=(i !=0)
 | .str y=>y.length<=MG/\k=((y.length:Int) !=0)
 | .byt y=>y.size<=MG/\k=((y.size:Int) !=0)
 | .ref p=>(∃xs,aG K H p xs/\k= !xs.isEmpty)\/(∃xs,dH K H p xs/\k= !xs.isEmpty)\/∃kvs,H p=some (.dK kvs)/\k= !kvs.isEmpty
 |_=>False
theorem xE{κ:Type}{kvs:List (κ×V)}{vs:List (κ×MA)}(r:KV kvs vs):(!vs.isEmpty)= !kvs.isEmpty:=by
 cases r<;>rfl
theorem oq{xs:List V}{its:List MA}(r:Vals xs its):(!its.toArray.isEmpty)= !xs.isEmpty:=by
 cases r<;>simp
theorem kI:(MG:Nat)<2^63:=by rw[sizeLine_eq];decide
theorem GY:KI X (fun x H Q=>∃k,He X.K x H k/\Q k H):=by
 intro pins s σ H x v Q I rx h;obtain⟨k,e,q⟩:=h;have hl:=kI;have hs:MG=16777216:=sizeLine_eq
 cases x with
 |cE=>
  cases rx;have e':k=false:=e;subst e';exact truthy_none ⟨H,I,q⟩
 |bl b=>
  cases rx;have e':k=b:=e;subst e';exact wpAny_truthy_bool ⟨H,I,q⟩
 |int i=>
  obtain⟨t,rfl⟩:=rx;have e':k=(i !=0):=e;subst e';exact PySem.P.truthy_int ⟨H,I,q⟩
 |str y=>
  obtain⟨t,rfl⟩:=rx;obtain⟨hy,e'⟩:y.length<=MG/\k=((y.length:Int) !=0):=e;subst e';exact PySem.P.truthy_str (by lia) ⟨H,I.tok _,q⟩
 |byt y=>
  obtain⟨t,rfl⟩:=rx;obtain⟨hy,e'⟩:y.size<=MG/\k=((y.size:Int) !=0):=e;subst e';exact W.truthy_bytes (by lia) ⟨H,I.tok _,q⟩
 |ref p=>
  cases rx;have e':(∃xs,aG X.K H p xs/\k= !xs.isEmpty)\/(∃xs,dH X.K H p xs/\k= !xs.isEmpty)\/∃kvs,H p=some (.dK kvs)/\k= !kvs.isEmpty:=e;rcases e' with⟨xs,hx,e'⟩|⟨xs,hx,e'⟩|⟨kvs,hx,e'⟩
  .subst e'
   obtain⟨its,r,pl,hz⟩:=I.list hx;have hlen:=r.length;exact wpAny_truthy_list pl.isList (by simp only[Mm];lia) ⟨H,I.tok _,by rw[oq r];exact q⟩
  .subst e'
   obtain⟨its,r,pl,hz⟩:=I.tuple hx;have hlen:=r.length;exact truthy_tuple pl (by simp only[Mm];lia) ⟨H,I.tok _,by rw[oq r];exact q⟩
  .subst e'
   obtain⟨hz,hS,vs,r,m⟩:kvs.length<=MG/\(p==sysModules)=false/\∃vs,KV kvs vs/\s.heap.DictOf (a6 X.prog X.w) p vs:=I.bc p _ hx;have hlen:kvs.length=vs.length:=Paired.length r;exact wpAny_truthy_dict hS m (by lia) ⟨H,I.tok _,by rw[xE r];exact q⟩
 |_=>exact(show False from e).elim
theorem aI:j0 X (binaryOp .Add) (fun x y H Q=>∃i j,x= .str i/\y= .str j/\i.length+j.length<=MG/\Q (.str (i++j)) H):=by
 intro pins s σ H x y v u Q I rx ry h;obtain⟨i,j,rfl,rfl,hz,q⟩:=h;obtain⟨t,rfl⟩:=rx;obtain⟨t',rfl⟩:=ry;exact add_str (fun t' tk=>⟨.str (i++j),H,I.tok _,⟨_,rfl⟩,q⟩) hz
theorem vals1{x:V}{us:List MA}(r:Vals [x] us):∃u,us=[u]/\RelV x u:=by
 cases r with
 |cons r1 r2=>cases r2;exact⟨_,rfl,r1⟩
theorem vals2{x y:V}{us:List MA}(r:Vals [x,y] us):∃u w',us=[u,w']/\RelV x u/\RelV y w':=by
 cases r with
 |cons r1 r2=>
  cases r2 with
  |cons r3 r4=>cases r4;exact⟨_,_,rfl,r1,r3⟩
theorem AR:bX X (.builtin "abs") (fun xs H Q=>∃i,xs=[.int i]/\Q (.int (if i<0 then-i else i)) H):=by
 intro pins s σ H xs us Q I r h;obtain⟨i,rfl,q⟩:=h;obtain⟨u,rfl,t,rfl⟩:=vals1 r;exact call_abs_int fun u tk=>⟨.int (if i<0 then-i else i),H,I.tok _,⟨_,rfl⟩,q⟩
theorem jP(hc:X.calm=true):bX X (.builtin "max") (fun xs H Q=>∃i j,xs=[.int i,.int j]/\Q (.int (if j>i then j else i)) H):=by
 intro pins s σ H xs us Q I r h;obtain⟨i,j,rfl,q⟩:=h;obtain⟨u,w',rfl,⟨t,rfl⟩,⟨t',rfl⟩⟩:=vals2 r;refine max_two_ints (I.ok.hd hc) fun h' tk k=>⟨_,H,I.kept k,?_,q⟩;by_cases hj:j>i
 .rw[if_pos hj,if_pos hj];exact⟨_,rfl⟩
 .rw[if_neg hj,if_neg hj];exact⟨_,rfl⟩
theorem gn(hc:X.calm=true):bX X (.builtin "min") (fun xs H Q=>∃i j,xs=[.int i,.int j]/\Q (.int (if j<i then j else i)) H):=by
 intro pins s σ H xs us Q I r h;obtain⟨i,j,rfl,q⟩:=h;obtain⟨u,w',rfl,⟨t,rfl⟩,⟨t',rfl⟩⟩:=vals2 r;refine min_two_ints (I.ok.hd hc) fun h' tk k=>⟨_,H,I.kept k,?_,q⟩;by_cases hj:j<i
 .rw[if_pos hj,if_pos hj];exact⟨_,rfl⟩
 .rw[if_neg hj,if_neg hj];exact⟨_,rfl⟩
theorem mH:bX X (.type "int") (fun xs H Q=>(∃i,xs=[.int i]/\Q (.int i) H)\/∃k,xs=[.bl k]/\Q (.int (if k then 1 else 0)) H):=by
 intro pins s σ H xs us Q I r h;rcases h with⟨i,rfl,q⟩|⟨k,rfl,q⟩
 .obtain⟨u,rfl,t,rfl⟩:=vals1 r
  exact call_int_int ⟨.int i,H,I,⟨_,rfl⟩,q⟩
 .obtain⟨u,rfl,r1⟩:=vals1 r
  cases r1;exact call_int_bool ⟨.int (if k then 1 else 0),H,I.tok _,⟨_,rfl⟩,q⟩
theorem eD:bX X (.type "str") (fun xs H Q=>∃i,xs=[.int i]/\i.natAbs.log2<1920/\Q (.str (toString i)) H):=by
 intro pins s σ H xs us Q I r h;obtain⟨i,rfl,hz,q⟩:=h;obtain⟨u,rfl,t,rfl⟩:=vals1 r;exact PySem.P.str_of_int hz ⟨.str _,H,I.tok _,⟨_,rfl⟩,q⟩
end
structure wM(h:MN)(x dx C:MB)(mA:Str->Option MA):Prop where
 obj:h.get? x=some (W.instObj C dx)
 ns:h.Ns1 dx mA
 ne:dx≠x
theorem Aa{h:MN}{dx:MB}{mA:Str->Option MA}(n:h.Ns1 dx mA):∃od,h.get? dx=some od/\∀name,W.lookIn name od=some (mA name):=by
 obtain⟨o,es,ep,ho,hd,hk,_,hm⟩:=n;refine⟨o,ho,fun name=>?_⟩;have e:=hm name;unfold nsFind findBy at e;rw[←Array.find?_toList]at e;unfold W.lookIn;rw[hd];dsimp only
 split
 .rename_i y q
  rw[q]at e;exact congrArg some e
 .rename_i q
  rw[q]at e;have a:es.toList.any (·.refKey)=false:=by
   rw[List.any_eq_false];intro y hy;obtain⟨z,t,hkey⟩:=hk y (Array.mem_toList_iff.mp hy);simp[DictEntry.refKey,hkey]
  have a':¬es.toList.any (·.refKey)=true:=by rw[a];exact Mx
  rw[if_neg a'];exact congrArg some e
theorem wM.look {h:MN}{x dx C:MB}{mA:Str->Option MA}(I:wM h x dx C mA):∃od,W.InstAt h x (W.instObj C dx) C (some od)/\∀name,W.lookIn name od=some (mA name):=
 let⟨od,ho,hl⟩:=Aa I.ns
 ⟨od,⟨I.obj,rfl,rfl,ho⟩,hl⟩
section
variable{prog:MD}{w:ME}{A:MF}{E:MA->MC->Prop}{s:MC}{K:W.Frag}{x dx C f:MB}{mA:Str->Option MA}{name:Str}{v:MA}
theorem get_map{expr:Bool}{Q:MA->MC->Prop}(X:K.In s.heap)(I:wM s.heap x dx C mA)(hg:W.plainGet K C name=true)(hh:W.hasDictIn K C=true)
  (ha:W.findIn K (.ref C) name=some none) (hv:mA name=some v) (hv':W.handedIn v=true) (h:Q v {s with toks:=s.toks+1}):
  MP (model prog w) A (getAttr (.ref x) name expr) Q E s:=by
 obtain⟨od,J,hl⟩:=I.look;exact W.get_value X J (W.plainGet_of hg).1 (W.findObj_own hh ha rfl (by rw[hl,hv])) hv' h
theorem BP{pl:Sem Bool}{Q:MA×List MA->MC->Prop}(X:K.In s.heap)(I:wM s.heap x dx C mA)(hg:W.plainGet K C name=true)
  (hf:W.findIn K (.ref C) name=some (some (.ref f))) (ht:W.isFn K (.ref f)=true) (hv:mA name=none) (h:Q (.ref f,[.ref x]) s):
  MP (model prog w) A (getMethod (.ref x) name pl) Q E s:=by
 obtain⟨od,J,hl⟩:=I.look;exact W.method_fn X J (W.plainGet_of hg).1 (W.plainGet_of hg).2 hf (beq_iff_eq.mp ht) (by show(W.lookIn name od).map (·.isSome)=some false;rw[hl,hv];rfl) h
theorem D7{ns:List Str}{Q:Unit->MC->Prop}(X:K.In s.heap)(I:wM s.heap x dx C mA)
  (hs:W.findIn K (.ref C) "__setattr__" =some (some (.builtin "object.__setattr__"))) (hp:W.plainOver K C=true) (ht:W.takerIn K C name=some none) (hh:W.hasDictIn K C=true)
  (hw:PySem.Within mA ns) (hsz:ns.length<=MG)
  (h:∀h',wM h' x dx C (fun y=>if y=name then some v else mA y)->MN.SameBut dx s.heap h'->Q () {s with heap:=h',toks:=s.toks+2}):
  MP (model prog w) A (setAttr (.ref x) name v) Q E s:=by
 obtain⟨od,J,hl⟩:=I.look;refine W.set_plain X J hs (W.osa_open (s:={s with toks:=s.toks+1}) (r:=none) X J hp ht fun b=>?_);obtain⟨cd,hc,hd'⟩:=W.any_some hh;have hx:s.heap.get? x=some ⟨.ref C,some dx,.plain,#[]⟩:=I.obj;refine MI (MJ (MI (MI (wpAny_loadPart hx (MI (W.Looks.here (s:={s with toks:=s.toks+1}) (W.looks_clsIn X hc) ?_))))));rw[hd'];refine MJ (a:=some dx) (MI (MJ (MI ?_)));refine wpAny_nsSet1 (s:={s with toks:=s.toks+1}) I.ns fun h' hn2 hs2=>?_;obtain⟨oD,esD,epD,hoD,hdD,hcD⟩:=hn2.count (PySem.Within.cons name v hw);refine MI (wpAny_lookBehind hoD (by rw[hdD];exact pastItsLine_dict (Mv hcD (by rw[L8];lia))) ?_);exact MJ (h _ ⟨(hs2.2 _ (Ne.symm I.ne)).trans I.obj,hn2,I.ne⟩ hs2)
theorem B4{R:Result->MC->Prop}{vs:List MA}{kw:List (Str×MA)}(X:K.In s.heap)(hm:W.makesIn K C=true)
  (hi:W.findIn K (.ref C) "__init__" =some (some (.ref f))) (hf:W.typeIn K (.ref f)=some (.type "function"))
  (h:codeAny (model prog w) (A.under (.builtin "type.__call__" ⟨.ref C::vs,kw⟩)) (.call (.ref f) ⟨.ref (s.heap.objs.size+1)::vs,kw⟩) (W.InitBack (s.heap.objs.size+1) R)
   {s with heap:=(s.heap.push W.emptyDict).push (W.instObj C s.heap.objs.size)}):
  codeAny (model prog w) A (.call (.ref C) ⟨vs,kw⟩) R s:=by
 obtain⟨hh,g,d,t,os⟩:=s;exact W.make_core (W.makes_of X hm) (W.looks_findIn X hi) (fun self=>W.bind_fn X self hf) (.inl rfl) h
end
def i7(f:Str)(v:V):List (Str×V)->List (Str×V)
 |[]=>[(f,v)]
 |(g,x)::r=>if g=f then(g,v)::r else(g,x)::i7 f v r
theorem ni(f g:Str)(v:V):∀fs:List (Str×V),(i7 f v fs).lookup g=if g=f then some v else fs.lookup g
 |[]=>by
  show List.lookup g [(f,v)]=_;by_cases h:g=f
  .have hb:(g==f)=true:=beq_iff_eq.mpr h
   simp only[List.lookup,hb,if_pos h]
  .have hb:(g==f)=false:=beq_eq_false_iff_ne.mpr h
   simp only[List.lookup,hb,if_neg h]
 |(k,x)::r=>by
  have ih:=ni f g v r;rw[show i7 f v ((k,x)::r)=(if k=f then(k,v)::r else(k,x)::i7 f v r)from rfl];by_cases hk:k=f
  .rw[if_pos hk]
   by_cases h:g=k
   .have hb:(g==k)=true:=beq_iff_eq.mpr h
    simp only[List.lookup,hb,if_pos (h.trans hk)]
   .have hb:(g==k)=false:=beq_eq_false_iff_ne.mpr h
    simp only[List.lookup,hb,if_neg (fun e:g=f=>h (e.trans hk.symm))]
  .rw[if_neg hk]
   by_cases h:g=k
   .have hb:(g==k)=true:=beq_iff_eq.mpr h
    simp only[List.lookup,hb,if_neg (fun e:g=f=>hk (h.symm.trans e))]
   .have hb:(g==k)=false:=beq_eq_false_iff_ne.mpr h
    simp only[List.lookup,hb];exact ih
theorem mG(f:Str)(v:V):∀fs:List (Str×V),f∈(i7 f v fs).map (·.1)/\∀g,g∈fs.map (·.1)->g∈(i7 f v fs).map (·.1)
 |[]=>⟨by simp[i7],fun g h=>by simp at h⟩
 |(k,x)::r=>by
  obtain⟨i1,i2⟩:=mG f v r;rw[show i7 f v ((k,x)::r)=(if k=f then(k,v)::r else(k,x)::i7 f v r)from rfl];by_cases hk:k=f
  .rw[if_pos hk]
   subst hk;exact⟨by simp,fun g h=>by simpa using h⟩
  .rw[if_neg hk]
   refine⟨?_,fun g h=>?_⟩
   .rw[L9]
    exact Mh _ i1
   .rw[L9]at h⊢
    rcases List.mem_cons.mp h with e|e
    .exact List.mem_cons.mpr (.inl e)
    .exact Mh _ (i2 g e)
theorem m7(f:Str)(v:V):∀fs:List (Str×V),(i7 f v fs).length<=fs.length+1
 |[]=>by simp[i7]
 |(k,x)::r=>by
  have ih:=m7 f v r;rw[show i7 f v ((k,x)::r)=(if k=f then(k,v)::r else(k,x)::i7 f v r)from rfl];by_cases hk:k=f
  .rw[if_pos hk,L8,L8];lia
  .rw[if_neg hk,L8,L8];lia
theorem gY.some_of {v:V}{o:Option MA}(r:gY (some v) o):∃u,o=some u/\RelV v u:=by
 cases o with
 |none=>exact(show False from r).elim
 |some u=>exact⟨u,rfl,r⟩
theorem gY.none_of {o:Option MA}(r:gY none o):o=none:=by
 cases o with
 |none=>rfl
 |some u=>exact(show False from r).elim
theorem zJ{v:V}{u:MA}(r:RelV v u):W.handedIn u=true:=by
 cases v with
 |cE=>cases(show u=MA.none from r);rfl
 |bl b=>cases(show u=MA.bool b from r);rfl
 |int i=>obtain⟨t,e⟩:=(show∃t,u=MA.int i t from r);cases e;rfl
 |str x=>obtain⟨t,e⟩:=(show∃t,u=MA.str x t from r);cases e;rfl
 |byt b=>obtain⟨t,e⟩:=(show∃t,u=MA.bytes b t from r);cases e;rfl
 |jK b=>obtain⟨t,e⟩:=(show∃t,u=MA.float b t from r);cases e;rfl
 |ref a=>cases(show u=MA.ref a from r);rfl
 |ty n=>cases(show u=MA.type n from r);rfl
section
variable{P:MD}{w:ME}{H H':Hp}{h h':MN}{a C dx:MB}{fs fs':List (Str×V)}
theorem nI(bc:jV P w H h)(e:H a=some (.ins C dx fs)):∃mA,wM h a dx C mA/\(∀f,gY (fs.lookup f) (mA f))/\PySem.Within mA (fs.map (·.1))/\fs.length<=1000/\H dx=some (.own a):=by
 obtain⟨d,z,ne,ob,mA,n,r,q⟩:=(show bH P w H h a (.ins C dx fs)from bc a _ e);exact⟨mA,⟨ob,n,ne⟩,r,q,z,d⟩
end
structure zZ(K:W.Frag)(C:MB):Prop where
 pg:W.plainGet K C Str.empty=true
 hd:W.hasDictIn K C=true
 po:W.plainOver K C=true
 sa:W.findIn K (.ref C) "__setattr__" =some (some (.builtin "object.__setattr__"))
theorem zZ.get {K:W.Frag}{C:MB}(c:zZ K C)(f:Str):W.plainGet K C f=true:=c.pg
def gO(K:W.Frag)(C:MB)(f:Str):Prop:=W.findIn K (.ref C) f=some none
theorem gO.IY {K:W.Frag}{C:MB}{f:Str}(n:gO K C f):W.takerIn K C f=some none:=by
 unfold W.takerIn;rw[show W.findIn K (.ref C) f=some none from n];rfl
structure Meth(K:W.Frag)(C:MB)(m:Str)(f:MB):Prop where
 at_:W.findIn K (.ref C) m=some (some (.ref f))
 fn:W.isFn K (.ref f)=true
 kp:W.keepIn K (.ref f)=true
section
variable{X:Cx}{pins:List (MB×Obj)}{σ:St}{H:Hp}{s:MC}{a C dx:MB}{fs:List (Str×V)}{f:Str}{v:V}{A:MF}{E:MA->MC->Prop}
theorem wU{b:Bool}{Q:MA->MC->Prop}(I:Inv X pins σ H s)(e:H a=some (.ins C dx fs))(c:zZ X.K C)(n:gO X.K C f)(l:fs.lookup f=some v)
  (h:∀u s',Inv X pins σ H s'->RelV v u->Q u s'):MP (model X.prog X.w) A (getAttr (.ref a) f b) Q E s:=by
 obtain⟨mA,O,r,_,_,_⟩:=nI I.bc e;obtain⟨u,hu,ru⟩:=gY.some_of (v:=v) (o:=mA f) (by rw[←l];exact r f);exact get_map I.je O (c.get f) c.hd n hu (zJ ru) (h u _ (I.tok _) ru)
theorem ku{m:Str}{g:MB}{pl:Sem Bool}{Q:MA×List MA->MC->Prop}(I:Inv X pins σ H s)(e:H a=some (.ins C dx fs))(c:zZ X.K C)(k:Meth X.K C m g)(l:fs.lookup m=none)
  (h:Q (.ref g,[.ref a]) s):MP (model X.prog X.w) A (getMethod (.ref a) m pl) Q E s:=by
 obtain⟨mA,O,r,_,_,_⟩:=nI I.bc e;have hn:mA m=none:=gY.none_of (by rw[←l];exact r m);exact BP I.je O (c.get m) k.at_ k.fn hn h
theorem wZ{y:V}{u:MA}{Q:Unit->MC->Prop}(I:Inv X pins σ H s)(e:H a=some (.ins C dx fs))(c:zZ X.K C)(n:gO X.K C f)(hl:fs.length<1000)(ry:RelV y u)
  (h:∀s',Inv X pins σ (upd H a (.ins C dx (i7 f y fs))) s'->Q () s'):MP (model X.prog X.w) A (setAttr (.ref a) f u) Q E s:=by
 obtain⟨mA,O,r,wi,_,ho⟩:=nI I.bc e;have hz:(fs.map (·.1)).length<=MG:=by rw[LW,sizeLine_eq];lia
 refine D7 I.je O c.sa c.po n.IY c.hd wi hz fun h' O' sb=>h _ ?_;have hd:∃o,h'.get? dx=some o:=let⟨o,_,_,e',_⟩:=O'.ns;⟨o,e'⟩
 refine I.write (x:=a) (e:=dx) (by rw[e];exact True.intro) (.inr ho) (fun b q hb z=>(sb.2 b hb).trans z) hd ?_;refine⟨by rw[ao O.ne];exact ho,?_,O.ne,O'.obj,_,O'.ns,fun g=>?_,fun g hg=>?_⟩
 .have:=m7 f y fs;lia
 .show gY ((i7 f y fs).lookup g) (if g=f then some u else mA g)
  rw[ni];by_cases q:g=f
  .rw[if_pos q,if_pos q];exact ry
  .rw[if_neg q,if_neg q];exact r g
 .by_cases q:g=f
  .rw[q];exact(mG f y fs).1
  .refine(mG f y fs).2 g (wi g fun z=>hg ?_)
   show(if g=f then some u else mA g)=none;rw[if_neg q];exact z
theorem Inv.made (I:Inv X pins σ H s):Inv X pins σ (upd (upd H s.heap.objs.size (.own (s.heap.objs.size+1))) (s.heap.objs.size+1) (.ins C s.heap.objs.size []))
  {s with heap:=(s.heap.push W.emptyDict).push (W.instObj C s.heap.objs.size)}:=by
 have e1:(s.heap.push W.emptyDict).get? s.heap.objs.size=some W.emptyDict:=MN.get?_push_size s.heap rfl;have e2:((s.heap.push W.emptyDict).push (W.instObj C s.heap.objs.size)).get? (s.heap.objs.size+1)=some (W.instObj C s.heap.objs.size):=by
  have:=MN.get?_push_size (s.heap.push W.emptyDict) (o:=W.instObj C s.heap.objs.size) rfl;rwa [MN.size_push]at this
 have e3:(s.heap.push W.emptyDict).Ns s.heap.objs.size (fun _=>none):=⟨W.emptyDict,#[],_,e1,rfl,(fun e he=>absurd he (by simp)),fun _=>rfl⟩;have I1:=I.laid (a:=s.heap.objs.size) (o:= .own (s.heap.objs.size+1)) (h':=s.heap.push W.emptyDict) (t':=s.toks) (fun b u q=>MN.get?_push_of_some _ q) (Ms _) ⟨_,e1⟩;refine I1.laid (a:=s.heap.objs.size+1) (o:= .ins C s.heap.objs.size []) (t':=s.toks) (fun b u q=>MN.get?_push_of_some _ q) (Nat.le_of_eq (MN.size_push _ _)) ?_;have ne:s.heap.objs.size≠s.heap.objs.size+1:=Mu (Nat.lt_succ_self _);refine⟨by rw[ao ne,ae],Mw _,ne,e2,fun _=>none,(MN.Ns1.of_empty e3).at fun o q=>MN.get?_push_of_some _ q,fun _=>True.intro,fun y hy=>absurd rfl hy⟩
theorem DH{prog:MD}{w:ME}{env:Env}{e:Expr}{f:Str}{pos:Pos}{s:MC}{Q:MA->MC->Prop}(hb:attributeBase e f env (eval e env)=eval e env)
  (h:MP (model prog w) A (eval e env) (fun o s₁=>MP (model prog w) A (getAttr o f true) Q E s₁) E s):MP (model prog w) A (eval (.Attribute e f pos) env) Q E s:=
 Attribute_any_ h (by rw[arm_eval_Attribute,hb])
end
def Ik(K:W.Frag)(ta:TE)(f:Str):TE:=fun σ H Q=>ta σ H fun x H1=>∃a C dx fs v,x= .ref a/\H1 a=some (.ins C dx fs)/\zZ K C/\gO K C f/\fs.lookup f=some v/\Q v H1
def JD(K:W.Frag)(ta tv:TE)(f:Str):TS:=fun D σ H=>tv σ H fun y H1=>ta σ H1 fun x H2=>∃a C dx fs,x= .ref a/\H2 a=some (.ins C dx fs)/\zZ K C/\gO K C f/\fs.length<1000/\
 D.nx σ (upd H2 a (.ins C dx (i7 f y fs)))
section
variable{X:Cx}{o e value:Expr}{f:Str}{pos pos' tpos:Pos}{ta tv:TE}
theorem G7(he:PE X e ta)(hb:attributeBase e f X.env (eval e X.env)=eval e X.env):PE X (.Attribute e f pos) (Ik X.K ta f):=by
 intro pins s σ H Q I h;refine DH hb (aV (he pins s σ H _ I h) fun u s1 ⟨x,H1,I1,rx,a,C,dx,fs,v,ex,ea,c,n,l,q⟩=>?_);subst ex;obtain rfl:u=MA.ref a:=rx;exact wU I1 ea c n l fun u' s2 I2 ru=>⟨v,H1,I2,ru,q⟩
theorem HB(ha:PE X o ta)(hv:PE X value tv)(hs:swapsWith value (some (.Attribute o f pos')) pos.line X.env=pure false):PS X (.Assign [.Attribute o f pos'] value pos) (JD X.K ta tv f):=by
 intro pins s σ H D I h;refine plainObj_wpAny_Assign_Attribute (aV (hv pins s σ H _ I h) fun u s1 ⟨y,H1,I1,ry,q⟩=>aV (ha pins s1 σ H1 _ I1 q) fun ov s2 ⟨x,H2,I2,rx,a,C,dx,fs,ex,ea,c,n,l,q2⟩=>?_) hs;subst ex;obtain rfl:ov=MA.ref a:=rx;exact wZ I2 ea c n l ry fun s3 I3=>⟨σ,_,I3,q2⟩
theorem E6{pl:Sem Bool}{m:Str}{apos:Pos}{args:List Expr}{pins:List (MB×Obj)}{s:MC}{σ:St}{H:Hp}{Q:MA->MC->Prop}{te:TE}(he:PE X e te)(I:Inv X pins σ H s)
  (h:te σ H fun x H1=>∃a C dx fs g,x= .ref a/\H1 a=some (.ins C dx fs)/\zZ X.K C/\Meth X.K C m g/\fs.lookup m=none/\
   ∀s1,Inv X pins σ H1 s1->MP (model X.prog X.w) X.A (callWith pos (.ref g) [.ref a] (MO pos (ML args X.env)) (backToKw pos (keywordEach [] X.env))) Q X.xe s1)
  (ht:eval (.Call (.Attribute e m apos) args [] pos) X.env=(do
   let ov←eval e X.env
   standAt apos.atName
   let(f,first)←holding [ov] (getMethod ov m pl)
   callWith pos f first (MO pos (ML args X.env)) (backToKw pos (keywordEach [] X.env)))):
  MP (model X.prog X.w) X.A (eval (.Call (.Attribute e m apos) args [] pos) X.env) Q X.xe s:=by
 refine W.methodCall_KW (pl:=pl) (aV (he pins s σ H _ I h) fun u s1 ⟨x,H1,I1,rx,a,C,dx,fs,g,ex,ea,c,k,l,q⟩=>?_) ht;subst ex;obtain rfl:u=MA.ref a:=rx;exact ku I1 ea c k l (q s1 I1)
end
section
variable{X:Cx}{pins:List (MB×Obj)}{σ:St}{H:Hp}{s:MC}{A:MF}{E:MA->MC->Prop}{Q:MA->MC->Prop}{c:MA}{b:Bool}
inductive ko(K:W.Frag)(H:Hp):V->MA->Prop where
 |cE:ko K H .cE (.type "NoneType")
 |bl (x:Bool):ko K H (.bl x) (.type "bool")
 |int (i:Int):ko K H (.int i) (.type "int")
 |str (x:Str):ko K H (.str x) (.type "str")
 |jK (x:UInt64):ko K H (.jK x) (.type "float")
 |lst {a:MB} {xs:List V} (e:H a=some (.lst xs)):ko K H (.ref a) (.type "list")
 |uW {a:MB} {o:Obj} {xs:List V} (e:H a=some (.uW o (.lst xs))):ko K H (.ref a) (.type "list")
 |tup {a:MB} {xs:List V} (e:H a=some (.tup xs)):ko K H (.ref a) (.type "tuple")
 |dK {a:MB} {kvs:List (Key×V)} (e:H a=some (.dK kvs)):ko K H (.ref a) (.type "dict")
 |dT {a:MB} {kvs:List (List Key×V)} (e:H a=some (.dT kvs)):ko K H (.ref a) (.type "dict")
 |ins {a C dx:MB} {fs:List (Str×V)} (e:H a=some (.ins C dx fs)) (cl:zZ K C) (ha:W.findIn K (.ref C) "__class__" =some (some (.builtin "object.__class__")))
   (hn:W.specialIn K (.builtin "object.__class__") "__get__" =some (some (.builtin "getset_descriptor.__get__"))) (htk:W.takesIn K (.builtin "object.__class__")=some true)
   (hm:W.mroIn K C (.type "object")=some true):ko K H (.ref a) (.ref C)
theorem zD{x:V}{u t:MA}(I:Inv X pins σ H s)(rx:RelV x u)(ty:ko X.K H x t)(e:W.kitOne X.K t c=some b)(h:∀tk,Q (.bool b) {s with toks:=tk}):
  MP (model X.prog X.w) A (call (.builtin "isinstance") [u,c]) Q E s:=by
 cases ty with
 |cE=>cases(show u=MA.none from rx);exact W.kia_one W.kitx_none I.je True.intro e (fun z=>nomatch z) h
 |bl y=>cases(show u=MA.bool y from rx);exact W.kia_one W.kitx_bool I.je True.intro e (fun z=>nomatch z) h
 |int i=>obtain⟨t,q⟩:=(show∃t,u=MA.int i t from rx);cases q;exact W.kia_one W.kitx_int I.je True.intro e (fun z=>nomatch z) h
 |str y=>obtain⟨t,q⟩:=(show∃t,u=MA.str y t from rx);cases q;exact W.kia_one W.kitx_str I.je True.intro e (fun z=>nomatch z) h
 |jK y=>obtain⟨t,q⟩:=(show∃t,u=MA.float y t from rx);cases q;exact W.kia_one W.kitx_float I.je True.intro e (fun z=>nomatch z) h
 | @lst a xs ea=>
  cases(show u=MA.ref a from rx);obtain⟨_,_,n,_,h1⟩:=(show bH X.prog X.w H s.heap a (.lst xs)from I.bc a _ ea);exact W.kia_one W.kitx_list I.je ⟨_,h1,rfl⟩ e (fun z=>nomatch z) h
 | @uW a ob xs ea=>
  cases(show u=MA.ref a from rx);obtain⟨_,_,_,n,_,h1⟩:=(show bH X.prog X.w H s.heap a (.uW ob (.lst xs))from I.bc a _ ea);exact W.kia_one W.kitx_list I.je ⟨_,h1,rfl⟩ e (fun z=>nomatch z) h
 | @tup a xs ea=>
  cases(show u=MA.ref a from rx);obtain⟨_,_,_,p⟩:=(show bH X.prog X.w H s.heap a (.tup xs)from I.bc a _ ea);obtain⟨o,h1,h2,_⟩:=p;exact W.kia_one W.kitx_tuple I.je ⟨o,h1,h2⟩ e (fun z=>nomatch z) h
 | @dK a kvs ea=>
  cases(show u=MA.ref a from rx);obtain⟨_,_,vs,_,p⟩:=(show bH X.prog X.w H s.heap a (.dK kvs)from I.bc a _ ea);obtain⟨o,es,ep,h1,h2,_⟩:=p;exact W.kia_one W.kitx_dict I.je ⟨o,h1,h2.1⟩ e (fun z=>nomatch z) h
 | @dT a kvs ea=>
  cases(show u=MA.ref a from rx);obtain⟨_,_,xs,_,o,es,ep,h1,h2,_⟩:=(show bH X.prog X.w H s.heap a (.dT kvs)from I.bc a _ ea);exact W.kia_one W.kitx_dict I.je ⟨o,h1,h2.1⟩ e (fun z=>nomatch z) h
 | @ins a C dx fs ea cl ha hn htk hm=>
  cases(show u=MA.ref a from rx);obtain⟨mA,O,_⟩:=nI I.bc ea;obtain⟨od,J,_⟩:=O.look;exact W.kia_one (W.kitx_own (cl.get _) cl.hd ha hn htk hm) I.je J e (fun z=>nomatch z) h
end
structure cQ(k:Nat)(A:MF):Prop where
 hd:A.handled=none
 gd:A.guards=some []
 dp:A.depth+3*k+5<recursionLimit
 un:A.units+16*k+200<cLine
theorem cQ.mono {j k:Nat}{A:MF}(r:cQ k A)(h:j<=k):cQ j A:=⟨r.hd,r.gd,by have:=r.dp;lia,by have:=r.un;lia⟩
theorem cQ.deeper {k:Nat}{A:MF}(r:cQ (k+1) A)(env:Env):cQ k (A.deeper env):=
 ⟨r.hd,r.gd,by have:=r.dp;show A.depth+1+3*k+5<_;lia,by have:=r.un;show A.units+3+16*k+200<_;lia⟩
theorem xD{A:MF}{C:MB}{us:List MA}{kw:List (Str×MA)}:(A.under (.builtin "type.__call__" ⟨.ref C::us,kw⟩)).depth=A.depth+1:=by
 first|rfl|simp[MF.under,Code.weight,Code.isCreation,Code.isGuard,Code.isCaller,Code.frames,Code.isFrame,guardIds]
theorem w9{A:MF}{C:MB}{us:List MA}{kw:List (Str×MA)}:(A.under (.builtin "type.__call__" ⟨.ref C::us,kw⟩)).units=A.units+1:=by
 first|rfl|simp[MF.under,Code.cUnits,Code.frames,Code.isFrame]
theorem u5{A:MF}{C:MB}{us:List MA}{kw:List (Str×MA)}:(A.under (.builtin "type.__call__" ⟨.ref C::us,kw⟩)).guards=A.guards:=by
 first|rfl|simp[MF.under,Code.isGuard,guardIds]
theorem cQ.make {k:Nat}{A:MF}(r:cQ (k+1) A)(C:MB)(us:List MA)(kw:List (Str×MA)):cQ k (A.under (.builtin "type.__call__" ⟨.ref C::us,kw⟩)):=
 ⟨r.hd,by rw[u5];exact r.gd,by have:=r.dp;rw[xD];lia,by have:=r.un;rw[w9];lia⟩
theorem cQ.depth {k:Nat}{A:MF}(r:cQ k A):A.depth<recursionLimit:=by have:=r.dp;lia
theorem cQ.units {k:Nat}{A:MF}(r:cQ k A):A.units+64<cLine:=by have:=r.un;lia
def AM:TA:=fun _ H Q=>Q [] H
def qU(ta:TE)(tr:TA):TA:=fun σ H Q=>ta σ H fun x H1=>tr σ H1 fun xs H2=>Q (x::xs) H2
section
variable{X:Cx}{e:Expr}{es:List Expr}{te:TE}{t:TA}{pos:Pos}
theorem af:PA X [] AM:=fun _ _ _ _ H Q I h=>Calls.spliced_nil ⟨[],H,I,.nil,h⟩
theorem aa(ha:PE X e te)(hr:PA X es t)(hs:ML (e::es) X.env=(false,eval e X.env)::ML es X.env:=by rfl):PA X (e::es) (qU te t):=by
 intro pos pins s σ H Q I h;rw[hs];show MP _ _ (spliced ((false,eval e X.env)::MO pos (ML es X.env))) _ _ s;refine Calls.spliced_cons (aV (ha pins s σ H _ I h) fun u s1 ⟨x,H1,I1,r1,q1⟩=>?_);exact aV (hr pos pins s1 σ H1 _ I1 q1) fun us s2 ⟨xs,H2,I2,r2,q2⟩=>⟨x::xs,H2,I2,.cons r1 r2,q2⟩
def Kg(t:TA):TE:=fun σ H Q=>t σ H fun xs H1=>xs.length<=MG/\∀p,H1 p=none->Q (.ref p) (upd H1 p (.tup xs))
def KR(t:TA):TE:=fun σ H Q=>t σ H fun xs H1=>xs.length<=MG/\∀p,H1 p=none->Q (.ref p) (upd H1 p (.lst xs))
theorem cp{x1}(h:PA X es t):PE X (.Tuple es x1 pos) (Kg t):=by
 intro pins s σ H Q I hq;refine wpAny_Tuple_spliced (aV (h pos pins s σ H _ I hq) fun us s1 ⟨xs,H1,I1,r,z,q⟩=>⟨by rw[←r.length];exact z,?_⟩);have hf:H1 s1.heap.objs.size=none:=I1.bc.fresh (Ms _);refine⟨.ref s1.heap.objs.size,upd H1 s1.heap.objs.size (.tup xs),I1.laid (t':=s1.toks) (fun b u e=>MN.get?_push_of_some _ e) (Ms _) ?_,rfl,q _ hf⟩;exact⟨z,us,r,⟨_,MN.get?_push_size _ rfl,rfl,_,rfl⟩⟩
theorem bf(h:PA X es t):PE X (.List es pos) (KR t):=by
 intro pins s σ H Q I hq;refine wpAny_List_spliced (aV (h pos pins s σ H _ I hq) fun us s1 ⟨xs,H1,I1,r,z,q⟩=>⟨by rw[←r.length];exact z,?_⟩);have hf:H1 s1.heap.objs.size=none:=I1.bc.fresh (Ms _);refine⟨.ref s1.heap.objs.size,upd H1 s1.heap.objs.size (.lst xs),I1.laid (t':=s1.toks) (fun b u e=>MN.get?_push_of_some _ e) (Ms _) ?_,rfl,q _ hf⟩;exact⟨z,us,0,r,MN.get?_push_size _ rfl⟩
end
abbrev Sp:=List V->Hp->VK->XK->Prop
abbrev pY:=List Env->Hp->MC->XK->MA->MC->Prop
structure vC(P:MD)(w:ME)(K:W.Frag)(mg:Str->Option MA)(base:MN)(A:MF)(outer:List Env)(s:MC)(H:Hp):Prop where
 frames:A.frames=some outer
 mod:Mod K mg base
 bs:∀b o,base.get? b=some o->s.heap.get? b=some o/\H b=none
 yZ:base.objs.size<=s.heap.objs.size
 iJ:s.heap.FunFrames base outer
 nS:∀b∈gw outer,H b=none
 bc:jV P w H s.heap
 bare:AllBare s.gens
def CE(outer:List Env)(P:MD)(w:ME)(H:Hp)(s:MC)(Q:VK)(u:MA)(s':MC):Prop:=
 ∃v H',s'.os=s.os/\AllBare s'.gens/\Un (gw outer) [] H H' s.heap s'.heap/\jV P w H' s'.heap/\RelV v u/\Q v H'
def CR(CX:pY)(outer:List Env)(P:MD)(w:ME)(H:Hp)(s:MC)(Q:VK)(E:XK)(r:Result)(s':MC):Prop:=
 match r with
 | .ok (.ret u)=>CE outer P w H s Q u s'
 | .ok _=>False
 | .error e=>CX outer H s E e s'
structure aS(P:MD)(w:ME)(K:W.Frag)(mg:Str->Option MA)(base:MN)(CX:pY)(k:Nat)(f:MB)(fd:MM)(ps:List Str)(sp:Sp):Prop where
 len:∀vs H Q E,sp vs H Q E->vs.length=ps.length
 run:∀(A:MF)(outer:List Env)(s:MC)(H:Hp)(args:Args)(us:List MA)(vs:List V)(Q:VK)(E:XK),cQ k A->vC P w K mg base A outer s H->BindsTo s fd args (ps.zip us)->Vals vs us->sp vs H Q E->
  codeAny (model P w) A (.call (.ref f) args) (CR CX outer P w H s Q E) s
theorem aS.mono {P:MD}{w:ME}{K:W.Frag}{mg:Str->Option MA}{base:MN}{CX:pY}{j k:Nat}{f:MB}{fd:MM}{ps:List Str}{sp:Sp}(F:aS P w K mg base CX j f fd ps sp)(h:j<=k):
  aS P w K mg base CX k f fd ps sp:=⟨F.len,fun A outer s H args us vs Q E hr=>F.run A outer s H args us vs Q E (hr.mono h)⟩
theorem aS.imp {P:MD}{w:ME}{K:W.Frag}{mg:Str->Option MA}{base:MN}{CX:pY}{k:Nat}{f:MB}{fd:MM}{ps:List Str}{sp sp':Sp}(F:aS P w K mg base CX k f fd ps sp)
  (h:∀vs H Q E,sp' vs H Q E->sp vs H Q E):aS P w K mg base CX k f fd ps sp':=
 ⟨fun vs H Q E q=>F.len vs H Q E (h _ _ _ _ q),fun A outer s H args us vs Q E hr he hb hv hs=>F.run A outer s H args us vs Q E hr he hb hv (h _ _ _ _ hs)⟩
theorem vC.make {P:MD}{w:ME}{K:W.Frag}{mg:Str->Option MA}{base:MN}{A:MF}{outer:List Env}{s:MC}{H:Hp}(e:vC P w K mg base A outer s H)(C:MB)(us:List MA)(kw:List (Str×MA)):
  vC P w K mg base (A.under (.builtin "type.__call__" ⟨.ref C::us,kw⟩)) outer s H:=⟨by first|exact e.frames|(simpa [MF.under,Code.envs,Code.isFrame,pushEnvs]using e.frames),e.mod,e.bs,e.yZ,e.iJ,e.nS,e.bc,e.bare⟩
section
variable{X:Cx}{pins:List (MB×Obj)}{σ:St}{H:Hp}{s s':MC}
theorem Inv.qf (I:Inv X pins σ H s):vC X.prog X.w X.K X.mg X.base X.A X.stack s H:=
 ⟨I.ok.frames,I.ok.mod,I.bs,Mv I.ok.yZ I.sz,I.stack,I.nU,I.bc,I.bare⟩
theorem Inv.after {Q:VK}{u:MA}(I:Inv X pins σ H s)(h:CE X.stack X.prog X.w H s Q u s'):EP X pins σ Q u s':=by
 obtain⟨v,H',os,bare,un,bc,r,q⟩:=h;obtain⟨hh,g,d,t,os'⟩:=s';obtain rfl:os'=s.os:=os;exact⟨v,H',I.call (h':=hh) (g':=g) (d':=d) (t':=t) (ch:=[]) un bc bare (fun b z=>absurd z (by simp)),r,q⟩
end
def vE(sp:Sp)(dvs:List V)(E:XK)(t:TA):TE:=fun σ H Q=>t σ H fun vs H1=>sp (vs++dvs) H1 Q E
def Fx(C:MB)(m:Str)(sp:Sp)(dvs:List V)(E:XK)(ta:TE)(t:TA):TE:=fun σ H Q=>ta σ H fun x H1=>∃a dx fs,x= .ref a/\H1 a=some (.ins C dx fs)/\fs.lookup m=none/\
 t σ H1 fun vs H2=>sp (x::(vs++dvs)) H2 Q E
def Ft(C:MB)(sp:Sp)(dvs:List V)(E:XK)(t:TA):TE:=fun σ H Q=>t σ H fun vs H1=>∀x dx,H1 x=none->H1 dx=none->dx≠x->
 sp (.ref x::(vs++dvs)) (upd (upd H1 dx (.own x)) x (.ins C dx [])) (fun v H2=>v= .cE/\Q (.ref x) H2) E
def Binds(K:W.Frag)(fd:MM)(ps:List Str)(ds:List MA):Prop:=
 ∀(s:MC)(us:List MA),K.In s.heap->(us++ds).length=ps.length->BindsTo s fd ⟨us,[]⟩ (ps.zip (us++ds))
theorem Binds.all {K:W.Frag}{fd:MM}{ps:List Str}(h:∀us:List MA,us.length=ps.length->bindArgs fd ⟨us,[]⟩=pure (ps.zip us)):Binds K fd ps []:=fun s us _ hl=>by
 rw[Mo]at hl⊢;exact .of_eq (h us hl)
def Passes(CX:pY)(X:Cx)(E:XK):Prop:=∀(pins:List (MB×Obj))(σ:St)(H:Hp)(s:MC)(e:MA)(s':MC),Inv X pins σ H s->CX X.stack H s E e s'->X.xe e s'
section
variable{X:Cx}{CX:pY}{k:Nat}{f C:MB}{fd:MM}{ps:List Str}{sp:Sp}{dvs:List V}{ds:List MA}{E:XK}{x m:Str}{p pos apos:Pos}{e o:Expr}{es:List Expr}{ta:TE}{t:TA}
theorem CG{pins:List (MB×Obj)}{σ:St}{H:Hp}{s:MC}{Q:VK}{us:List MA}{vs:List V}(F:aS X.prog X.w X.K X.mg X.base CX k f fd ps sp)(hr:cQ k X.A)(hb:Binds X.K fd ps ds)(hd:Vals dvs ds)(hx:Passes CX X E)
  (I:Inv X pins σ H s) (r:Vals vs us) (h:sp (vs++dvs) H Q E):MP (model X.prog X.w) X.A (call (.ref f) us) (EP X pins σ Q) X.xe s:=by
 have r2:Vals (vs++dvs) (us++ds):=r.append hd;have hl:(us++ds).length=ps.length:=by rw[←r2.length];exact F.len _ _ _ _ h
 refine wpAny_call (codeAny_mono (F.run X.A X.stack s H ⟨us,[]⟩ (us++ds) (vs++dvs) Q E hr I.qf (hb s us I.je hl) r2 h) fun r s' hq=>?_)
 cases r with
 |error e=>exact hx pins σ H s e s' I hq
 |ok fl=>
  cases fl with
  |ret u=>exact I.after hq
  |next=>exact False.elim hq
  |brk=>exact False.elim hq
  |cont=>exact False.elim hq
theorem yJ(F:aS X.prog X.w X.K X.mg X.base CX k f fd ps sp)(hr:cQ k X.A)(hg:Gl X x)(hm:X.mg x=some (.ref f))(hk:W.keepIn X.K (.ref f)=true)(hb:Binds X.K fd ps ds)(hd:Vals dvs ds)(hx:Passes CX X E)
  (ha:PA X (e::es) t) (hdb:(x==("__debug__" :Str))=false:=by decide) (he:ML (e::es) X.env=(false,eval e X.env)::ML es X.env:=by rfl) (hpl:(MO pos (ML es X.env)).any (·.1)=false:=by rfl):
  PE X (.Call (.Name x p) (e::es) [] pos) (vE sp dvs E t):=by
 intro pins s σ H Q I h;refine wpAny_Call_Name_kw (iy I hg hm ?_ hdb);refine W.callWith_K (h₀:=X.base) I.ok.mod.CU hk (aV (ha pos pins s σ H _ I h) fun us s1 ⟨vs,H1,I1,r,q⟩=>⟨I1.je,?_⟩) he hpl;exact CG F hr hb hd hx I1 r q
theorem C8{pl:Sem Bool}(he:PE X o ta)(c:zZ X.K C)(hm:Meth X.K C m f)(F:aS X.prog X.w X.K X.mg X.base CX k f fd ps sp)(hr:cQ k X.A)(hb:Binds X.K fd ps ds)(hd:Vals dvs ds)(hx:Passes CX X E)(ha:PA X (e::es) t)
  (hst:ML (e::es) X.env=(false,eval e X.env)::ML es X.env:=by rfl) (hpl:(MO pos (ML es X.env)).any (·.1)=false:=by rfl)
  (ht:eval (.Call (.Attribute o m apos) (e::es) [] pos) X.env=(do
   let ov←eval o X.env
   standAt apos.atName
   let(f,first)←holding [ov] (getMethod ov m pl)
   callWith pos f first (MO pos (ML (e::es) X.env)) (backToKw pos (keywordEach [] X.env))):=by rfl):
  PE X (.Call (.Attribute o m apos) (e::es) [] pos) (Fx C m sp dvs E ta t):=by
 intro pins s σ H Q I h;refine W.methodCall_KW (pl:=pl) (aV (he pins s σ H _ I h) fun u s1 ⟨x,H1,I1,rx,a,dx,fs,ex,ea,l,q⟩=>?_) ht;subst ex;obtain rfl:u=MA.ref a:=rx;refine ku I1 ea c hm l ?_;refine W.callWith_K (first:=[.ref a]) (h₀:=X.base) I.ok.mod.CU hm.kp (aV (ha pos pins s1 σ H1 _ I1 q) fun us s2 ⟨vs,H2,I2,r,q2⟩=>⟨I2.je,?_⟩) hst hpl;exact CG (us:= .ref a::us) (vs:= .ref a::vs) F hr hb hd hx I2 (.cons rfl r) q2
structure Mk(K:W.Frag)(C f:MB):Prop where
 makes:W.makesIn K C=true
 init:W.findIn K (.ref C) "__init__" =some (some (.ref f))
 fn:W.isFn K (.ref f)=true
 kp:W.keepIn K (.ref C)=true
theorem Co{pins:List (MB×Obj)}{σ:St}{H:Hp}{s:MC}{Q:VK}{us:List MA}{vs:List V}(M:Mk X.K C f)(F:aS X.prog X.w X.K X.mg X.base CX k f fd ps sp)(hr:cQ (k+1) X.A)(hb:Binds X.K fd ps ds)(hd:Vals dvs ds)
  (hx:Passes CX X E) (I:Inv X pins σ H s) (r:Vals vs us)
  (h:∀x dx,H x=none->H dx=none->dx≠x->sp (.ref x::(vs++dvs)) (upd (upd H dx (.own x)) x (.ins C dx [])) (fun v H2=>v= .cE/\Q (.ref x) H2) E):
  MP (model X.prog X.w) X.A (call (.ref C) us) (EP X pins σ Q) X.xe s:=by
 have hq:=h (s.heap.objs.size+1) s.heap.objs.size (I.bc.fresh (Nat.le_succ _)) (I.bc.fresh (Ms _)) (Mu (Nat.lt_succ_self _));have I2:=Inv.made (C:=C) I;have r2:Vals (V.ref (s.heap.objs.size+1)::(vs++dvs)) (MA.ref (s.heap.objs.size+1)::(us++ds)):= .cons rfl (r.append hd);have hl:(MA.ref (s.heap.objs.size+1)::us++ds).length=ps.length:=by
  have e:=r2.length;rw[F.len _ _ _ _ hq]at e;exact e.symm
 refine wpAny_call (B4 (f:=f) I.je M.makes M.init (beq_iff_eq.mp M.fn) (codeAny_mono (F.run _ X.stack _ _ ⟨MA.ref (s.heap.objs.size+1)::us,[]⟩ (MA.ref (s.heap.objs.size+1)::(us++ds)) _ _ E (hr.make C us [])
  (I2.qf.make C us []) (hb _ (MA.ref (s.heap.objs.size+1)::us) I2.je hl) r2 hq) fun r s' hq'=>?_))
 cases r with
 |error e=>exact hx pins σ _ _ e s' I2 hq'
 |ok fl=>
  cases fl with
  |ret u=>
   obtain⟨v,H',I3,rv,ev,q3⟩:=I2.after hq';subst ev;exact⟨rv,⟨V.ref (s.heap.objs.size+1),H',I3,rfl,q3⟩⟩
  |next=>exact False.elim hq'
  |brk=>exact False.elim hq'
  |cont=>exact False.elim hq'
theorem CZ(M:Mk X.K C f)(F:aS X.prog X.w X.K X.mg X.base CX k f fd ps sp)(hr:cQ (k+1) X.A)(hg:Gl X x)(hm:X.mg x=some (.ref C))(hb:Binds X.K fd ps ds)(hd:Vals dvs ds)(hx:Passes CX X E)
  (ha:PA X (e::es) t) (hdb:(x==("__debug__" :Str))=false:=by decide) (he:ML (e::es) X.env=(false,eval e X.env)::ML es X.env:=by rfl) (hpl:(MO pos (ML es X.env)).any (·.1)=false:=by rfl):
  PE X (.Call (.Name x p) (e::es) [] pos) (Ft C sp dvs E t):=by
 intro pins s σ H Q I h;refine wpAny_Call_Name_kw (iy I hg hm ?_ hdb);refine W.callWith_K (h₀:=X.base) I.ok.mod.CU M.kp (aV (ha pos pins s σ H _ I h) fun us s1 ⟨vs,H1,I1,r,q⟩=>⟨I1.je,?_⟩) he hpl;exact Co M F hr hb hd hx I1 r q
end
structure aF(N P:List Str)(sc:Scope):Prop where
 kind:sc.kind= .function
 co:sc.isCoroutine=false
 gen:sc.isGenerator=false
 nd:N.Nodup
 pre:N.take P.length=P
 par:∀x∈P,sc.names.lookup x=some .local\/sc.names.lookup x=some .cell
 FP:∀y∈sc.names,y.2≠.free
theorem qT{kindOf:Str->Option MR}{x:Str}:∀{binds:List (Str×MA)}{m:Str->Option MA},(∀v,(x,v)∉binds)->bindL kindOf binds m x=m x
 |[],_,_=>rfl
 |(n,v)::r,m,h=>by
  unfold bindL;rw[qT fun w hw=>h w (Mh _ hw)]
  split
  .have:x≠n:=by rintro rfl;exact h v Mg
   simp[this]
  .rfl
theorem rh{kindOf:Str->Option MR}{x:Str}:∀{binds:List (Str×MA)}{m:Str->Option MA},(∀v,(x,v)∉binds)->bindC kindOf binds m x=m x
 |[],_,_=>rfl
 |(n,v)::r,m,h=>by
  unfold bindC;rw[rh fun w hw=>h w (Mh _ hw)]
  split
  .rfl
  .have:x≠n:=by rintro rfl;exact h v Mg
   simp[this]
theorem rM{kindOf:Str->Option MR}{x:Str}{v:MA}:∀{P:List Str}{vs:List MA}{i:Nat}{m:Str->Option MA},P.Nodup->P[i]?=some x->vs[i]?=some v->kindOf x=some .local->
  bindL kindOf (P.zip vs) m x=some v
 |[],_,_,_,_,h,_,_=>by simp at h
 |_::_,[],_,_,_,_,h,_=>by simp at h
 |p::P,w::vs,0,m,nd,h1,h2,hk=>by
  simp at h1 h2;subst h1;subst h2;show bindL kindOf ((p,w)::P.zip vs) m p=_;unfold bindL;rw[qT fun v hv=>(List.nodup_cons.mp nd).1 (List.of_mem_zip hv).1,if_pos hk];simp
 |p::P,w::vs,i+1,m,nd,h1,h2,hk=>by
  show bindL kindOf ((p,w)::P.zip vs) m x=_;unfold bindL;exact rM (i:=i) (List.nodup_cons.mp nd).2 (by simpa using h1) (by simpa using h2) hk
theorem qH{kindOf:Str->Option MR}{x:Str}{v:MA}:∀{P:List Str}{vs:List MA}{i:Nat}{m:Str->Option MA},P.Nodup->P[i]?=some x->vs[i]?=some v->kindOf x≠some .local->
  bindC kindOf (P.zip vs) m x=some v
 |[],_,_,_,_,h,_,_=>by simp at h
 |_::_,[],_,_,_,_,h,_=>by simp at h
 |p::P,w::vs,0,m,nd,h1,h2,hk=>by
  simp at h1 h2;subst h1;subst h2;show bindC kindOf ((p,w)::P.zip vs) m p=_;unfold bindC;rw[rh fun v hv=>(List.nodup_cons.mp nd).1 (List.of_mem_zip hv).1,if_neg hk];simp
 |p::P,w::vs,i+1,m,nd,h1,h2,hk=>by
  show bindC kindOf ((p,w)::P.zip vs) m x=_;unfold bindC;exact qH (i:=i) (List.nodup_cons.mp nd).2 (by simpa using h1) (by simpa using h2) hk
def start(N:List Str)(vs:List V):St:=vs.map some++List.replicate (N.length-vs.length) none
def qr(CX:pY)(P:MD)(w:ME)(K:W.Frag)(mg:Str->Option MA)(base:MN)(N:List Str)(qual:Str)(scope:Scope)(f:MB)(cd:MA)(A:MF)(outer:List Env)(s:MC)(H:Hp)(E:XK):Cx where
 prog:=P
 w:=w
 K:=K
 mg:=mg
 base:=base
 A:=A.deeper (envOfC qual scope s.heap.objs.size f cd)
 N:=N
 s₀:=s
 H₀:=H
 env:=envOfC qual scope s.heap.objs.size f cd
 outer:=outer
 stack:=envOfC qual scope s.heap.objs.size f cd::outer
 ex:=[]
 calm:=true
 fn:=fun _=>true
 pn:=[]
 xe:=fun e s'=>MP (model P w) (A.deeper (envOfC qual scope s.heap.objs.size f cd)) (leaving (envOfC qual scope s.heap.objs.size f cd) e) (fun _ s''=>CX outer H s E e s'') (fun e' s''=>CX outer H s E e' s'') s'
theorem ud{sc:Scope}{n:Nat}{x:Str}(h:sc.names.lookup x=some .cell):∃c,(cellsFrom n sc.names []).lookup x=some c:=by
 have q:=W.cellsFrom_some sc.names n [] (.inl h);exact Option.isSome_iff_exists.mp q
theorem rK{CX:pY}{P:MD}{w:ME}{K:W.Frag}{mg:Str->Option MA}{base:MN}{N ps:List Str}{qual:Str}{scope:Scope}{f:MB}{cd:MA}{A:MF}{outer:List Env}{s s1:MC}{H:Hp}{E:XK}{us:List MA}{vs:List V}
  (S:aF N ps scope) (hd:A.handled=none) (e0:vC P w K mg base A outer s H) (hl:vs.length=ps.length) (r:Vals vs us)
  (x:InCallC s s.heap.objs.size (bindL (envOfC qual scope s.heap.objs.size f cd).kindOf (ps.zip us) fun _=>none) (cellsFrom (s.heap.objs.size+1) scope.names []) (bindC (envOfC qual scope s.heap.objs.size f cd).kindOf (ps.zip us) fun _=>none) s1):
  Inv (qr CX P w K mg base N qual scope f cd A outer s H E) [] (start N vs) H s1:=by
 have hpl:ps.length<=N.length:=by have:=congrArg List.length S.pre;rw[Ma]at this;lia
 obtain⟨h1,tk,rfl,hk⟩:=x.done;have noA:∀b:MB,b∉(qr CX P w K mg base N qual scope f cd A outer s H E).ex:=fun b z=>absurd (show b∈([]:List MB)from z) (by simp);refine⟨⟨e0.mod,S.kind,rfl,rfl,Ms _,fun y z c h1 h2=>?_,fun y hy=>?_,fun y c _ h=>?_,fun _=>hd,MF.frames_deeper e0.frames,.inr ⟨rfl,rfl⟩,fun b z=>absurd z (noA b),e0.bs,e0.yZ,fun b _ _=>noA b,fun b z=>absurd z (noA b),e0.iJ,e0.nS⟩,
  rfl,e0.bare,Un.kept hk,⟨_,x.toInCall.ns,fun i y v h1 h2 h3=>?_⟩,fun y c h=>⟨_,x.cell y c h⟩,e0.bc.fresh (Ms _),fun y c h=>?_,fun p hp=>absurd (show p∈([]:List (MB×Obj))from hp) (by simp),e0.bc.kept hk,?_⟩
 .exact name_of_addr x.apart (PySem.mem_of_lookup h1) (PySem.mem_of_lookup h2)
 .have hy:scope.names.lookup y=some .cell\/scope.names.lookup y=some .free:=hy
  rcases hy with hy|hy
  .exact ud hy
  .exact absurd rfl (S.FP _ (PySem.mem_of_lookup hy))
 .exact Nat.le_of_lt (x.above y c (PySem.mem_of_lookup h))
 .have hi:i<vs.length:=by
   unfold start at h2;by_cases hi:i<vs.length
   .exact hi
   .rw[List.getElem?_append_right (by simpa using hi)]at h2
    rw[List.getElem?_replicate]at h2
    split at h2<;>cases h2
  have ha:vs[i]?=some v:=by
   unfold start at h2;rw[List.getElem?_append_left (by simpa using hi),LX]at h2
   cases e:vs[i]? with
   |none=>rw[e]at h2;cases h2
   |some a=>rw[e]at h2;cases h2;rfl
  obtain⟨u,hu,rv⟩:=r.get ha;have hp:ps[i]?=some y:=by
   rw[←S.pre,List.getElem?_take_of_lt (by lia)];exact h1
  have ndP:ps.Nodup:=by rw[←S.pre];exact S.nd.sublist (List.take_sublist _ _)
  refine⟨u,rv,?_⟩;rcases S.par y (Mf hp)with k|k
  .exact .inl ⟨k,rM ndP hp hu k⟩
  .obtain⟨c,e⟩:=ud (n:=s.heap.objs.size+1) k
   refine .inr ⟨.inl k,c,e,?_⟩;have q:=x.cell y c e;rw[qH ndP hp hu (by show scope.names.lookup y≠_;rw[k];decide)]at q;exact q
 .exact e0.bc.fresh (Nat.le_of_lt (x.above y c (PySem.mem_of_lookup h)))
 .unfold start
  show _=N.length;rw[LY,LW,List.length_replicate];lia
theorem FD{CX:pY}{P:MD}{w:ME}{K:W.Frag}{mg:Str->Option MA}{base:MN}{k:Nat}{f:MB}{name qual:Str}{params:Arguments}{body:List MQ}{scope:Scope}{dV kV doc pm cdv ct oc:MA}{an od:Option MB}
  {osl:Array (Option MA)} {N ps:List Str} {sp:Sp} (lk:K.lookup f=some ⟨oc,od,.func (W.fnOf name qual params body scope dV kV doc pm an cdv ct),osl⟩) (hcd:W.codeIn K cdv qual=true) (S:aF N ps scope)
  (len:∀vs H Q E,sp vs H Q E->vs.length=ps.length)
  (hbody:∀(A:MF)(outer:List Env)(s:MC)(H:Hp)(vs:List V)(Q:VK)(E:XK),cQ k (A.deeper (envOfC qual scope s.heap.objs.size f cdv))->sp vs H Q E->
   ∃t,pX (qr CX P w K mg base N qual scope f cdv A outer s H E) body t/\t {nx:=fun _ H'=>Q .cE H',rt:=Q} (start N vs) H):
  aS P w K mg base CX (k+1) f (W.fnOf name qual params body scope dV kV doc pm an cdv ct) ps sp:=by
 refine⟨len,fun A outer s H args us vs Q E hr e0 hb r hsp=>?_⟩;have hl:=len _ _ _ _ hsp;have KX:K.In s.heap:=e0.mod.CU.keeps fun b o e=>(e0.bs b o e).1;have lim:s.heap.NoLimit:=e0.mod.nolimit.keeps fun b o e=>(e0.bs b o e).1;have hkind:∀y∈ps.zip us,scope.names.lookup y.1=some .local\/(scope.names.lookup y.1=some .cell/\((cellsFrom (s.heap.objs.size+1) scope.names []).lookup y.1).isSome=true):=fun⟨n,v⟩ hy=>by
  rcases S.par n (List.of_mem_zip hy).1 with q|q
  .exact .inl q
  .exact .inr ⟨q,W.cellsFrom_some _ _ _ (.inl q)⟩
 refine codeAny_call_function hr.depth (KX _ _ lk) rfl S.co S.gen rfl (W.codeRec_of KX hcd) (hb _ _ _ _ ?_);refine wpAny_newFunctionEnv_cells S.kind hkind fun env he s1 x=>?_;subst he;refine⟨lim.keeps x.toInCall.keep,codeAny_func ?_⟩;obtain⟨t,ht,hq⟩:=hbody A outer s H vs Q E (hr.deeper _) hsp;have I:Inv (qr CX P w K mg base N qual scope f cdv A outer s H E) [] (start N vs) H s1:=rK S hr.hd e0 hl r x;refine MK (ht [] s1 (start N vs) H _ I hq) (fun fl s' hs=>?_) fun e s' hs=>hs;have fin:∀{σ':St}{H':Hp}{v:V}{u:MA},Inv (qr CX P w K mg base N qual scope f cdv A outer s H E) [] σ' H' s'->RelV v u->Q v H'->CE outer P w H s Q u s':=
  fun{σ' H' v u} J rv q=>⟨v,H',J.os,J.bare,J.base,J.bc,rv,q⟩
 cases fl with
 |ret u=>
  obtain⟨v,σ',H',J,rv,q⟩:=hs;exact fin J rv q
 |next=>
  obtain⟨σ',H',J,q⟩:=hs;exact fin (v:=V.cE) (u:=MA.none) J rfl q
 |brk=>
  obtain⟨_,_,_,q⟩:=hs;exact False.elim q
 |cont=>
  obtain⟨_,_,_,q⟩:=hs;exact False.elim q
section
variable{X:Cx}{x:Str}{p pos:Pos}{e:Expr}{es:List Expr}{t:TA}{id T:String}{r:List V->Hp->VK->Prop}
def Kx(r:List V->Hp->VK->Prop)(t:TA):TE:=fun σ H Q=>t σ H fun vs H1=>r vs H1 Q
theorem ar(hc:bX X (.builtin id) r)(hg:Gl X x)(hm:X.mg x=none)(hv:bootBuiltins x=some (.builtin id))(ha:PA X (e::es) t)(hn:x≠"__name__" :=by decide)(hdb:(x==("__debug__" :Str))=false:=by decide)
  (he:ML (e::es) X.env=(false,eval e X.env)::ML es X.env:=by rfl) (hpl:(MO pos (ML es X.env)).any (·.1)=false:=by rfl):PE X (.Call (.Name x p) (e::es) [] pos) (Kx r t):=by
 intro pins s σ H Q I h;refine wpAny_Call_Name_kw (jv I hg hm hv ?_ hn hdb);exact PyProof.Rows.callWith_builtin1 (aV (ha pos pins s σ H _ I h) fun us s1 ⟨vs,H1,I1,r1,q1⟩=>hc pins s1 σ H1 vs us Q I1 r1 q1) he hpl
theorem aY(hc:bX X (.type T) r)(hg:Gl X x)(hm:X.mg x=none)(hv:bootBuiltins x=some (.type T))(ha:PA X (e::es) t)(hn:x≠"__name__" :=by decide)(hdb:(x==("__debug__" :Str))=false:=by decide)
  (he:ML (e::es) X.env=(false,eval e X.env)::ML es X.env:=by rfl) (hpl:(MO pos (ML es X.env)).any (·.1)=false:=by rfl):PE X (.Call (.Name x p) (e::es) [] pos) (Kx r t):=by
 intro pins s σ H Q I h;refine wpAny_Call_Name_kw (jv I hg hm hv ?_ hn hdb);exact PyProof.Rows.callWith_type1 (aV (ha pos pins s σ H _ I h) fun us s1 ⟨vs,H1,I1,r1,q1⟩=>hc pins s1 σ H1 vs us Q I1 r1 q1) he hpl
end
end L2
namespace HT
open PySem PyProof.Rows
section
variable{prog:MD}{w:ME}{A:MF}{E:MA->MC->Prop}{s:MC}
def pJ(n d:Nat):Option Int->Nat
 |none=>d
 |some v=>if v<0 then(v+(n:Int)).toNat else min v.toNat n
end
end HT
namespace L2
open PySem PySem.Spec PyProof.Rows
abbrev TO:=St->Hp->(Option Int->Hp->Prop)->Prop
def PO(X:Cx)(e:Option Expr)(t:TO):Prop:=
 ∀(pins:List (MB×Obj))(s:MC)(σ:St)(H:Hp)(Q:Option Int->Hp->Prop),Inv X pins σ H s->t σ H Q->
  MP (model X.prog X.w) X.A (evalPart e X.env) (fun u s'=>∃o H',Inv X pins σ H' s'/\IsPart u o/\Q o H') X.xe s
def lO:TO:=fun _ H Q=>Q none H
def IT(t:TE):TO:=fun σ H Q=>t σ H fun x H1=>∃i,x= .int i/\Q (some i) H1
section
variable{X:Cx}{e:Expr}{te:TE}{lo hi:Option Expr}{tl th:TO}{pos p2:Pos}
theorem bS:PO X none lO:=by
 intro pins s σ H Q I h;rw[evalPart_none];exact MJ ⟨none,H,I,.none,h⟩
theorem bu(h:PE X e te):PO X (some e) (IT te):=by
 intro pins s σ H Q I hw;rw[evalPart_some];refine aV (h pins s σ H _ I hw) fun u s1 ⟨x,H1,I1,r1,q1⟩=>?_;obtain⟨i,rfl,q⟩:=q1;obtain⟨t,rfl⟩:=r1;exact⟨some i,H1,I1,.int i t,q⟩
def J6(X:Cx)(r:V->Option Int->Option Int->Hp->VK->Prop):Prop:=
 ∀(pins:List (MB×Obj))(s:MC)(σ:St)(H:Hp)(x:V)(v vl vu:MA)(lo hi:Option Int)(sl:MB)(Q:VK),Inv X pins σ H s->RelV x v->s.heap.IsSliceOf sl vl vu .none->IsPart vl lo->IsPart vu hi->r x lo hi H Q->
  ∃T id,typeLookup (.type T) "__getitem__" =pure (some (.builtin id))/\s.TypeIs v T/\MP (model X.prog X.w) X.A (getItem v (.ref sl)) (EP X pins σ Q) X.xe s
def LC(r:V->Option Int->Option Int->Hp->VK->Prop)(te:TE)(tl th:TO):TE:=fun σ H Q=>te σ H fun x H1=>tl σ H1 fun l H2=>th σ H2 fun u H3=>r x l u H3 Q
theorem bq{r:V->Option Int->Option Int->Hp->VK->Prop}(hr:J6 X r)(he:PE X e te)(hl:PO X lo tl)(hu:PO X hi th):PE X (.Subscript e (.Slice lo hi none p2) pos) (LC r te tl th):=by
 intro pins s σ H Q I h;refine Subscript_ (aV (he pins s σ H _ I h) fun v s1 ⟨x,H1,I1,r1,q1⟩=>?_);refine wpAny_Slice (aV (hl pins s1 σ H1 _ I1 q1) fun vl s2 ⟨l,H2,I2,pl,q2⟩=>aV (hu pins s2 σ H2 _ I2 q2) fun vu s3 ⟨u,H3,I3,pu,q3⟩=>?_);rw[evalPart_none];refine MJ ?_;have I4:Inv X pins σ H3 {s3 with heap:=s3.heap.push {cls:= .type "slice",data:= .fields #[vl,vu,.none]}}:=I3.kept (t':=s3.toks) fun b ob q=>MN.get?_push_of_some _ q;obtain⟨T,id,hT,ht,hg⟩:=hr pins {s3 with heap:=s3.heap.push {cls:= .type "slice",data:= .fields #[vl,vu,.none]}} σ H3 x v vl vu l u s3.heap.objs.size Q I4 r1 (MN.IsSliceOf.new ..) pl pu q3;show MP (model X.prog X.w) X.A (subscriptTail e (.Slice lo hi none p2) v (.ref s3.heap.objs.size)) (EP X pins σ Q) X.xe {s3 with heap:=s3.heap.push {cls:= .type "slice",data:= .fields #[vl,vu,.none]}};exact tail_any (ops:=[.ref s3.heap.objs.size,v]) ht hT hg (by with_unfolding_all rfl)
def dw(xs:List V)(lo hi:Option Int):List V:=(xs.drop (HT.pJ xs.length 0 lo)).take (HT.pJ xs.length xs.length hi-HT.pJ xs.length 0 lo)
theorem uC(xs:List V)(lo hi:Option Int):(dw xs lo hi).length<=xs.length:=by
 unfold dw;rw[Ma,List.length_drop];lia
end
def CV(n:Nat)(i:Int):Option Nat:=if 0<=i then(if i<n then some i.toNat else none)else if-(n:Int)<=i then some (i+n).toNat else none
def m9{α:Type}(xs:List α)(i:Int):Option α:=(CV xs.length i).bind fun j=>xs[j]?
theorem nN{n:Nat}{i:Int}{j:Nat}(h:CV n i=some j):seqIndex? i n=some j/\j<n/\-(n:Int)<=i/\i<n:=by
 unfold CV at h;by_cases h0:0<=i
 .rw[if_pos h0]at h
  by_cases h1:i<n
  .rw[if_pos h1]at h
   have e:i.toNat=j:=My h;exact⟨by rw[seqIndex_of h0 h1,e],by lia,by lia,h1⟩
  .rw[if_neg h1]at h;cases h
 .rw[if_neg h0]at h
  by_cases h1: -(n:Int)<=i
  .rw[if_pos h1]at h
   have e:(i+n).toNat=j:=My h;exact⟨by rw[seqIndex_neg (by lia) h1,e],by lia,h1,by lia⟩
  .rw[if_neg h1]at h;cases h
theorem tJ{α:Type}{xs:List α}{i:Int}{v:α}(h:m9 xs i=some v):∃j,seqIndex? i xs.length=some j/\xs[j]?=some v/\j<xs.length/\-(xs.length:Int)<=i/\i<xs.length:=by
 unfold m9 at h
 cases e:CV xs.length i with
 |none=>rw[e]at h;cases h
 |some j=>
  rw[e]at h;obtain⟨h1,h2,h3,h4⟩:=nN e;exact⟨j,h1,h,h2,h3,h4⟩
theorem aR{α:Type}{xs:List α}{j:Nat}{v:α}(h:xs[j]?=some v):m9 xs (j:Int)=some v:=by
 have hj:j<xs.length:=(List.getElem?_eq_some_iff.mp h).1;have e:CV xs.length (j:Int)=some j:=by
  unfold CV;rw[if_pos (by lia),if_pos (by lia)];simp
 unfold m9;rw[e];exact h
def y4(b:Expr):Prop:=∀o i,subscripted b false o i=operate [o,i] (getItem o i)
def Hz(X:Cx)(r:R2):Prop:=
 ∀(value slice:Expr)(pins:List (MB×Obj))(s:MC)(σ:St)(H:Hp)(x y:V)(v u:MA)(Q:VK),Inv X pins σ H s->RelV x v->RelV y u->r x y H Q->
  subscripted slice false v u=operate [v,u] (getItem v u)->MP (model X.prog X.w) X.A (subscriptTail value slice v u) (EP X pins σ Q) X.xe s
def zW(X:Cx)(id:String)(r:V->List V->Hp->VK->Prop):Prop:=
 ∀(pins:List (MB×Obj))(s:MC)(σ:St)(H:Hp)(x:V)(xs:List V)(v:MA)(us:List MA)(Q:VK),Inv X pins σ H s->RelV x v->Vals xs us->r x xs H Q->
  MP (model X.prog X.w) X.A (call (.builtin id) (v::us)) (EP X pins σ Q) X.xe s
section
variable{X:Cx}{a b:Expr}{ta tb:TE}{pos:Pos}
theorem aO{r:R2}(hr:Hz X r)(ha:PE X a ta)(hb:PE X b tb)(hs:y4 b):PE X (.Subscript a b pos) (E8 r ta tb):=by
 intro pins s σ H Q I h;exact Subscript_ (GF ha hb I h fun v u s2 x y H2 I2 rx ry q=>hr a b pins s2 σ H2 x y v u Q I2 rx ry q (hs _ _))
def EF(K:W.Frag):R2:=fun x y H Q=>∃p xs i v,x= .ref p/\y= .int i/\aG K H p xs/\m9 xs i=some v/\Q v H
def JF(K:W.Frag):R2:=fun x y H Q=>∃p xs i v,x= .ref p/\y= .int i/\dH K H p xs/\m9 xs i=some v/\Q v H
def KA:R2:=fun x y H Q=>∃z i c,x= .str z/\y= .int i/\z.length<=MG/\m9 z.cps.toList i=some c/\Q (.str ⟨#[c]⟩) H
theorem Dv:Hz X (EF X.K):=by
 intro value slice pins s σ H x y v u Q I rx ry h hs;obtain⟨p,xs,i,z,rfl,rfl,hq,he,q⟩:=h;cases rx;obtain⟨t,rfl⟩:=ry;obtain⟨its,r,pl,hz⟩:=I.list hq;obtain⟨j,h1,h2,h3,h4,h5⟩:=tJ he;obtain⟨w,ew,rw'⟩:=r.get h2;have hl:=r.length;have hn:=kI;have fin:EP X pins σ Q w s:=⟨z,H,I,rw',q⟩;by_cases h0:0<=i
 .have hj:i.toNat=j:=by
   rw[seqIndex_of h0 h5]at h1;exact My h1
  exact item_listR pl.isList h0 (by lia) (by rw[hj];simpa using ew) fin hs
 .have hj:(i+(its.toArray.size:Int)).toNat=j:=by
   rw[seqIndex_neg (by lia) h4]at h1;rw[Mm,←hl];exact My h1
  exact subscriptTail_builtinR (x:=w) pl.isList.typeIs slot_list_getitem.lookup
   (wpAny_getItem_list_neg (Q:=fun r s'=>r=w/\EP X pins σ Q r s') pl.isList (by lia) (by rw[Mm]<;>lia) (by lia) (by rw[hj];simpa using ew) ⟨rfl,fin⟩) hs
theorem FR:Hz X (JF X.K):=by
 intro value slice pins s σ H x y v u Q I rx ry h hs;obtain⟨p,xs,i,z,rfl,rfl,hq,he,q⟩:=h;cases rx;obtain⟨t,rfl⟩:=ry;obtain⟨its,r,pl,hz⟩:=I.tuple hq;obtain⟨j,h1,h2,h3,h4,h5⟩:=tJ he;obtain⟨w,ew,rw'⟩:=r.get h2;have hl:=r.length;have hn:=kI;have fin:EP X pins σ Q w s:=⟨z,H,I,rw',q⟩;exact subscriptTail_builtinR (x:=w) pl.typeIs slot_tuple_getitem.lookup
  (getItem_tuple (j:=j) (Q:=fun r s'=>r=w/\EP X pins σ Q r s') pl (by lia) (by lia) (by rw[Mm,←hl];exact h1) (by simpa using ew) ⟨rfl,fin⟩) hs
theorem Ce:Hz X KA:=by
 intro value slice pins s σ H x y v u Q I rx ry h hs;obtain⟨z,i,c,rfl,rfl,hz,he,q⟩:=h;obtain⟨t,rfl⟩:=rx;obtain⟨t',rfl⟩:=ry;obtain⟨j,h1,h2,h3,h4,h5⟩:=tJ he;have hl:z.cps.toList.length=z.length:=by simp[Str.length]
 rw[hl]at h1 h4 h5;have hn:=kI;exact tail_any (typeIs_str s z t) slot_str_getitem.lookup (getItem_str (c:=c) (by
  have e1:decide (i< -(2^63:Int))=false:=decide_eq_false (by lia);have e2:decide (i≥2^63)=false:=decide_eq_false (by lia);rw[e1,e2,Bool.or_false]) (by rw[h1];simpa using h2) ⟨.str ⟨#[c]⟩,H,I.tok _,⟨_,rfl⟩,q⟩) hs
theorem wR(its:List MA)(n j:Nat)(u:MA):Obj.mapSeq (·.setIfInBounds j u) {cls:= .type "list",data:= .seq its.toArray n}={cls:= .type "list",data:= .seq (its.set j u).toArray n}:=by
 simp[Obj.mapSeq]
theorem Inv.lst {pins:List (MB×Obj)}{σ:St}{H:Hp}{s:MC}{p:MB}{xs:List V}(I:Inv X pins σ H s)(h:H p=some (.lst xs)):
  ∃(its:List MA)(n:Nat),Vals xs its/\s.heap.get? p=some {cls:= .type "list",data:= .seq its.toArray n}/\xs.length<=MG:=by
 obtain⟨z,its,n,r,e⟩:=I.bc p _ h;exact⟨its,n,r,e,z⟩
theorem Inv.Gd {pins:List (MB×Obj)}{σ:St}{H:Hp}{s:MC}{p:MB}{xs ys:List V}{its its':List MA}{n n':Nat}{f:Obj->Obj}(I:Inv X pins σ H s)(h:H p=some (.lst xs))
  (ho:s.heap.get? p=some {cls:= .type "list",data:= .seq its.toArray n}) (hf:f {cls:= .type "list",data:= .seq its.toArray n}={cls:= .type "list",data:= .seq its'.toArray n'}) (r:Vals ys its') (hz:ys.length<=MG) (t:Nat):
  Inv X pins σ (upd H p (.lst ys)) {s with heap:=s.heap.update p f,toks:=t}:=by
 have e:(s.heap.update p f).get? p=some {cls:= .type "list",data:= .seq its'.toArray n'}:=by
  rw[MN.get?_update_self f ho (by rw[hf]<;>rfl),hf]
 refine I.write (x:=p) (e:=p) (by rw[h];trivial) (.inl rfl) (fun b u hb q=>(MN.get?_update_other _ _ (Ne.symm hb)).trans q) ⟨_,e⟩ ?_;exact⟨hz,its',n',r,e⟩
def Ip:V->V->V->Hp->(Hp->Prop)->Prop:=fun o i v H Q=>∃p xs k j,o= .ref p/\i= .int k/\H p=some (.lst xs)/\CV xs.length k=some j/\Q (upd H p (.lst (xs.set j v)))
theorem set_list:JC X Ip:=by
 intro pins s σ H o i v ov iv u Q I ro ri rv h;obtain⟨p,xs,k,j,rfl,rfl,hp,hj,q⟩:=h;cases ro;obtain⟨t,rfl⟩:=ri;obtain⟨its,n,r,ho,hz⟩:=I.lst hp;obtain⟨h1,h2,h3,h4⟩:=nN hj;have hl:=r.length;have hn:=kI;have I':Inv X pins σ (upd H p (.lst (xs.set j v))) {s with heap:=s.heap.update p (Obj.mapSeq (·.setIfInBounds j u))}:=
  I.Gd hp ho (wR its n j u) (r.set rv j) (by rw[List.length_set];exact hz) s.toks
 by_cases h0:0<=k
 .have hk:k.toNat=j:=by
   rw[seqIndex_of h0 h4]at h1;exact My h1
  exact W.ki_setAt ho h0 (by lia) (by rw[Mm,←hl];exact h4) (by rw[hk];exact⟨_,I',q⟩)
 .have hk:(k+(its.toArray.size:Int)).toNat=j:=by
   rw[seqIndex_neg (by lia) h3]at h1;rw[Mm,←hl];exact My h1
  exact W.ki_setBack ho (by lia) (by rw[Mm,←hl];exact h3) (by lia) (by rw[hk];exact⟨_,I',q⟩)
theorem sR(lo hi:Option Int)(n:Nat):(sliceBounds lo hi none n).1=((HT.pJ n 0 lo:Nat):Int)/\(sliceBounds lo hi none n).2.1=((HT.pJ n n hi:Nat):Int)/\(sliceBounds lo hi none n).2.2=1:=by
 refine⟨?_,?_,rfl⟩
 .cases lo with
  |none=>simp[sliceBounds,HT.pJ]
  |some i=>
   simp only[sliceBounds,HT.pJ,Option.getD_none,show(1:Int)>0 by decide,if_true];by_cases h:i<0
   .simp only[h,if_true]<;>lia
   .simp only[h,if_false]<;>lia
 .cases hi with
  |none=>simp[sliceBounds,HT.pJ]
  |some i=>
   simp only[sliceBounds,HT.pJ,Option.getD_none,show(1:Int)>0 by decide,if_true];by_cases h:i<0
   .simp only[h,if_true]<;>lia
   .simp only[h,if_false]<;>lia
theorem qi(its:List MA)(lo hi:Option Int):slicePick its.toArray lo hi none=((its.drop (HT.pJ its.length 0 lo)).take (HT.pJ its.length its.length hi-HT.pJ its.length 0 lo)).toArray:=by
 obtain⟨h1,h2,h3⟩:=sR lo hi its.toArray.size;unfold slicePick;rw[h1,h2,h3];simp only[sliceRange_one,pick_run,Mm]<;>rfl
def IP(K:W.Frag):V->Option Int->Option Int->Hp->VK->Prop:=fun x lo hi H Q=>∃a xs,x= .ref a/\aG K H a xs/\∀p,H p=none->Q (.ref p) (upd H p (.lst (dw xs lo hi)))
theorem Ea:J6 X (IP X.K):=by
 intro pins s σ H x v vl vu lo hi sl Q I rx hs pl pu h;obtain⟨a,xs,rfl,hx,q⟩:=h;cases rx;obtain⟨its,r,ht,hz⟩:=I.list hx;have hlen:=r.length;refine⟨"list",_,slot_list_getitem.lookup,ht.isList.typeIs,?_⟩;refine wpAny_getItem_list_slice ht.isList hs pl pu .none (by simp) ?_ (by rw[Mm]<;>lia);rw[qi,←hlen];refine⟨.ref s.heap.objs.size,_,I.laid (t':=s.toks) (o:= .lst (dw xs lo hi)) (fun b ob q=>MN.get?_push_of_some _ q) (Ms _) ?_,rfl,q _ (I.bc.fresh (Ms _))⟩;exact⟨Mv (uC xs lo hi) hz,_,0,(r.drop (HT.pJ xs.length 0 lo)).take (HT.pJ xs.length xs.length hi-HT.pJ xs.length 0 lo),MN.get?_push_size _ rfl⟩
def kW:V->Bool
 | .cE=>true
 | .bl _=>true
 | .int _=>true
 | .str _=>true
 |_=>false
def wu:V->V->Bool
 | .cE,.cE=>true
 | .bl a,.bl b=>a==b
 | .bl a,.int b=>(if a then 1 else 0)==b
 | .int a,.bl b=>a==(if b then 1 else 0)
 | .int a,.int b=>a==b
 | .str a,.str b=>a==b
 |_,_=>false
theorem FK{A:MF}{s:MC}{y x:V}{u v:MA}(ry:RelV y u)(rx:RelV x v)(fy:kW y=true)(fx:kW x=true):SeqAt.EqAt A s u v (wu y x):=by
 cases y with
 |cE=>
  cases ry
  cases x with
  |cE=>cases rx;exact SeqAt.EqAt.same _
  |bl b=>cases rx;exact SeqAt.EqAt.none_bool b
  |int b=>obtain⟨t,rfl⟩:=rx;exact SeqAt.EqAt.none_int b t
  |str b=>obtain⟨t,rfl⟩:=rx;exact SeqAt.EqAt.none_str b t
  |_=>exact absurd (show false=true from fx) Mx
 |bl a=>
  cases ry
  cases x with
  |cE=>cases rx;exact SeqAt.EqAt.bool_none a
  |bl b=>cases rx;exact SeqAt.EqAt.bool_bool a b
  |int b=>obtain⟨t,rfl⟩:=rx;exact SeqAt.EqAt.bool_int a b t
  |str b=>obtain⟨t,rfl⟩:=rx;exact SeqAt.EqAt.bool_str a b t
  |_=>exact absurd (show false=true from fx) Mx
 |int a=>
  obtain⟨t',rfl⟩:=ry
  cases x with
  |cE=>cases rx;exact SeqAt.EqAt.int_none a t'
  |bl b=>cases rx;exact SeqAt.EqAt.int_bool a t' b
  |int b=>obtain⟨t,rfl⟩:=rx;exact SeqAt.EqAt.int_int a t' b t
  |str b=>obtain⟨t,rfl⟩:=rx;exact SeqAt.EqAt.int_str a t' b t
  |_=>exact absurd (show false=true from fx) Mx
 |str a=>
  obtain⟨t',rfl⟩:=ry
  cases x with
  |cE=>cases rx;exact SeqAt.EqAt.str_none a t'
  |bl b=>cases rx;exact SeqAt.EqAt.str_bool a t' b
  |int b=>obtain⟨t,rfl⟩:=rx;exact SeqAt.EqAt.str_int a t' b t
  |str b=>obtain⟨t,rfl⟩:=rx;exact SeqAt.EqAt.str_str a t' b t
  |_=>exact absurd (show false=true from fx) Mx
 |_=>exact absurd (show false=true from fy) Mx
def wB(x:V)(u:MA):Bool:=match u with
 | .none=>wu .cE x
 | .bool b=>wu (.bl b) x
 | .int i _=>wu (.int i) x
 | .str z _=>wu (.str z) x
 |_=>false
theorem A7{x y:V}{u:MA}(r:RelV y u)(f:kW y=true):wB x u=wu y x:=by
 cases y with
 |cE=>cases r;rfl
 |bl b=>cases r;rfl
 |int i=>obtain⟨t,rfl⟩:=r;rfl
 |str z=>obtain⟨t,rfl⟩:=r;rfl
 |_=>exact absurd (show false=true from f) Mx
theorem lu{x:V}:∀{xs:List V}{us:List MA},Vals xs us->xs.all kW=true->us.any (wB x)=xs.any fun y=>wu y x
 |_,_,.nil,_=>rfl
 |y::xs,u::us,.cons r t,f=>by
  rw[Mc,Bool.and_eq_true]at f;rw[List.any_cons,List.any_cons,A7 r f.1,lu t f.2]
theorem jw{A:MF}{s:MC}{x:V}{v:MA}(rx:RelV x v)(fx:kW x=true):∀{xs:List V}{us:List MA},Vals xs us->xs.all kW=true->∀u∈us,SeqAt.EqAt A s u v (wB x u)
 |_,_,.nil,_=>fun u hu=>by cases hu
 |y::xs,u::us,.cons r t,f=>fun u' hu=>by
  rw[Mc,Bool.and_eq_true]at f;rcases List.mem_cons.mp hu with rfl|hu
  .rw[A7 r f.1];exact FK r rx f.1 fx
  .exact jw rx fx t f.2 u' hu
def BI(x:V)(xs:List V):Bool:=xs.any fun y=>wu y x
def JV(K:W.Frag)(neg:Bool):R2:=fun x y H Q=>∃p xs,y= .ref p/\(aG K H p xs\/dH K H p xs)/\kW x=true/\xs.all kW=true/\Q (.bl (if neg then !BI x xs else BI x xs)) H
theorem zu:j0 X (compareOp .In) (JV X.K false):=by
 intro pins s σ H x y v u Q I rx ry h;obtain⟨p,xs,rfl,hq,fx,fs,q⟩:=h;cases ry;rcases hq with hq|hq
 .obtain⟨its,r,pl,hz⟩:=I.list hq
  refine SeqAt.in_listAt (wB x) pl.isList (fun w hw=>jw rx fx r fs w (by simpa using hw)) ⟨.bl _,H,I,rfl,?_⟩;rw[show its.toArray.any (wB x)=its.any (wB x) by simp,lu r fs];exact q
 .obtain⟨its,r,pl,hz⟩:=I.tuple hq
  refine SeqAt.in_tupleAt (wB x) pl (fun w hw=>jw rx fx r fs w (by simpa using hw)) ⟨.bl _,H,I,rfl,?_⟩;rw[show its.toArray.any (wB x)=its.any (wB x) by simp,lu r fs];exact q
theorem tI:j0 X (compareOp .NotIn) (JV X.K true):=by
 intro pins s σ H x y v u Q I rx ry h;obtain⟨p,xs,rfl,hq,fx,fs,q⟩:=h;cases ry;rcases hq with hq|hq
 .obtain⟨its,r,pl,hz⟩:=I.list hq
  refine SeqAt.notIn_listAt (wB x) pl.isList (fun w hw=>jw rx fx r fs w (by simpa using hw)) ⟨.bl _,H,I,rfl,?_⟩;rw[show its.toArray.any (wB x)=its.any (wB x) by simp,lu r fs];exact q
 .obtain⟨its,r,pl,hz⟩:=I.tuple hq
  refine SeqAt.notIn_tupleAt (wB x) pl (fun w hw=>jw rx fx r fs w (by simpa using hw)) ⟨.bl _,H,I,rfl,?_⟩;rw[show its.toArray.any (wB x)=its.any (wB x) by simp,lu r fs];exact q
theorem sQ:bX X (.builtin "len") (fun xs H Q=>∃p ys,xs=[.ref p]/\(aG X.K H p ys\/dH X.K H p ys)/\Q (.int ys.length) H):=by
 intro pins s σ H xs us Q I r h;obtain⟨p,ys,rfl,hq,q⟩:=h;obtain⟨u,rfl,rx⟩:=vals1 r;cases rx;have hn:=kI;rcases hq with hq|hq
 .obtain⟨its,r',pl,hz⟩:=I.list hq
  have hlen:=r'.length;exact Calls.call_len_list pl.isList (by simp only[Mm]<;>lia) ⟨.int ys.length,H,I.tok _,⟨s.toks+1,by rw[Mm,hlen]⟩,q⟩
 .obtain⟨its,r',pl,hz⟩:=I.tuple hq
  have hlen:=r'.length;exact len_tuple pl (by simp only[Mm]<;>lia) ⟨.int ys.length,H,I.tok _,⟨s.toks+1,by rw[Mm,hlen]⟩,q⟩
theorem fZ:bX X (.builtin "len") (fun xs H Q=>∃z,xs=[.str z]/\z.length<=MG/\Q (.int z.length) H):=by
 intro pins s σ H xs us Q I r h;obtain⟨z,rfl,hz,q⟩:=h;obtain⟨u,rfl,t,rfl⟩:=vals1 r;have hn:=kI;exact len_str (by lia) ⟨.int z.length,H,I.tok _,⟨_,rfl⟩,q⟩
theorem sr:bX X (.type "list") (fun xs H Q=>∃p ys,xs=[.ref p]/\(aG X.K H p ys\/dH X.K H p ys)/\∀l,H l=none->Q (.ref l) (upd H l (.lst ys))):=by
 intro pins s σ H xs us Q I r h;obtain⟨p,ys,rfl,hq,q⟩:=h;obtain⟨u,rfl,rx⟩:=vals1 r;cases rx;have fin:∀(its:List MA),Vals ys its->ys.length<=MG->∀(h':MN)(c':Nat),(∀b o',s.heap.get? b=some o'->h'.get? b=some o')->
   h'.get? s.heap.objs.size=some {cls:= .type "list",dict:=none,data:= .seq its.toArray c',slots:= #[]}->EP X pins σ Q (.ref s.heap.objs.size) {s with heap:=h'}:=fun its r' hz h' c' kp e=>
  ⟨.ref s.heap.objs.size,_,I.laid (t':=s.toks) kp (Ms _) (show bH X.prog X.w _ h' _ (.lst ys)from⟨hz,its,c',r',e⟩),rfl,q _ (I.bc.fresh (Ms _))⟩
 rcases hq with hq|hq
 .obtain⟨its,r',pl,hz⟩:=I.list hq
  have hlen:=r'.length;obtain⟨o,ho,hc,n,hd⟩:=pl.isList;exact call_list_seq p (.inl rfl) ho hc hd (fun h' c' kp e=>fin its r' hz h' c' kp e) (by simp only[Mm]<;>lia)
 .obtain⟨its,r',pl,hz⟩:=I.tuple hq
  have hlen:=r'.length;obtain⟨o,ho,hc,n,hd⟩:=pl;exact call_list_seq p (.inr rfl) ho hc hd (fun h' c' kp e=>fin its r' hz h' c' kp e) (by simp only[Mm]<;>lia)
theorem qw:bX X (.type "tuple") (fun xs H Q=>∃p ys,xs=[.ref p]/\((aG X.K H p ys/\∀l,H l=none->Q (.ref l) (upd H l (.tup ys)))\/(dH X.K H p ys/\Q (.ref p) H))):=by
 intro pins s σ H xs us Q I r h;obtain⟨p,ys,rfl,h⟩:=h;obtain⟨u,rfl,rx⟩:=vals1 r;cases rx;rcases h with⟨hq,q⟩|⟨hq,q⟩
 .obtain⟨its,r',pl,hz⟩:=I.list hq
  have hlen:=r'.length;refine call_tuple_list pl.isList (fun h' kp=>?_) (by simp only[Mm]<;>lia);have I1:Inv X pins σ H {s with heap:=h'}:=I.kept (t':=s.toks) kp;have I2:Inv X pins σ (upd H h'.objs.size (.tup ys)) {s with heap:=h'.push {cls:= .type "tuple",data:= .seq its.toArray}}:=
   I1.laid (t':=s.toks) (fun b o e=>MN.get?_push_of_some _ e) (Ms _) (show bH X.prog X.w _ _ _ (.tup ys)from⟨hz,its,r',IsTup.new _ _⟩)
  exact⟨.ref h'.objs.size,_,I2,rfl,q _ (I1.bc.fresh (Ms _))⟩
 .obtain⟨its,r',pl,hz⟩:=I.tuple hq
  exact call_tuple_same pl ⟨.ref p,H,I,rfl,q⟩
def Ko(K:W.Frag)(T:String)(x:V)(H:Hp):Prop:=match x with
 | .str _=>T= "str"
 | .int _=>T= "int"
 | .ref p=>(T= "list"/\∃xs,aG K H p xs)\/(T= "tuple"/\((∃o,K.lookup p=some o/\o.cls= .type "tuple"/\o.dict=none)\/∃o xs,H p=some (.uW o (.tup xs))/\o.cls= .type "tuple"/\o.dict=none))\/
   (T= "dict"/\((∃kvs,H p=some (.dK kvs))\/∃kvs,H p=some (.dT kvs)))\/(T= "set"/\∃S n,H p=some (.set S n))
 |_=>False
theorem Cb{pins:List (MB×Obj)}{σ:St}{H:Hp}{s:MC}{T:String}{x:V}{v:MA}(I:Inv X pins σ H s)(r:RelV x v)(ty:Ko X.K T x H):
  s.TypeIs v T/\∀a,v= .ref a->∃ob,s.heap.get? a=some ob/\ob.dict=none:=by
 cases x with
 |str z=>
  obtain⟨t,rfl⟩:=r;cases(show T= "str"from ty);exact⟨typeIs_str s z t,fun _ e=>nomatch e⟩
 |int i=>
  obtain⟨t,rfl⟩:=r;cases(show T= "int"from ty);exact⟨typeIs_int s i t,fun _ e=>nomatch e⟩
 |ref p=>
  cases r;rcases ty with⟨rfl,xs,hq⟩|⟨rfl,⟨o,hk,hc,hd⟩|⟨o,xs,hk,hc,hd⟩⟩|⟨rfl,hk⟩|⟨rfl,S,n,hk⟩
  .obtain⟨its,_,pl,_⟩:=I.list hq
   refine⟨pl.isList.typeIs,fun a e=>?_⟩;cases e;obtain⟨o,n,e,c,hd,_⟩:=pl;exact⟨o,e,hd⟩
  .refine⟨⟨o,I.je p o hk,hc⟩,fun a e=>?_⟩
   cases e;exact⟨o,I.je _ o hk,hd⟩
  .obtain⟨e,_⟩:=(show bH X.prog X.w H s.heap p (.uW o (.tup xs))from I.bc p _ hk)
   exact⟨⟨o,e,hc⟩,fun a z=>by cases z;exact⟨o,e,hd⟩⟩
  .have z:∃o,s.heap.get? p=some o/\o.ExactDict:=by
    rcases hk with⟨kvs,hk⟩|⟨kvs,hk⟩
    .obtain⟨_,_,_,_,o,_,_,e,ex,_⟩:=I.bc p _ hk
     exact⟨o,e,ex⟩
    .obtain⟨_,_,_,_,o,_,_,e,ex,_⟩:=I.bc p _ hk
     exact⟨o,e,ex⟩
   obtain⟨o,e,ex⟩:=z;refine⟨⟨o,e,ex.1⟩,fun a e2=>?_⟩;cases e2;exact⟨o,e,ex.2.1⟩
  .obtain⟨o,_,_,_,e,ex,_⟩:=I.bc p _ hk
   refine⟨⟨o,e,ex.1⟩,fun a e2=>?_⟩;cases e2;exact⟨o,e,ex.2.1⟩
 |_=>exact False.elim ty
def Ig(K:W.Frag)(T:String)(r:V->List V->Hp->VK->Prop)(to:TE):TE:=fun σ H Q=>to σ H fun x H1=>Ko K T x H1/\r x [] H1 Q
def Lp(K:W.Frag)(T:String)(r:V->List V->Hp->VK->Prop)(to:TE)(t:TA):TE:=fun σ H Q=>to σ H fun x H1=>Ko K T x H1/\t σ H1 fun xs H2=>r x xs H2 Q
variable{o e:Expr}{es:List Expr}{to:TE}{t:TA}{name:Str}{apos cpos:Pos}{T id:String}{r:V->List V->Hp->VK->Prop}
theorem FI(pa:PlainAttrs T)(slot:Slot T name id)(hty:typeOf (.builtin id)=pure (.type "method_descriptor"))(hm:zW X id r)(ho:PE X o to)
  (hbase:attributeBase o name X.env (eval o X.env)=eval o X.env:=by rfl) (hline:(apos.endLine==cpos.line)=true:=by rfl):PE X (.Call (.Attribute o name apos) [] [] cpos) (Ig X.K T r to):=by
 intro pins s σ H Q I h;refine wpAny_Call_method0_late hbase hline (aV (ho pins s σ H _ I h) fun v s1 ⟨x,H1,I1,r1,ty,q1⟩=>?_);obtain⟨h1,h2⟩:=Cb I1 r1 ty;exact⟨T,id,pa,slot,hty,h1,h2,Calls.callWith_builtin rfl (PySem.evalArgs_none (hm pins s1 σ H1 x [] v [] Q I1 r1 .nil q1))⟩
theorem JI(pa:PlainAttrs T)(slot:Slot T name id)(hty:typeOf (.builtin id)=pure (.type "method_descriptor"))(hm:zW X id r)(ho:PE X o to)(ha:PA X (e::es) t)
  (hbase:attributeBase o name X.env (eval o X.env)=eval o X.env:=by rfl)
  (hfew:((MO cpos (ML (e::es) X.env)).all (fun x=> !x.1)&&(backToKw cpos (keywordEach [] X.env)).all (fun x=>x.1.isSome)
   &&decide ((e::es).length+([]:List Keyword).length+(if([]:List Keyword).isEmpty then 0 else 1)<30))=true:=by rfl)
  (hline:(apos.endLine==cpos.line)=true:=by rfl) (hs:ML (e::es) X.env=(false,eval e X.env)::ML es X.env:=by rfl) (hplain:(MO cpos (ML es X.env)).any (·.1)=false:=by rfl):
  PE X (.Call (.Attribute o name apos) (e::es) [] cpos) (Lp X.K T r to t):=by
 intro pins s σ H Q I h;refine wpAny_Call_method_late hbase hfew hline rfl (aV (ho pins s σ H _ I h) fun v s1 ⟨x,H1,I1,r1,ty,q1⟩=>?_);obtain⟨h1,h2⟩:=Cb I1 r1 ty;refine⟨T,id,pa,slot,hty,h1,h2,?_⟩;have hA:=ha cpos pins s1 σ H1 _ I1 q1;rw[hs]at hA⊢;refine Calls.callWith_builtin (by show(false||(MO cpos (ML es X.env)).any (·.1))=false;rw[hplain]<;>rfl) (Calls.evalArgs_plain ?_);exact aV hA fun us s2 ⟨vs,H2,I2,r2,q2⟩=>hm pins s2 σ H2 x vs v us Q I2 r1 r2 q2
end
def KY(X:Cx)(id:String)(r:V->List V->Hp->VK->Prop):Prop:=
 ∀(pins:List (MB×Obj))(s:MC)(σ:St)(H:Hp)(x:V)(xs:List V)(v:MA)(us:List MA)(Q:VK),Inv X pins σ H s->RelV x v->Vals xs us->r x xs H Q->
  MP (model X.prog X.w) X.A (call (.builtin id) (v::us)) (EP X pins σ Q) X.xe s
theorem Vals.one:∀{x:V}{us:List MA},Vals [x] us->∃u,us=[u]/\RelV x u
 |_,_,.cons r .nil=>⟨_,rfl,r⟩
theorem Vals.dropLast {xs:List V}{us:List MA}(h:Vals xs us):Vals xs.dropLast us.dropLast:=by
 induction h with
 |nil=>exact .nil
 |cons r t ih=>
  cases t with
  |nil=>exact .nil
  |cons q t'=>exact .cons r ih
theorem Vals.eraseIdx:∀{xs:List V}{us:List MA}(i:Nat),Vals xs us->Vals (xs.eraseIdx i) (us.eraseIdx i)
 |_,_,_,.nil=> .nil
 |_,_,0,.cons _ t=>t
 |_,_,i+1,.cons r t=> .cons r (Vals.eraseIdx i t)
theorem Vals.reverse {xs:List V}{us:List MA}(h:Vals xs us):Vals xs.reverse us.reverse:=by
 induction h with
 |nil=>exact .nil
 |cons r t ih=>rw[List.reverse_cons,List.reverse_cons];exact Vals.append ih (.cons r .nil)
theorem Hn{α:Type}(l:List α):l.eraseIdx (l.length-1)=l.dropLast:=by
 induction l with
 |nil=>rfl
 |cons a r ih=>
  cases r with
  |nil=>rfl
  |cons b r=>
   have e:(a::b::r).length-1=((b::r).length-1)+1:=by
    have h1:(a::b::r).length=r.length+2:=rfl;have h2:(b::r).length=r.length+1:=rfl;lia
   rw[e,List.eraseIdx_cons_succ,ih]
   all_goals rfl
theorem qK{α:Type}:∀(l:List α)(i:Nat),(l.eraseIdx i).length<=l.length
 |[],_=>Ms _
 |_::_,0=>Nat.le_succ _
 |_::r,i+1=>Nat.succ_le_succ (qK r i)
section
variable{X:Cx}{pins:List (MB×Obj)}{σ:St}{H:Hp}{s:MC}{l b:MB}{xs ys zs:List V}
theorem Inv.Dc {its its':List MA}{n:Nat}{f:Array MA->Array MA}{t':Nat}(I:Inv X pins σ H s)(hH:H l=some (.lst xs))
  (e:s.heap.get? l=some {cls:= .type "list",data:= .seq its.toArray n}) (hf:f its.toArray=its'.toArray) (hv:Vals ys its') (hz:ys.length<=MG):
  Inv X pins σ (upd H l (.lst ys)) {s with heap:=s.heap.update l (Obj.mapSeq f),toks:=t'}:=by
 have q:=PySem.IsL.update e f;rw[hf]at q;refine I.write (x:=l) (e:=l) (by rw[hH];exact trivial) (.inl rfl) (fun b' u hb hu=>(MN.get?_update_other s.heap (Obj.mapSeq f) (Ne.symm hb)).trans hu) ⟨_,q⟩ ?_;exact⟨hz,its',_,hv,q⟩
theorem Inv.Ky {its:List MA}{t':Nat}(I:Inv X pins σ H s)(hv:Vals ys its)(hz:ys.length<=MG):
  Inv X pins σ (upd H s.heap.objs.size (.lst ys)) {s with heap:=s.heap.push {cls:= .type "list",data:= .seq its.toArray},toks:=t'}:=
 I.laid (fun _ _ q=>MN.get?_push_of_some _ q) (Ms _) ⟨hz,its,0,hv,MN.get?_push_size _ rfl⟩
theorem Inv.fresh (I:Inv X pins σ H s):H s.heap.objs.size=none:=I.bc.fresh (Ms _)
theorem Inv.qk (I:Inv X pins σ H s)(hH:H l=some (.lst xs)):xs.length<=MG/\∃(its:List MA)(n:Nat),Vals xs its/\xs.length=its.length/\s.heap.get? l=some {cls:= .type "list",data:= .seq its.toArray n}:=by
 obtain⟨z,its,n,r,e⟩:=I.bc l _ hH;exact⟨z,its,n,r,r.length,e⟩
theorem Cv{n:Nat}(h:n<=MG):MS.List.listTooLong n=false:=by
 unfold MS.List.listTooLong;exact decide_eq_false (by lia)
end
section
variable{X:Cx}
def EL:V->List V->Hp->VK->Prop:=fun x vs H Q=>∃l xs y,x= .ref l/\vs=[y]/\H l=some (.lst xs)/\xs.length<MG/\Q .cE (upd H l (.lst (xs++[y])))
theorem eV:KY X "list.append" EL:=by
 intro pins s σ H x vs v us Q I rx rv h;obtain⟨l,xs,y,rfl,rfl,hH,hz,q⟩:=h;cases rx;obtain⟨u,rfl,ru⟩:=rv.one;obtain⟨z,its,n,r,hl,e⟩:=I.qk hH;refine call_meets F.slot_list_append ⟨_,e,rfl⟩ F.entry_list_append (F.args_list_append_2 _ _) (PySem.list_append l its.toArray n u (by rw[Mm];lia)) ⟨e,?_⟩;refine⟨.cE,_,I.Dc (its':=its++[u]) hH e (by simp) (r.append (.cons ru .nil)) ?_,rfl,q⟩;rw[LY,List.length_singleton];lia
def Eo:V->List V->Hp->VK->Prop:=fun x vs H Q=>∃l b xs zs,x= .ref l/\vs=[.ref b]/\H l=some (.lst xs)/\H b=some (.lst zs)/\xs.length+zs.length<=MG/\Q .cE (upd H l (.lst (xs++zs)))
theorem HS:KY X "list.extend" Eo:=by
 intro pins s σ H x vs v us Q I rx rv h;obtain⟨l,b,xs,zs,rfl,rfl,hH,hB,hz,q⟩:=h;cases rx;obtain⟨u,rfl,ru⟩:=rv.one;cases ru;obtain⟨z,its,n,r,hl,e⟩:=I.qk hH;obtain⟨z2,its2,n2,r2,hl2,e2⟩:=I.qk hB;have hsz:its.toArray.size+its2.toArray.size<=MG:=by rw[Mm,Mm];lia
 have hlong:¬(!its.toArray.isEmpty&&MS.List.listTooLong (its.toArray.size+its2.toArray.size))=true:=by
  rw[Cv hsz,Bool.and_false];exact Mx
 refine call_meets F.slot_list_extend ⟨_,e,rfl⟩ F.entry_list_extend (F.args_list_extend_2 _ _)
  (AutoSeq1.list_extend_list_list_0 l its.toArray n b its2.toArray n2 hlong (by rw[Mm];lia) (by lia)) ⟨e,e2,?_⟩
 refine⟨.cE,_,I.Dc (its':=its++its2) hH e (by simp) (r.append r2) ?_,rfl,q⟩;rw[LY];lia
def GL:V->List V->Hp->VK->Prop:=fun x vs H Q=>∃l xs i k y,x= .ref l/\vs=[.int i]/\H l=some (.lst xs)/\-(2^63)<=i/\i<2^63/\seqIndex? i xs.length=some k/\xs[k]?=some y/\Q y (upd H l (.lst (xs.eraseIdx k)))
theorem vd:KY X "list.pop" GL:=by
 intro pins s σ H x vs v us Q I rx rv h;obtain⟨l,xs,i,k,y,rfl,rfl,hH,h1,h2,hk,hy,q⟩:=h;cases rx;obtain⟨u,rfl,ru⟩:=rv.one;obtain⟨t,rfl⟩:=ru;obtain⟨z,its,n,r,hl,e⟩:=I.qk hH;obtain⟨w,hw,rw'⟩:=r.get hy;refine call_meets F.slot_list_pop ⟨_,e,rfl⟩ F.entry_list_pop (F.args_list_pop_2 _ _)
  (MeetsSeq.list_pop_at l its.toArray n i t k w (fitsIndex_both h1 h2) (by rw[Mm,←hl];exact hk) (by rw[←Array.getElem?_toList];exact hw) (by rw[Mm];lia)) ⟨e,?_⟩
 refine⟨y,_,I.Dc (its':=its.eraseIdx k) hH e ?_ (r.eraseIdx k) ?_,rw',q⟩
 .show its.toArray.eraseIdxIfInBounds k=(its.eraseIdx k).toArray
  rw[List.eraseIdxIfInBounds_toArray]
 .have:=qK xs k
  lia
def Km:R2:=fun x y H Q=>∃l b xs zs,x= .ref l/\y= .ref b/\H l=some (.lst xs)/\H b=some (.lst zs)/\xs.length+zs.length<=MG/\∀p,H p=none->Q (.ref p) (upd H p (.lst (xs++zs)))
theorem dC:j0 X (binaryOp .Add) Km:=by
 intro pins s σ H x y v u Q I rx ry h;obtain⟨l,b,xs,zs,rfl,rfl,hH,hB,hz,q⟩:=h;cases rx;cases ry;obtain⟨z,its,n,r,hl,e⟩:=I.qk hH;obtain⟨z2,its2,n2,r2,hl2,e2⟩:=I.qk hB;refine PySem.P.add_list e e2 ?_ (by rw[Mm,Mm];lia);have ea:its.toArray++its2.toArray=(its++its2).toArray:=by simp
 rw[ea];exact⟨.ref _,_,I.Ky (t':=s.toks) (r.append r2) (by rw[LY];lia),rfl,q _ I.fresh⟩
end
section
variable{κ:Type}[DecidableEq κ]
def bV(kvs:List (κ×V))(k:κ):Option V:=(kvs.find? fun kv=>decide (kv.1=k)).map (·.2)
def putK(kvs:List (κ×V))(k:κ)(v:V):List (κ×V):=
 if(kvs.any fun kv=>decide (kv.1=k))=true then kvs.map (fun kv=>if kv.1=k then(kv.1,v)else kv)else kvs++[(k,v)]
def gA(kvs:List (κ×V))(k:κ):List (κ×V):=kvs.filter fun kv=>decide (kv.1≠k)
theorem A9{k:κ}:bV ([]:List (κ×V)) k=none:=rfl
theorem cU{p:κ×V}{r:List (κ×V)}{k:κ}(e:p.1=k):bV (p::r) k=some p.2:=by simp[bV,List.find?_cons,e]
theorem cR{p:κ×V}{r:List (κ×V)}{k:κ}(e:¬p.1=k):bV (p::r) k=bV r k:=by simp[bV,List.find?_cons,e]
theorem lL(k:κ):∀kvs:List (κ×V),(kvs.any fun kv=>decide (kv.1=k))=(bV kvs k).isSome
 |[]=>rfl
 |p::r=>by
  rw[List.any_cons];by_cases e:p.1=k
  .simp only[cU e,decide_eq_true e,Bool.true_or,Option.isSome_some]
  .rw[cR e,decide_eq_false e,Bool.false_or];exact lL k r
theorem vN(k j:κ)(y:V):∀kvs:List (κ×V),bV (kvs.map fun kv=>if kv.1=k then(kv.1,y)else kv) j=(bV kvs j).map fun x=>if j=k then y else x
 |[]=>rfl
 |p::r=>by
  have ih:=vN k j y r;rw[L9];by_cases h:p.1=k
  .rw[if_pos h]
   by_cases e:p.1=j
   .rw[cU (p:=(p.1,y)) e,cU e,Mz,if_pos (e.symm.trans h)]
   .rw[cR (p:=(p.1,y)) e,cR e,ih]
  .rw[if_neg h]
   by_cases e:p.1=j
   .rw[cU (p:=p) e,cU e,Mz,if_neg (fun z=>h (e.trans z))]
   .rw[cR (p:=p) e,cR e,ih]
theorem qX(k j:κ)(y:V):∀kvs:List (κ×V),bV kvs k=none->bV (kvs++[(k,y)]) j=if j=k then some y else bV kvs j
 |[],_=>by
  by_cases e:k=j
  .rw[if_pos e.symm];exact cU (p:=(k,y)) e
  .rw[if_neg (fun z=>e z.symm)];exact cR (p:=(k,y)) e
 |p::r,hn=>by
  rw[List.cons_append];have hk:¬p.1=k:=fun z=>by rw[cU z]at hn;cases hn
  rw[cR hk]at hn;have ih:=qX k j y r hn;by_cases e:p.1=j
  .rw[cU e,cU e,if_neg (fun z=>hk (e.trans z))]
  .rw[cR e,cR e,ih]
theorem kO(kvs:List (κ×V))(k j:κ)(y:V):bV (putK kvs k y) j=if j=k then some y else bV kvs j:=by
 unfold putK;by_cases a:(kvs.any fun kv=>decide (kv.1=k))=true
 .rw[if_pos a,vN]
  rw[lL]at a;by_cases e:j=k
  .obtain⟨x,hx⟩:=Option.isSome_iff_exists.mp a
   rw[if_pos e,e,hx,Mz,if_pos rfl]
  .rw[if_neg e]
   cases bV kvs j with
   |none=>rfl
   |some x=>rw[Mz,if_neg e]
 .rw[if_neg a]
  refine qX k j y kvs ?_;rw[lL]at a
  cases q:bV kvs k with
  |none=>rfl
  |some x=>rw[q]at a;exact(a rfl).elim
theorem gM(kvs:List (κ×V))(k:κ)(v:V):(putK kvs k v).length<=kvs.length+1:=by
 unfold putK
 split
 .rw[LW];lia
 .rw[LY,L8,List.length_nil];lia
theorem gY.dm {o:Option V}{u:Option MA}(r:gY o u):o.isSome=u.isSome:=by
 cases o with
 |none=>cases u with
  |none=>rfl
  |some _=>exact(show False from r).elim
 |some _=>cases u with
  |none=>exact(show False from r).elim
  |some _=>rfl
theorem gY.getD {o:Option V}{u:Option MA}{d:V}{d':MA}(r:gY o u)(rd:RelV d d'):RelV (o.getD d) (u.getD d'):=by
 cases o with
 |none=>cases u with
  |none=>exact rd
  |some _=>exact(show False from r).elim
 |some _=>cases u with
  |none=>exact(show False from r).elim
  |some _=>exact r
theorem KV.val {kvs:List (κ×V)}{vs:List (κ×MA)}(r:KV kvs vs)(k:κ):gY (bV kvs k) (valueAt vs k):=by
 unfold KV at r
 induction r with
 |nil=>exact True.intro
 | @cons p q ps qs h t ih=>
  obtain⟨h1,h2⟩:=h;by_cases e:p.1=k
  .have e':q.1=k:=h1.symm.trans e
   have b:valueAt (q::qs) k=some q.2:=by simp[valueAt,List.find?_cons,e']
   rw[cU e,b];exact h2
  .have e':¬q.1=k:=fun z=>e (h1.trans z)
   have b:valueAt (q::qs) k=valueAt qs k:=by simp[valueAt,List.find?_cons,e']
   rw[cR e,b];exact ih
theorem KV.any {kvs:List (κ×V)}{vs:List (κ×MA)}(r:KV kvs vs)(k:κ):(kvs.any fun kv=>decide (kv.1=k))=vs.any fun kv=>decide (kv.1=k):=by
 unfold KV at r
 induction r with
 |nil=>rfl
 |cons h t ih=>rw[List.any_cons,List.any_cons,ih,h.1]
theorem KV.GB {kvs:List (κ×V)}{vs:List (κ×MA)}(r:KV kvs vs)(k:κ){y:V}{u:MA}(ry:RelV y u):
  KV (kvs.map fun kv=>if kv.1=k then(kv.1,y)else kv) (vs.map fun kv=>if kv.1=k then(kv.1,u)else kv):=by
 unfold KV at r⊢
 induction r with
 |nil=>exact .nil
 | @cons p q ps qs h t ih=>
  rw[L9,L9];refine .cons ?_ ih;obtain⟨h1,h2⟩:=h;by_cases e:p.1=k
  .rw[if_pos e,if_pos (h1.symm.trans e)];exact⟨h1,ry⟩
  .rw[if_neg e,if_neg (fun z=>e (h1.trans z))];exact⟨h1,h2⟩
theorem KV.put {kvs:List (κ×V)}{vs:List (κ×MA)}(r:KV kvs vs)(k:κ){y:V}{u:MA}(ry:RelV y u):KV (putK kvs k y) (stored vs k u):=by
 unfold putK stored;rw[r.any k];by_cases e:(vs.any fun kv=>decide (kv.1=k))=true
 .rw[if_pos e,if_pos e];exact r.GB k ry
 .rw[if_neg e,if_neg e];exact Paired.snoc r ⟨rfl,ry⟩
theorem KV.drop {kvs:List (κ×V)}{vs:List (κ×MA)}(r:KV kvs vs)(k:κ):KV (gA kvs k) (without vs k):=by
 unfold KV at r⊢;unfold gA without
 induction r with
 |nil=>exact .nil
 | @cons p q ps qs h t ih=>
  obtain⟨h1,h2⟩:=h;rw[List.filter_cons,List.filter_cons];by_cases e:p.1=k
  .have a:¬decide (p.1≠k)=true:=by simp[e]
   have b:¬decide (q.1≠k)=true:=by simp[h1.symm.trans e]
   rw[if_neg a,if_neg b];exact ih
  .have e':¬q.1=k:=fun z=>e (h1.trans z)
   have a:decide (p.1≠k)=true:=by simp[e]
   have b:decide (q.1≠k)=true:=by simp[e']
   rw[if_pos a,if_pos b];exact .cons ⟨h1,h2⟩ ih
theorem KV.keys {kvs:List (κ×V)}{vs:List (κ×MA)}(r:KV kvs vs):kvs.map (·.1)=vs.map (·.1):=by
 unfold KV at r
 induction r with
 |nil=>rfl
 |cons h t ih=>rw[L9,L9,ih,h.1]
theorem KV.length {kvs:List (κ×V)}{vs:List (κ×MA)}(r:KV kvs vs):kvs.length=vs.length:=Paired.length r
theorem uz(kvs:List (κ×V))(k:κ):(gA kvs k).length<=kvs.length:=List.length_filter_le _ _
end
theorem hV{P:MD}{w:ME}{k:Key}{u:MA}(r:RelV (kV k) u):(a6 P w).is k u=true:=by
 cases k with
 |inl i=>obtain⟨t,e⟩:=(show∃t,u=MA.int i t from r);subst e;exact uE P w i t
 |inr x=>obtain⟨t,e⟩:=(show∃t,u=MA.str x t from r);subst e;exact um P w x t
theorem rW{P:MD}{w:ME}:∀{ks:List Key}{us:List MA},Vals (ks.map kV) us->ItemsAre (a6 P w) ks us
 |[],_,r=>by rw[List.map_nil]at r;cases r;exact .nil
 |k::ks,_,r=>by
  rw[L9]at r
  cases r with
  |cons h t=>exact .cons (hV h) (rW t)
abbrev KT(H:Hp):List (List Key×V)->List (List Key×MB×MA)->Prop:=Paired fun p q=>p.1=q.1/\H q.2.1=some (.tup (p.1.map kV))/\RelV p.2 q.2.2
theorem KT.val {H:Hp}{kvs:List (List Key×V)}{xs:List (List Key×MB×MA)}(r:KT H kvs xs)(k:List Key):gY (bV kvs k) ((atKey xs k).map (·.2)):=by
 induction r with
 |nil=>exact True.intro
 | @cons p q ps qs h t ih=>
  obtain⟨h1,_,h2⟩:=h;by_cases e:p.1=k
  .have e':q.1=k:=h1.symm.trans e
   have b:atKey (q::qs) k=some q.2:=by simp[atKey,List.find?_cons,e']
   rw[cU e,b];exact h2
  .have e':¬q.1=k:=fun z=>e (h1.trans z)
   have b:atKey (q::qs) k=atKey qs k:=by simp[atKey,List.find?_cons,e']
   rw[cR e,b];exact ih
theorem KT.GB {H:Hp}{kvs:List (List Key×V)}{xs:List (List Key×MB×MA)}(r:KT H kvs xs)(k:List Key){y:V}{u:MA}(ry:RelV y u):
  KT H (kvs.map fun kv=>if kv.1=k then(kv.1,y)else kv) (xs.map (putAt k u)):=by
 induction r with
 |nil=>exact .nil
 | @cons p q ps qs h t ih=>
  rw[L9,L9];refine .cons ?_ ih;obtain⟨h1,h2,h3⟩:=h;unfold putAt;by_cases e:p.1=k
  .rw[if_pos e,if_pos (h1.symm.trans e)];exact⟨h1,h2,ry⟩
  .rw[if_neg e,if_neg (fun z=>e (h1.trans z))];exact⟨h1,h2,h3⟩
theorem KT.put {H:Hp}{kvs:List (List Key×V)}{xs:List (List Key×MB×MA)}(r:KT H kvs xs)(k:List Key){b:MB}{y:V}{u:MA}(hb:H b=some (.tup (k.map kV)))(ry:RelV y u):
  KT H (putK kvs k y) (storedH xs k b u):=by
 have e:(kvs.any fun kv=>decide (kv.1=k))=(atKey xs k).isSome:=by
  rw[lL,(r.val k).dm,Option.isSome_map]
 unfold putK storedH;rw[e];by_cases q:(atKey xs k).isSome=true
 .rw[if_pos q,if_pos q];exact r.GB k ry
 .rw[if_neg q,if_neg q];exact Paired.snoc r ⟨rfl,hb,ry⟩
theorem KT.keeps {H H':Hp}{kvs:List (List Key×V)}{xs:List (List Key×MB×MA)}(r:KT H kvs xs)(ht:∀b ys,H b=some (.tup ys)->H' b=some (.tup ys)):KT H' kvs xs:=
 Paired.wG r fun _ _ z=>⟨z.1,ht _ _ z.2.1,z.2.2⟩
section
variable{P:MD}{w:ME}{H:Hp}{h:MN}{a:MB}
theorem Fo{u:HO}(ok:jV P w H h)(e:Rd H a u):bH P w H h a u:=e.ok ok
theorem oh{kvs:List (Key×V)}(ok:jV P w H h)(e:Rd H a (.dK kvs)):kvs.length<=MG/\(a==sysModules)=false/\∃vs,KV kvs vs/\h.DictOf (a6 P w) a vs:=
 show bH P w H h a (.dK kvs)from Fo ok e
theorem uF{kvs:List (Key×V)}(ok:jV P w H h)(e:H a=some (.dK kvs)):kvs.length<=MG/\(a==sysModules)=false/\∃vs,KV kvs vs/\h.DictOf (a6 P w) a vs:=oh ok (.inl e)
theorem mO{ks:List Key}(ok:jV P w H h)(e:H a=some (.tup (ks.map kV))):(tupleKind (a6 P w)).is h ks a:=by
 obtain⟨_,its,r,o,h1,h2,n,h3⟩:=(show bH P w H h a (.tup (ks.map kV))from ok a _ e);exact⟨o,its.toArray,n,h1,h2,h3,by simpa using rW r⟩
theorem oi{kvs:List (List Key×V)}(ok:jV P w H h)(e:Rd H a (.dT kvs)):kvs.length<=MG/\(a==sysModules)=false/\
  ∃xs,KT H kvs xs/\h.DictOfH (tupleKind (a6 P w)) a xs:=by
 obtain⟨z,y,xs,r,o,es,ep,h1,h2,h3,h4,h5⟩:=(show bH P w H h a (.dT kvs)from Fo ok e);refine⟨z,y,xs,r,o,es,ep,h1,h2,h3,h4,fun x hx=>?_,h5⟩;have all:∀{l:List (List Key×V)}{m:List (List Key×MB×MA)},KT H l m->∀x∈m,(tupleKind (a6 P w)).is h x.1 x.2.1:=by
  intro l m q
  induction q with
  |nil=>intro x hx;exact nomatch hx
  | @cons p q ps qs hq t ih=>
   intro x hx;rcases List.mem_cons.mp hx with e|hx
   .subst e
    exact mO ok (by rw[←hq.1];exact hq.2.1)
   .exact ih x hx
 exact all r x hx
theorem Jb{kvs:List (List Key×V)}(ok:jV P w H h)(e:H a=some (.dT kvs)):kvs.length<=MG/\(a==sysModules)=false/\
  ∃xs,KT H kvs xs/\h.DictOfH (tupleKind (a6 P w)) a xs:=oi ok (.inl e)
end
def cK(H:Hp)(a:MB)(y:V)(r:Option V):Prop:=
 (∃kvs k,Rd H a (.dK kvs)/\y=kV k/\r=bV kvs k)\/∃kvs k b,Rd H a (.dT kvs)/\y= .ref b/\H b=some (.tup (k.map kV))/\r=bV kvs k
def uB(H:Hp)(a:MB)(y v:V)(H':Hp):Prop:=
 (∃kvs k,H a=some (.dK kvs)/\y=kV k/\kvs.length<MG/\H'=upd H a (.dK (putK kvs k v)))\/
 ∃kvs k b,H a=some (.dT kvs)/\y= .ref b/\H b=some (.tup (k.map kV))/\kvs.length<MG/\H'=upd H a (.dT (putK kvs k v))
theorem cK.k {H:Hp}{a:MB}{kvs:List (Key×V)}{k:Key}(e:H a=some (.dK kvs)):cK H a (kV k) (bV kvs k):= .inl ⟨kvs,k,.inl e,rfl,rfl⟩
theorem uB.k {H:Hp}{a:MB}{kvs:List (Key×V)}{k:Key}{v:V}(e:H a=some (.dK kvs))(hl:kvs.length<MG):uB H a (kV k) v (upd H a (.dK (putK kvs k v))):= .inl ⟨kvs,k,e,rfl,hl,rfl⟩
section
variable{X:Cx}{pins:List (MB×Obj)}{σ:St}{H:Hp}{s:MC}{a:MB}{y v:V}{u r:MA}{o:Option V}{A:MF}{E:MA->MC->Prop}
theorem Inv.big (I:Inv X pins σ H s):sysModules<s.heap.objs.size:=by
 have h:MH<s.heap.objs.size:=(I.mod.glob.keeps I.bk).lt;exact Nat.lt_trans (by decide) h
theorem Ae{Q:MA->MC->Prop}(hu:A.units+1<cLine)(I:Inv X pins σ H s)(g:cK H a y (some v))(ry:RelV y u)(h:∀w' s',Inv X pins σ H s'->RelV v w'->Q w' s'):
  MP (model X.prog X.w) A (getItem (.ref a) u) Q E s:=by
 rcases g with⟨kvs,k,e,ey,l⟩|⟨kvs,k,b,e,ey,eb,l⟩
 .subst ey
  obtain⟨z,hd,vs,rel,dd⟩:=oh I.bc e;obtain⟨w',hw,rw'⟩:=gY.some_of (v:=v) (o:=valueAt vs k) (by rw[l];exact rel.val k);exact wpAny_getItem_of (hV ry) dd.mapOf hw (h w' _ (I.tok _) rw')
 .subst ey
  cases(show u=MA.ref b from ry);obtain⟨z,hd,xs,rel,dd⟩:=oi I.bc e;obtain⟨w',hw,rw'⟩:=gY.some_of (v:=v) (o:=(atKey xs k).map (·.2)) (by rw[l];exact rel.val k);obtain⟨p,hp,hp2⟩:=Option.map_eq_some_iff.mp hw;refine wpAny_getItem_heap (tupleKind_room_in1 hu) (mO I.bc eb) dd hp ?_;rw[hp2];exact h w' _ (I.tok _) rw'
theorem K4{Q:MA->MC->Prop}(hu:A.units+1<cLine)(I:Inv X pins σ H s)(g:cK H a y o)(ry:RelV y u)(h:∀s',Inv X pins σ H s'->Q (.bool o.isSome) s'):
  MP (model X.prog X.w) A (compareOp .In u (.ref a)) Q E s:=by
 rcases g with⟨kvs,k,e,ey,l⟩|⟨kvs,k,b,e,ey,eb,l⟩
 .subst ey
  obtain⟨z,hd,vs,rel,dd⟩:=oh I.bc e;refine wpAny_in_of (hV ry) hd dd.mapOf ?_;rw[←(rel.val k).dm,←l];exact h _ (I.tok _)
 .subst ey
  cases(show u=MA.ref b from ry);obtain⟨z,hd,xs,rel,dd⟩:=oi I.bc e;refine wpAny_in_heap (tupleKind_room_in1 hu) (mO I.bc eb) hd dd ?_;have q:=(rel.val k).dm;rw[Option.isSome_map]at q;rw[←q,←l];exact h _ (I.tok _)
theorem DE{Q:MA->MC->Prop}(hu:A.units+1<cLine)(I:Inv X pins σ H s)(g:cK H a y o)(ry:RelV y u)(h:∀s',Inv X pins σ H s'->Q (.bool (!o.isSome)) s'):
  MP (model X.prog X.w) A (compareOp .NotIn u (.ref a)) Q E s:=by
 rcases g with⟨kvs,k,e,ey,l⟩|⟨kvs,k,b,e,ey,eb,l⟩
 .subst ey
  obtain⟨z,hd,vs,rel,dd⟩:=oh I.bc e;refine wpAny_notIn_of (hV ry) hd dd.mapOf ?_;rw[←(rel.val k).dm,←l];exact h _ (I.tok _)
 .subst ey
  cases(show u=MA.ref b from ry);obtain⟨z,hd,xs,rel,dd⟩:=oi I.bc e;refine wpAny_notIn_heap (tupleKind_room_in1 hu) (mO I.bc eb) hd dd ?_;have q:=(rel.val k).dm;rw[Option.isSome_map]at q;rw[←q,←l];exact h _ (I.tok _)
theorem lz{h':MN}{t':Nat}{ob:HO}(I:Inv X pins σ H s)(mu:IV (H a))(hs:MN.SameBut a s.heap h')(he:∃q,h'.get? a=some q)(new:bH X.prog X.w (upd H a ob) h' a ob):
  Inv X pins σ (upd H a ob) {s with heap:=h',toks:=t'}:=
 I.write (x:=a) (e:=a) mu (.inl rfl) (fun b q hb z=>(hs.2 b hb).trans z) he new
theorem sU{P:MD}{w:ME}{H':Hp}{h':MN}{kvs:List (Key×V)}{vs:List (Key×MA)}(z:kvs.length<=MG)(hd:(a==sysModules)=false)(rel:KV kvs vs)(dd:h'.DictOf (a6 P w) a vs):
  bH P w H' h' a (.dK kvs):=⟨z,hd,vs,rel,dd⟩
theorem zN{H':Hp}{Q:Unit->MC->Prop}(hu:A.units+1<cLine)(I:Inv X pins σ H s)(g:uB H a y v H')(ry:RelV y u)(rv:RelV v r)(h:∀s',Inv X pins σ H' s'->Q () s'):
  MP (model X.prog X.w) A (setItem (.ref a) u r) Q E s:=by
 rcases g with⟨kvs,k,e,ey,l,eH⟩|⟨kvs,k,b,e,ey,eb,l,eH⟩
 .subst ey eH
  obtain⟨z,hd,vs,rel,dd⟩:=uF I.bc e;have hz:vs.length<=MG:=by rw[←rel.length];exact z
  have hl:(putK kvs k v).length<=MG:=by have:=gM kvs k v;lia
  refine wpAny_setItem_pairs (hsz:=hz) (hV ry) dd fun h' dd' hs=>h _ ?_;have he:∃q,h'.get? a=some q:=let⟨q,_,_,hq,_⟩:=dd';⟨q,hq⟩
  exact lz I (by rw[e];exact True.intro) hs he (sU hl hd (rel.put k rv) dd')
 .subst ey eH
  cases(show u=MA.ref b from ry);obtain⟨z,hd,xs,rel,dd⟩:=Jb I.bc e;have hz:xs.length<=MG:=by rw[←Paired.length rel];exact z
  have hl:(putK kvs k v).length<=MG:=by have:=gM kvs k v;lia
  refine wpAny_setItem_heap (hsz:=hz) (tupleKind_room_in1 hu) (mO I.bc eb) dd fun h' dd' hs=>h _ ?_;obtain⟨q,es,ep,hq,h2,h3,h4,_,h5⟩:=dd';refine lz I (by rw[e];exact True.intro) hs ⟨q,hq⟩ ⟨hl,hd,_,(rel.put k eb rv).keeps fun c ys ec=>?_,q,es,ep,hq,h2,h3,h4,h5⟩;rw[ao (uq ec e (fun z=>nomatch z))];exact ec
end
section
variable{X:Cx}{pins:List (MB×Obj)}{σ:St}{H:Hp}{s:MC}{a:MB}{kvs:List (Key×V)}{k:Key}{u:MA}{A:MF}{E:MA->MC->Prop}
theorem Ah{Q:Unit->MC->Prop}(I:Inv X pins σ H s)(e:H a=some (.dK kvs))(ry:RelV (kV k) u)(l:(bV kvs k).isSome=true)(h:∀s',Inv X pins σ (upd H a (.dK (gA kvs k))) s'->Q () s'):
  MP (model X.prog X.w) A (delItem (.ref a) u) Q E s:=by
 obtain⟨z,hd,vs,rel,dd⟩:=uF I.bc e;refine wpAny_delItem_slot dd.typeIs (by decide) PySem.F.slot_dict_delitem
  (call_meetsIn PySem.F.slot_dict_delitem dd.typeIs PySem.F.entry_dict_delitem (PySem.F.args_dict_delitem_2 _ _) (meets_dict_delitem_pairs (a6 X.prog X.w) a (hV ry)) ⟨vs,dd,by rw[←rel.length];exact z,by rw[←(rel.val k).dm];exact l,fun h' dd' hs=>h _ ?_⟩)
 have he:∃q,h'.get? a=some q:=let⟨q,_,_,hq,_⟩:=dd';⟨q,hq⟩
 exact lz I (by rw[e];exact True.intro) hs he (sU (Mv (uz kvs k) z) hd (rel.drop k) dd')
theorem IB{v:V}{more:List MA}{Q:MA->MC->Prop}(I:Inv X pins σ H s)(e:H a=some (.dK kvs))(ry:RelV (kV k) u)(l:bV kvs k=some v)(hm:more=[]\/∃x,more=[x])
  (h:∀w' s',Inv X pins σ (upd H a (.dK (gA kvs k))) s'->RelV v w'->Q w' s'):MP (model X.prog X.w) A (call (.builtin "dict.pop") (.ref a::u::more)) Q E s:=by
 obtain⟨z,hd,vs,rel,dd⟩:=uF I.bc e;obtain⟨w',hw,rw'⟩:=gY.some_of (v:=v) (o:=valueAt vs k) (by rw[←l];exact rel.val k);have hp:(keyPart u).isSome=true:=by
  cases k with
  |inl i=>obtain⟨t,q⟩:=(show∃t,u=MA.int i t from ry);subst q;rfl
  |inr x=>obtain⟨t,q⟩:=(show∃t,u=MA.str x t from ry);subst q;rfl
 have ha:argsOk "dict.pop" ⟨.ref a::u::more,[]⟩:=by
  rcases hm with q|⟨x,q⟩
  .subst q;exact PySem.F.args_dict_pop_2 _ _
  .subst q;exact PySem.F.args_dict_pop_3 _ _ _
 refine call_meetsIn PySem.F.slot_dict_pop dd.typeIs PySem.F.entry_dict_pop ha (meets_dict_pop_there (a6 X.prog X.w) a (hV ry) more hm hp)
  ⟨vs,w',dd,by rw[←rel.length];exact z,hw,fun h' dd' hs=>h w' _ ?_ rw'⟩
 have he:∃q,h'.get? a=some q:=let⟨q,_,_,hq,_⟩:=dd';⟨q,hq⟩
 exact lz I (by rw[e];exact True.intro) hs he (sU (Mv (uz kvs k) z) hd (rel.drop k) dd')
end
def GX(i:Expr):Prop:=∀ov iv,subscripted i false ov iv=operate [ov,iv] (getItem ov iv)
theorem zd{prog:MD}{w:ME}{A:MF}{E:MA->MC->Prop}{s:MC}{env:Env}{value slice:Expr}{pos:Pos}{T id:String}{Q:MA->MC->Prop}
  (hl:typeLookup (.type T) "__getitem__" =pure (some (.builtin id))) (hs:GX slice)
  (h:MP (model prog w) A (eval value env) (fun o s₁=>MP (model prog w) A (eval slice env) (fun i s₂=>s₂.TypeIs o T/\MP (model prog w) A (getItem o i) Q E s₂) E s₁) E s):
  MP (model prog w) A (eval (.Subscript value slice pos) env) Q E s:=by
 refine Subscript_ (MK h (fun o s₁ h₁=>MK h₁ (fun i s₂ h₂=>?_) fun _ _ x=>x) fun _ _ x=>x);obtain⟨hT,h₂⟩:=h₂;unfold subscriptTail;refine MI ?_;rw[getitemInPython_of_ne hT.not_modules];refine MI (wpAny_specialOf hT hl ?_);have fin:MP (model prog w) A (subscripted slice false o i) (fun r s₃=>MP (model prog w) A (letTemporaryGo value o r>>=fun _=>pure r) Q E s₃) E s₂:=by
  rw[hs o i];exact wpAny_operating (MK h₂ (fun r s₃ h₃=>MI (wpAny_letTemporaryGo (MJ h₃))) fun _ _ x=>x)
 first
  |exact MJ (MI fin)
  |exact MI (MJ (MI fin))
  |exact MI fin
theorem uL{X:Cx}{pins:List (MB×Obj)}{σ:St}{H:Hp}{s:MC}{a:MB}{y:V}{o:Option V}(I:Inv X pins σ H s)(g:cK H a y o):s.TypeIs (.ref a) "dict" :=by
 rcases g with⟨kvs,k,e,_,_⟩|⟨kvs,k,b,e,_,_,_⟩
 .obtain⟨_,_,vs,_,dd⟩:=oh I.bc e
  exact dd.typeIs
 .obtain⟨_,_,xs,_,dd⟩:=oi I.bc e
  exact dd.typeIs
def Iu(td ty:TE):TE:=fun σ H Q=>td σ H fun x H1=>ty σ H1 fun y H2=>∃a v,x= .ref a/\cK H2 a y (some v)/\Q v H2
def KH(ty td:TE):TE:=fun σ H Q=>ty σ H fun y H1=>td σ H1 fun x H2=>∃a o,x= .ref a/\cK H2 a y o/\Q (.bl o.isSome) H2
def DJ(ty td:TE):TE:=fun σ H Q=>ty σ H fun y H1=>td σ H1 fun x H2=>∃a o,x= .ref a/\cK H2 a y o/\Q (.bl (!o.isSome)) H2
def IF(td ty tv:TE):TS:=fun D σ H=>tv σ H fun v H1=>td σ H1 fun x H2=>ty σ H2 fun y H3=>∃a H4,x= .ref a/\uB H3 a y v H4/\D.nx σ H4
def Jt(td ty:TE):TS:=fun D σ H=>td σ H fun x H1=>ty σ H1 fun y H2=>∃a kvs k,x= .ref a/\H2 a=some (.dK kvs)/\y=kV k/\(bV kvs k).isSome=true/\D.nx σ (upd H2 a (.dK (gA kvs k)))
section
variable{X:Cx}{o i e value:Expr}{pos pos' tpos:Pos}{td ty tv:TE}
theorem dS(hu:X.A.units+1<cLine)(ho:PE X o td)(hi:PE X i ty)(hs:GX i):PE X (.Subscript o i pos) (Iu td ty):=by
 intro pins s σ H Q I h;refine zd PySem.F.slot_dict_getitem.lookup hs (aV (ho pins s σ H _ I h) fun u s1 ⟨x,H1,I1,rx,q1⟩=>aV (hi pins s1 σ H1 _ I1 q1) fun iv s2 ⟨y,H2,I2,ry,a,v,ex,g,q2⟩=>?_);subst ex;obtain rfl:u=MA.ref a:=rx;exact⟨uL I2 g,Ae hu I2 g ry fun w' s3 I3 rw'=>⟨v,H2,I3,rw',q2⟩⟩
theorem Bq(hu:X.A.units+1<cLine)(hi:PE X i ty)(ho:PE X o td):PC X .In i o (KH ty td):=by
 intro pins s σ H Q I h;refine aV (hi pins s σ H _ I h) fun iv s1 ⟨y,H1,I1,ry,q1⟩=>aV (ho pins s1 σ H1 _ I1 q1) fun u s2 ⟨x,H2,I2,rx,a,ov,ex,g,q2⟩=>?_;subst ex;obtain rfl:u=MA.ref a:=rx;exact K4 hu I2 g ry fun s3 I3=>⟨.bl ov.isSome,H2,I3,rfl,q2⟩
theorem rA(hu:X.A.units+1<cLine)(hi:PE X i ty)(ho:PE X o td):PC X .NotIn i o (DJ ty td):=by
 intro pins s σ H Q I h;refine aV (hi pins s σ H _ I h) fun iv s1 ⟨y,H1,I1,ry,q1⟩=>aV (ho pins s1 σ H1 _ I1 q1) fun u s2 ⟨x,H2,I2,rx,a,ov,ex,g,q2⟩=>?_;subst ex;obtain rfl:u=MA.ref a:=rx;exact DE hu I2 g ry fun s3 I3=>⟨.bl (!ov.isSome),H2,I3,rfl,q2⟩
theorem tq(hu:X.A.units+1<cLine)(ho:PE X o td)(hi:PE X i ty)(hv:PE X value tv)(hs:swapsWith value (some (.Subscript o i pos')) pos.line X.env=pure false):
  PS X (.Assign [.Subscript o i pos'] value pos) (IF td ty tv):=by
 intro pins s σ H D I h;refine wpAny_Assign_Subscript (aV (hv pins s σ H _ I h) fun r s1 ⟨v,H1,I1,rv,q1⟩=>aV (ho pins s1 σ H1 _ I1 q1) fun u s2 ⟨x,H2,I2,rx,q2⟩=>aV (hi pins s2 σ H2 _ I2 q2) fun iv s3 ⟨y,H3,I3,ry,a,H4,ex,g,q3⟩=>?_) hs;subst ex;obtain rfl:u=MA.ref a:=rx;exact zN hu I3 g ry rv fun s4 I4=>⟨σ,H4,I4,q3⟩
theorem Ej(ho:PE X o td)(hi:PE X i ty):PS X (.Delete [.Subscript o i tpos] pos) (Jt td ty):=by
 intro pins s σ H D I h;refine wpAny_Delete (wpAny_deleteEach_cons (wpAny_delete_Subscript (aV (ho pins s σ H _ I h) fun u s1 ⟨x,H1,I1,rx,q1⟩=>aV (hi pins s1 σ H1 _ I1 q1) fun iv s2 ⟨y,H2,I2,ry,a,kvs,k,ex,e,ey,l,q2⟩=>?_)));subst ex ey;obtain rfl:u=MA.ref a:=rx;exact Ah I2 e ry l fun s3 I3=>wpAny_deleteEach_nil ⟨σ,_,I3,q2⟩
end
theorem vm{P:MD}{w:ME}{H:Hp}(h:MN)(hb:sysModules<h.objs.size):bH P w H (h.push {cls:= .type "dict",data:= .dict #[]}) h.objs.size (.dK []):=
 ⟨Mw _,beq_eq_false_iff_ne.mpr (Ne.symm (Mu hb)),[],.nil,MN.DictOf.new h⟩
def Gf:TE:=fun _ H Q=>∀p,H p=none->Q (.ref p) (upd H p (.dK []))
section
variable{X:Cx}{pos:Pos}
theorem og:PE X (.Dict [] [] pos) Gf:=fun pins s σ H Q I h=>
 wpAny_Dict_empty ⟨.ref s.heap.objs.size,_,I.laid (a:=s.heap.objs.size) (o:= .dK []) (t':=s.toks) (fun _ _ q=>MN.get?_push_of_some _ q) (Ms _) (vm s.heap I.big),rfl,h _ (I.bc.fresh (Ms _))⟩
end
def wO:List (TE×TE)->St->Hp->(List (V×V)->Hp->Prop)->Prop
 |[],_,H,Q=>Q [] H
 |(tk,tv)::r,σ,H,Q=>tk σ H fun x H1=>tv σ H1 fun y H2=>wO r σ H2 fun ps H3=>Q ((x,y)::ps) H3
abbrev VV:List (V×V)->List (MA×MA)->Prop:=Paired fun p q=>RelV p.1 q.1/\RelV p.2 q.2
def J5(X:Cx)(pos:Pos)(keys:List (Option Expr))(values:List Expr)(trs:List (TE×TE)):Prop:=
 ∀(pins:List (MB×Obj))(s:MC)(σ:St)(H:Hp)(Q:List (V×V)->Hp->Prop),Inv X pins σ H s->wO trs σ H Q->
  MP (model X.prog X.w) X.A (evalPairs (pairTrees keys values X.env pos)) (fun vs s'=>∃ps H',Inv X pins σ H' s'/\VV ps vs/\Q ps H') X.xe s
theorem iA{X:Cx}{pos:Pos}:J5 X pos [] [] []:=fun pins s σ H Q I h=>pairTrees_nil_walk ⟨[],H,I,.nil,h⟩
theorem bQ{X:Cx}{pos:Pos}{k v:Expr}{ks:List (Option Expr)}{vs:List Expr}{tk tv:TE}{trs:List (TE×TE)}(hk:PE X k tk)(hv:PE X v tv)(hr:J5 X pos ks vs trs):
  J5 X pos (some k::ks) (v::vs) ((tk,tv)::trs):=fun pins s σ H Q I h=>
 pairTrees_cons_walk (aV (hk pins s σ H _ I h) fun u s1 ⟨x,H1,I1,rx,q1⟩=>aV (hv pins s1 σ H1 _ I1 q1) fun w2 s2 ⟨y,H2,I2,ry,q2⟩=>
  aV (hr pins s2 σ H2 _ I2 q2) fun ws s3 ⟨ps,H3,I3,rel,q3⟩=>⟨(x,y)::ps,H3,I3,.cons ⟨rx,ry⟩ rel,q3⟩)
def dB(kvs more:List (Key×V)):List (Key×V):=more.foldl (fun acc kv=>putK acc kv.1 kv.2) kvs
theorem KV.merge:∀{more:List (Key×V)}{rs:List (Key×MA)}{kvs:List (Key×V)}{vs:List (Key×MA)},KV more rs->KV kvs vs->KV (dB kvs more) (merged vs rs):=by
 intro more rs kvs vs r;unfold KV at r
 induction r generalizing kvs vs with
 |nil=>intro q;exact q
 | @cons p q ps qs h t ih=>
  intro r0;have e:KV (putK kvs p.1 p.2) (stored vs q.1 q.2):=by
   have:=r0.put p.1 h.2;rw[←h.1];exact this
  exact ih e
theorem kf:∀(more kvs:List (Key×V)),(dB kvs more).length<=kvs.length+more.length
 |[],kvs=>by show kvs.length<=kvs.length+0;lia
 |p::r,kvs=>by
  have h1:=kf r (putK kvs p.1 p.2);have h2:=gM kvs p.1 p.2;show(dB (putK kvs p.1 p.2) r).length<=_;rw[L8];lia
theorem pb{P:MD}{w:ME}:∀{kvs:List (Key×V)}{ws:List (MA×MA)},VV (kvs.map fun kv=>(kV kv.1,kv.2)) ws->∃rs,Carries (a6 P w) ws rs/\KV kvs rs
 |[],_,r=>by rw[List.map_nil]at r;cases r;exact⟨[],True.intro,.nil⟩
 |p::kvs,_,r=>by
  rw[L9]at r
  cases r with
  | @cons a b as bs h t=>
   obtain⟨rs,c,q⟩:=pb (P:=P) (w:=w) t;obtain⟨b1,b2⟩:=b;exact⟨(p.1,b2)::rs,⟨hV h.1,rfl,c⟩,.cons ⟨rfl,h.2⟩ q⟩
def Iq(trs:List (TE×TE)):TE:=fun σ H Q=>∀p,H p=none->wO trs σ (upd H p (.dK [])) fun ps H2=>H2 p=some (.dK [])/\∃kvs:List (Key×V),ps=kvs.map (fun kv=>(kV kv.1,kv.2))/\kvs.length<=15/\Q (.ref p) (upd H2 p (.dK (dB [] kvs)))
theorem iS{X:Cx}{pos:Pos}{keys:List (Option Expr)}{values:List Expr}{trs:List (TE×TE)}(h:J5 X pos keys values trs)(hall:keys.all (·.isSome)=true)(hl:keys.length=values.length)(h0:keys≠[])
  (h15:keys.length<=15):PE X (.Dict keys values pos) (Iq trs):=by
 intro pins s σ H Q I q;have hn:=I.bc.fresh (Ms s.heap.objs.size);have I1:=I.laid (a:=s.heap.objs.size) (o:= .dK []) (h':=s.heap.push {cls:= .type "dict",data:= .dict #[]}) (t':=s.toks) (fun _ _ q=>MN.get?_push_of_some _ q) (Ms _) (vm s.heap I.big);refine wpAny_Dict_walk (knd:=a6 X.prog X.w) hall hl h0 h15 (aV (h pins _ σ _ _ I1 (q _ hn)) fun ws s2 ⟨ps,H2,I2,rel,e,kvs,ep,lk,q2⟩=>?_);subst ep;obtain⟨rs,c,rk⟩:=pb (P:=X.prog) (w:=X.w) rel;obtain⟨z,hd,vs0,r0,dd⟩:=uF I2.bc e;cases r0;refine⟨rs,c,dd,fun h' dd' hs=>⟨.ref s.heap.objs.size,_,?_,rfl,q2⟩⟩;have hz:(dB [] kvs).length<=MG:=by
  have h1:=kf kvs [];rw[List.length_nil]at h1;rw[sizeLine_eq];lia
 have he:∃q,h'.get? s.heap.objs.size=some q:=let⟨q,_,_,hq,_⟩:=dd';⟨q,hq⟩
 exact lz I2 (by rw[e];exact True.intro) hs he (sU hz hd (rk.merge .nil) dd')
structure M1(X:Cx)(o:Expr)(m:Str)(apos:Pos)(e:Expr)(cpos:Pos):Prop where
 base:attributeBase o m X.env (eval o X.env)=eval o X.env
 Jp:((MO cpos (ML [e] X.env)).all (fun x=> !x.1)&&(backToKw cpos (keywordEach [] X.env)).all (fun x=>x.1.isSome)
  &&decide (([e]:List Expr).length+([]:List Keyword).length+(if([]:List Keyword).isEmpty then 0 else 1)<30))=true
 line:(apos.endLine==cpos.line)=true
 trees:MO cpos (ML [e] X.env)=[(false,eval e X.env)]
structure M2(X:Cx)(o:Expr)(m:Str)(apos:Pos)(e f:Expr)(cpos:Pos):Prop where
 base:attributeBase o m X.env (eval o X.env)=eval o X.env
 Jp:((MO cpos (ML [e,f] X.env)).all (fun x=> !x.1)&&(backToKw cpos (keywordEach [] X.env)).all (fun x=>x.1.isSome)
  &&decide (([e,f]:List Expr).length+([]:List Keyword).length+(if([]:List Keyword).isEmpty then 0 else 1)<30))=true
 line:(apos.endLine==cpos.line)=true
 trees:MO cpos (ML [e,f] X.env)=[(false,eval e X.env),(false,eval f X.env)]
def KC(H:Hp)(a:MB):Prop:=(∃kvs,Rd H a (.dK kvs))\/∃kvs,Rd H a (.dT kvs)
theorem AY{X:Cx}{pins:List (MB×Obj)}{σ:St}{H:Hp}{s:MC}{a:MB}(I:Inv X pins σ H s)(d:KC H a):
  s.TypeIs (.ref a) "dict"/\(∀b,MA.ref a= .ref b->∃ob,s.heap.get? b=some ob/\ob.dict=none)/\(a==sysModules)=false:=by
 rcases d with⟨kvs,e⟩|⟨kvs,e⟩
 .obtain⟨_,hd,vs,_,dd⟩:=oh I.bc e
  refine⟨dd.typeIs,fun b q=>?_,hd⟩;cases q;obtain⟨ob,_,_,h1,h2,_⟩:=dd;exact⟨ob,h1,h2.2.1⟩
 .obtain⟨_,hd,xs,_,dd⟩:=oi I.bc e
  refine⟨dd.typeIs,fun b q=>?_,hd⟩;cases q;obtain⟨ob,_,_,h1,h2,_⟩:=dd;exact⟨ob,h1,h2.2.1⟩
section
variable{X:Cx}{pins:List (MB×Obj)}{σ:St}{H:Hp}{s:MC}{a:MB}{y d:V}{u r:MA}{o:Option V}{A:MF}{E:MA->MC->Prop}
theorem FJ{Q:MA->MC->Prop}(hu:A.units+1<cLine)(I:Inv X pins σ H s)(g:cK H a y o)(ry:RelV y u)(rd:RelV d r)(h:∀w' s',Inv X pins σ H s'->RelV (o.getD d) w'->Q w' s'):
  MP (model X.prog X.w) A (call (.builtin "dict.get") [.ref a,u,r]) Q E s:=by
 rcases g with⟨kvs,k,e,ey,l⟩|⟨kvs,k,b,e,ey,eb,l⟩
 .subst ey
  obtain⟨z,hd,vs,rel,dd⟩:=oh I.bc e;refine call_meetsIn PySem.F.slot_dict_get dd.typeIs PySem.F.entry_dict_get (PySem.F.args_dict_get_3 _ _ _) (meets_dict_get_default (a6 X.prog X.w) a (hV ry) hd r) ⟨_,dd.mapOf,h _ _ (I.tok _) ?_⟩;rw[l];exact(rel.val k).getD rd
 .subst ey
  cases(show u=MA.ref b from ry);obtain⟨z,hd,xs,rel,dd⟩:=oi I.bc e;refine call_meetsIn PySem.F.slot_dict_get dd.typeIs PySem.F.entry_dict_get (PySem.F.args_dict_get_3 _ _ _) (meetsH_dict_get_default (tupleKind (a6 X.prog X.w)) a b hd r) ⟨tupleKind_room_in1 hu,k,xs,mO I.bc eb,dd,h _ _ (I.tok _) ?_⟩;rw[l];exact(rel.val k).getD rd
end
def F8(td ty tx:TE):TE:=fun σ H Q=>td σ H fun x H1=>∃a,x= .ref a/\KC H1 a/\ty σ H1 fun y H2=>tx σ H2 fun z H3=>∃o,cK H3 a y o/\Q (o.getD z) H3
def Gg(td ty:TE):TE:=fun σ H Q=>td σ H fun x H1=>∃a,x= .ref a/\KC H1 a/\ty σ H1 fun y H2=>∃kvs k v,H2 a=some (.dK kvs)/\y=kV k/\bV kvs k=some v/\Q v (upd H2 a (.dK (gA kvs k)))
section
variable{X:Cx}{o e f:Expr}{apos cpos:Pos}{td ty tx:TE}
theorem fH(hu:X.A.units+1<cLine)(ho:PE X o td)(he:PE X e ty)(hf:PE X f tx)(m:M2 X o "get" apos e f cpos):PE X (.Call (.Attribute o "get" apos) [e,f] [] cpos) (F8 td ty tx):=by
 intro pins s σ H Q I h;refine wpAny_Call_method m.base m.Jp m.line PySem.F.plainAttrs_dict PySem.F.slot_dict_get PySem.F.type_dict_get (aV (ho pins s σ H _ I h) fun u s1 ⟨x,H1,I1,rx,a,ex,d,q1⟩=>?_);subst ex;obtain rfl:u=MA.ref a:=rx;obtain⟨t1,t2,_⟩:=AY I1 d;refine⟨t1,t2,?_⟩;rw[m.trees];refine Calls.callWith_builtin rfl (Calls.evalArgs_plain (Calls.spliced_cons (aV (he pins s1 σ H1 _ I1 q1) fun iv s2 ⟨y,H2,I2,ry,q2⟩=>
  Calls.spliced_cons (aV (hf pins s2 σ H2 _ I2 q2) fun fv s3 ⟨z,H3,I3,rz,ov,g,q3⟩=>Calls.spliced_nil ?_))))
 exact FJ hu I3 g ry rz fun w' s4 I4 rw'=>⟨_,H3,I4,rw',q3⟩
theorem Bz(ho:PE X o td)(he:PE X e ty)(m:M1 X o "pop" apos e cpos):PE X (.Call (.Attribute o "pop" apos) [e] [] cpos) (Gg td ty):=by
 intro pins s σ H Q I h;refine wpAny_Call_method m.base m.Jp m.line PySem.F.plainAttrs_dict PySem.F.slot_dict_pop PySem.F.type_dict_pop (aV (ho pins s σ H _ I h) fun u s1 ⟨x,H1,I1,rx,a,ex,d,q1⟩=>?_);subst ex;obtain rfl:u=MA.ref a:=rx;obtain⟨t1,t2,_⟩:=AY I1 d;refine⟨t1,t2,?_⟩;rw[m.trees];refine Calls.callWith_builtin rfl (Calls.evalArgs_plain (Calls.spliced_cons (aV (he pins s1 σ H1 _ I1 q1) fun iv s2 ⟨y,H2,I2,ry,kvs,k,v,ea,ey,l,q2⟩=>Calls.spliced_nil ?_)));subst ey;exact IB I2 ea ry l (.inl rfl) fun w' s3 I3 rw'=>⟨v,_,I3,rw',q2⟩
end
end L2
namespace Att
open PySem PySem.W PySem.Calls PyProof.Rows
theorem nE{P:Params}{h:MN}:∀(ns:List Int)(vs:List MA),WellAll P h vs (ns.map WData.int)->IntsAre vs ns:=by
 intro ns
 induction ns with
 |nil=>
  intro vs w;rw[List.map_nil]at w;cases w;exact .nil
 |cons n ns ih=>
  intro vs w;rw[L9]at w
  cases w with
  |cons a b=>
   cases a;exact .cons _ _ (ih _ b)
theorem zA{l:OpenLaw}{n:Nat}(hn:l.most=some n){P:Params}{h:MN}{args:List WData}{vals:List MA}
  (hpre:l.row.toRowW.claim.pre args=true) (hwl:WellAll P h vals args):
  ∃a vs ns,vals=[MA.ref a]/\args=[WData.list (ns.map WData.int)]/\h.get? a=some {cls:= .type "list",data:= .seq vs.toArray}/\IntsAre vs ns/\ns.length<=n:=by
 have hsh:WShape.hasAll [] args [.list .int]=true:=(pre_splitW hpre).1;have hc:l.pre.holds [] {args:=args}=true:=(pre_splitW hpre).2;obtain⟨d,r,rfl,h1,h2⟩:=hasAllW_cons hsh;obtain rfl:=hasAllW_nil h2;obtain⟨xs,rfl,h3⟩:=hasW_list h1;obtain⟨ns,rfl⟩:=items_int h3;have hlen:ns.length<=n:=by
  unfold OpenLaw.pre at hc;have h4:(WTm.not (.lt (.lit (.int (n:Int))) (.len (.arg 0)))).holds [] {args:=[.list (ns.map .int)]}=true:=by
   have h4:=(holds_andW hc).1;rw[hn]at h4;exact h4
  have h5:=condW_of h4 (w_not (w_lt w_lit (w_len_list (w_arg rfl))));rw[LW]at h5;refine Nat.le_of_not_lt fun q=>?_;have q':(n:Int)<((ns.length:Nat):Int):=by lia
  first
   |(rw[decide_eq_true q']at h5;exact absurd h5 (by decide))
   |(simp at h5;lia)
 cases hwl with
 |cons w1 w2=>
  cases w2
  cases w1 with
  |list ho hall=>exact⟨_,_,ns,rfl,rfl,ho,nE ns _ hall,hlen⟩
theorem zy(l:OpenLaw)(args:List WData):l.row.toRowW.claim.post args (.bool true) args=true:=
 postW_of (r:=l.row.toRowW) (X:=(true==true))
  (show WShape.has [] (.bool true) .bool=true by first|rfl|decide|simp[WShape.has,WShape.arms,WShape.armsAll])
  (show(WTm.eq .res (.lit (.bool true))).value [] {args:=args,res:=some (.bool true),after:=args}=some (.bool (true==true))from w_eq_bool (w_res rfl) w_lit) rfl
theorem vc{l:OpenLaw}{n:Nat}{q:MD}{loose:List Str}{XP:(Str->Option MA)->MN->Prop}{YP:ME->MN->Prop}{d:DefRec}
  (hn:l.most=some n) (hdf:d.params.defaults=[])
  (call:∀(w:ME)(s₀ s₁:MC)(mg mb:Str->Option MA)(fa:MB)(o:Obj)(pm cd doc:MA)(a:MB)(vs:List MA)(ns:List Int),
   Ground q loose [] XP w s₀ mg mb s₁.heap->YP w s₁.heap->
   s₁.heap.get? fa=some o->o.data= .func (docDef d.name d.params d.body d.scope pm cd doc)->s₁.heap.CodeRec cd d.name->mg d.name=some (.ref fa)->
   s₁.heap.get? a=some {cls:= .type "list",data:= .seq vs.toArray}->IntsAre vs ns->ns.length<=n->s₁.gens= #[]->
   codeAny (model l.prog w) callerA (.call (.ref fa) ⟨[.ref a],[]⟩) (fun r s'=>r= .ok (.ret (.bool true))/\OldK s₁.heap s'.heap/\s'.os=s₁.os/\AllBare s'.gens) s₁):
  WalkO q loose XP YP l.row.toRowW d [] (fun f vs=>PySem.call f vs):=by
 intro w s₀ s₁ mg mb G Y fa o pm cd doc dV kV ho hd hcd hD hmg hg args vals as hpre hlay hrd hwl hlo;obtain rfl:dV= .none:=Dflts.none hD hdf;obtain rfl:kV= .none:=Dflts.noKw hD;obtain⟨a,vs,ns,rfl,rfl,hobj,hints,hlen⟩:=zA hn hpre hwl;refine enter_call (codeAny_mono (call w s₀ s₁ mg mb fa o pm cd doc a vs ns G Y ho (fd_plain hd) hcd hmg hobj hints hlen hg) fun r s' hq=>?_);obtain⟨rfl,h2,h3,h4⟩:=hq;exact⟨.inl ⟨.bool true,.bool true,[],rfl,fun _=>rfl,.bool true,zy l _,fun _=>⟨List.Pairwise.nil,fun _ hm=>(nomatch hm)⟩⟩,h2,h3,h4⟩
end Att
namespace L2
open PySem PySem.Spec PyProof.Rows
theorem rO:∀{vs:List MA}{ns:List Int},IntsAre vs ns->Vals (ns.map V.int) vs
 |_,_,.nil=> .nil
 |_,_,.cons n t h=> .cons ⟨t,rfl⟩ (rO h)
def F9(H:Hp):Prop:=∀b,H b=none\/∃o xs,H b=some (.uW o (.lst xs))
theorem A5{P:MD}{w:ME}{K:W.Frag}{mg mb:Str->Option MA}{CX:pY}{k:Nat}{fa a:MB}{fd:MM}{x:Str}{sp:Sp}{s₁:MC}{vs:List MA}{ns:List Int}
  (KX:K.In s₁.heap) (hns:s₁.heap.Ns MH mg) (hb:s₁.heap.Ns builtinsNs mb) (hbb:∀x:Str,x≠"__name__"->mb x=bootBuiltins x) (hlim:s₁.heap.NoLimit) (hg:s₁.gens= #[])
  (ha:s₁.heap.get? a=some {cls:= .type "list",data:= .seq vs.toArray}) (hi:IntsAre vs ns) (hl:ns.length<=MG) (hr:cQ k callerA)
  (F:∀base:MN,K.In base->base.Ns MH mg->aS P w K mg base CX k fa fd [x] sp) (hbind:∀(s:MC)(u:MA),BindsTo s fd ⟨[u],[]⟩ [(x,u)])
  (hsp:∀H:Hp,F9 H->aG K H a (ns.map V.int)->sp [.ref a] H (fun v _=>v= .bl true) fun _ _ _=>False)
  (hCX:∀H e s',CX [] H s₁ (fun _ _ _=>False) e s'->False):
  codeAny (model P w) callerA (.call (.ref fa) ⟨[.ref a],[]⟩) (fun r s'=>r= .ok (.ret (.bool true))/\OldK s₁.heap s'.heap/\s'.os=s₁.os/\AllBare s'.gens) s₁:=by
 have rv:=rO hi;have lenV:=hi.length;have core:∀H:Hp,F9 H->aG K H a (ns.map V.int)->jV P w H s₁.heap->(∀b,H b≠none->b=a)->(H a≠none->K.lookup a=none)->
   codeAny (model P w) callerA (.call (.ref fa) ⟨[.ref a],[]⟩) (fun r s'=>r= .ok (.ret (.bool true))/\OldK s₁.heap s'.heap/\s'.os=s₁.os/\AllBare s'.gens) s₁:=by
  intro H hO hS bc hA hK;have base_of:∀{b:MB}{o:Obj},s₁.heap.get? b=some o->H b=none->(sE s₁.heap H).get? b=some o:=fun e n=>Bf e n;have noA:∀{b:MB}{o:Obj}{es:Array DictEntry}{ep:Nat},s₁.heap.get? b=some o->o.data= .dict es ep->H b=none:=fun{b o es ep} e d=>by
   cases q:H b with
   |none=>rfl
   |some u=>
    have e':b=a:=hA b (by rw[q];simp);subst e';rw[ha]at e;cases e;have d':Data.seq vs.toArray _=Data.dict es ep:=d;cases d'
  have nsK:∀{b:MB}{m:Str->Option MA},s₁.heap.Ns b m->(sE s₁.heap H).Ns b m:=fun{b m} ⟨o,es,ep,e,d,r⟩=>⟨o,es,ep,base_of e (noA e d),d,r⟩;have hKb:K.In (sE s₁.heap H):=fun b o e=>base_of (KX b o e) (by
   cases q:H b with
   |none=>rfl
   |some u=>
    have e':b=a:=hA b (by rw[q];simp);subst e';rw[hK (by rw[q];simp)]at e;cases e)
  have hM:Mod K mg (sE s₁.heap H):=⟨hKb,nsK hns,⟨mb,nsK hb,hbb⟩,let⟨mc,h1,h2⟩:=hlim;⟨mc,nsK h1,h2⟩⟩;have e0:vC P w K mg (sE s₁.heap H) callerA [] s₁ H:=⟨rfl,hM,fun b o e=>DV e,Nat.le_of_eq (zC _ _),trivial,fun b hb=>absurd (show b∈([]:List MB)from hb) (by simp),bc,.of_eq hg⟩;refine codeAny_mono ((F _ hKb (nsK hns)).run callerA [] s₁ H ⟨[.ref a],[]⟩ [.ref a] [.ref a] _ _ hr e0 (hbind s₁ (.ref a)) (.cons rfl .nil) (hsp H hO hS)) fun r s' h=>?_
  cases r with
  |error e=>exact(hCX H e s' h).elim
  |ok fl=>
   cases fl with
   |next=>exact False.elim h
   |brk=>exact False.elim h
   |cont=>exact False.elim h
   |ret u=>
    obtain⟨v,H',os,bare,un,hok',r',q⟩:=h;have q':v= .bl true:=q;subst q';obtain rfl:u=MA.bool true:=r';refine⟨rfl,OldK.of_keep fun b o e=>?_,os,bare⟩
    cases q:H b with
    |none=>exact un.keep b o e q (by intro z;exact absurd (show b∈([]:List MB)from z) (by simp)) (by simp)
    |some u=>
     rcases hO b with z|⟨ob,xs,z⟩
     .rw[q]at z;cases z
     .have z2:=un.iF b ob _ z
      obtain⟨e1,_⟩:=bc b _ z;obtain⟨e2,_⟩:=hok' b _ z2;rw[e]at e1;cases e1;exact e2
 cases hk:K.lookup a with
 |some o=>
  have e:=KX a o hk;rw[ha]at e;cases e;refine core (fun _=>none) (fun _=> .inl rfl) (.inr ⟨_,vs.toArray,_,hk,rfl,rfl,rfl,by rw[Mm,lenV];exact hl,by simpa using rv⟩) (fun b u z=>by have z':(none:Option HO)=some u:=z;cases z') (fun b z=>absurd rfl z) fun z=>absurd rfl z
 |none=>
  refine core (fun b=>if b=a then some (.uW {cls:= .type "list",data:= .seq vs.toArray} (.lst (ns.map V.int)))else none) (fun b=>?_) (.inl (.inr ⟨{cls:= .type "list",data:= .seq vs.toArray},if_pos rfl⟩)) (fun b u z=>?_) (fun b z=>?_) fun _=>hk
  .by_cases hb:b=a
   .exact .inr ⟨_,_,if_pos hb⟩
   .exact .inl (if_neg hb)
  .by_cases hb:b=a
   .have z':=(if_pos hb).symm.trans z
    cases z';subst hb;exact⟨ha,by rw[LW];exact hl,vs,_,rv,ha⟩
   .have z':=(if_neg hb).symm.trans z
    cases z'
  .by_cases hb:b=a
   .exact hb
   .exact absurd (if_neg hb) z
theorem EI{l:W.OpenLaw}{n k:Nat}{q:MD}{loose:List Str}{XP:(Str->Option MA)->MN->Prop}{YP:ME->MN->Prop}{d:DefRec}{K:Params->W.Frag}{CX:ME->pY}{sp:ME->Sp}{x:Str}
  (hn:l.most=some n) (hn2:n<=MG) (hdf:d.params.defaults=[]) (hr:cQ k callerA)
  (hY:∀(w:ME)(h:MN),YP w h->(K w.params).In h)
  (F:∀(w:ME)(mg:Str->Option MA)(fa:MB)(h:MN),(K w.params).In h->h.Ns MH mg->mg d.name=some (.ref fa)->
   ∃fd:MM,(∀(s:MC)(u:MA),BindsTo s fd ⟨[u],[]⟩ [(x,u)])/\
    ∀base:MN,(K w.params).In base->base.Ns MH mg->aS l.prog w (K w.params) mg base (CX w) k fa fd [x] (sp w))
  (hsp:∀(w:ME)(H:Hp)(a:MB)(ns:List Int),ns.length<=n->F9 H->aG (K w.params) H a (ns.map V.int)->sp w [.ref a] H (fun v _=>v= .bl true) fun _ _ _=>False)
  (hCX:∀(w:ME)(H:Hp)(s:MC)(e:MA)(s':MC),CX w [] H s (fun _ _ _=>False) e s'->False):
  W.WalkO q loose XP YP l.row.toRowW d [] (fun f vs=>PySem.call f vs):=by
 refine Att.vc hn hdf fun w s₀ s₁ mg mb fa o pm cd doc a vs ns G Y ho hd hcd hmg hobj hints hlen hg=>?_;have KX:=hY w _ Y;obtain⟨fd,hb,hF⟩:=F w mg fa _ KX G.T.g hmg;exact A5 KX G.T.g G.T.b G.T.builtins G.T.nolimit hg hobj hints (Mv hlen hn2) hr hF hb (fun H hO hS=>hsp w H a ns hlen hO hS) fun H e s'=>hCX w H s₁ e s'
def e8(s:MQ):Arguments:=match s with
 | .FunctionDef _ a _ _ _ _ _ _ _ _=>a
 |_=>{posonlyargs:=[],args:=[],vararg:=none,kwonlyargs:=[],kw_defaults:=[],kwarg:=none,defaults:=[]}
def de(s:MQ):List MQ:=match s with
 | .FunctionDef _ _ b _ _ _ _ _ _ _=>b
 |_=>[]
def au(s:MQ):Scope:=match s with
 | .FunctionDef _ _ _ _ _ _ sc _ _ _=>sc
 |_=>{kind:= .function,names:=[],isGenerator:=false,isCoroutine:=false}
abbrev fQ:pY:=fun _ _ _ _ _ _=>False
abbrev E0:XK:=fun _ _ _=>False
theorem Fu{X:Cx}:Passes fQ X E0:=fun _ _ _ _ _ _ _ h=>h.elim
structure dJ(K:W.Frag)(x qual:Str)(st:MQ)(f:MB)(fd:MM):Prop where
 ex:∃(oc:MA)(od:Option MB)(kV doc pm:MA)(an:Option MB)(cdv ct:MA)(osl:Array (Option MA)),
  fd=W.fnOf x qual (e8 st) (de st) (au st) .none kV doc pm an cdv ct/\K.lookup f=some ⟨oc,od,.func fd,osl⟩/\W.codeIn K cdv qual=true
 kp:W.keepIn K (.ref f)=true
section
variable{P:MD}{w:ME}{K:W.Frag}{mg:Str->Option MA}{base:MN}
theorem dJ.ok {x qual:Str}{st:MQ}{f:MB}{fd:MM}{N ps:List Str}{k:Nat}{sp:Sp}(F:dJ K x qual st f fd)(S:aF N ps (au st))(len:∀vs H Q E,sp vs H Q E->vs.length=ps.length)
  (hbody:∀(cdv:MA)(A:MF)(outer:List Env)(s:MC)(H:Hp)(vs:List V)(Q:VK)(E:XK),cQ k (A.deeper (envOfC qual (au st) s.heap.objs.size f cdv))->sp vs H Q E->
   ∃t,pX (qr fQ P w K mg base N qual (au st) f cdv A outer s H E).J1 (de st) t/\t {nx:=fun _ H'=>Q .cE H',rt:=Q} (start N vs) H):aS P w K mg base fQ (k+1) f fd ps sp:=by
 obtain⟨oc,od,kV,doc,pm,an,cdv,ct,osl,rfl,lk,hcd⟩:=F.ex;refine FD lk hcd S len fun A outer s H vs Q E hr hsp=>?_;obtain⟨t,h,q⟩:=hbody cdv A outer s H vs Q E hr hsp;exact⟨t,h.J1,q⟩
theorem dJ.binds {x qual:Str}{st:MQ}{f:MB}{fd:MM}{ps:List Str}(F:dJ K x qual st f fd)
  (h:∀(kV doc pm:MA)(an:Option MB)(cdv ct:MA)(us:List MA),us.length=ps.length->bindArgs (W.fnOf x qual (e8 st) (de st) (au st) .none kV doc pm an cdv ct) ⟨us,[]⟩=pure (ps.zip us)):Binds K fd ps []:=by
 obtain⟨oc,od,kV,doc,pm,an,cdv,ct,osl,rfl,lk,hcd⟩:=F.ex;exact .all (h kV doc pm an cdv ct)
theorem GV{x qual:Str}{st:MQ}{f:MB}{oc:MA}{od an:Option MB}{osl:Array (Option MA)}{kV doc pm cdv ct:MA}(l:K.lookup f=some ⟨oc,od,.func (W.fnOf x qual (e8 st) (de st) (au st) .none kV doc pm an cdv ct),osl⟩)
  (c:W.codeIn K cdv qual=true) (k:W.keepIn K (.ref f)=true):dJ K x qual st f (W.fnOf x qual (e8 st) (de st) (au st) .none kV doc pm an cdv ct):=⟨⟨oc,od,kV,doc,pm,an,cdv,ct,osl,rfl,l,c⟩,k⟩
end
theorem iY{A:MF}{k:Nat}(hr:cQ k A):A.units+1<cLine:=Nat.lt_of_le_of_lt (Nat.add_le_add_left (by decide:1<=64) _) hr.units
section
variable{X:Cx}
theorem pv(i:Nat){x:Str}{pos:Pos}(hN:X.N[i]?=some x:=by rfl)(hv:JX X.env.scope x:=by first|exact Or.inl rfl|exact Or.inr (Or.inl rfl)|exact Or.inr (Or.inr rfl))(hd:(x==("__debug__" :Str))=false:=by decide)
  (hcd:(x==("__classdict__" :Str))=false:=by decide):PE X (.Name x pos) (zH i):=Cu hN hv hd hcd
end
theorem wI{A B:Prop}(h:B):if false=true then A else B:=by
 rw[if_neg Mx];exact h
theorem oU{A B:Prop}(h:A):if true=true then A else B:=by
 rw[if_pos rfl];exact h
theorem dD{c A B:Prop}[Decidable c](h1:c->A)(h2:¬c->B):if c then A else B:=by
 by_cases h:c
 .rw[if_pos h]
  exact h1 h
 .rw[if_neg h]
  exact h2 h
def ah(H H':Hp):Prop:=∀b o,H b=some o->H' b=some o
theorem ah.refl (H:Hp):ah H H:=fun _ _ h=>h
theorem ah.trans {H H1 H2:Hp}(a:ah H H1)(b:ah H1 H2):ah H H2:=fun c o h=>b c o (a c o h)
theorem ah.free {H H':Hp}(e:ah H H'){l:MB}(h:H' l=Option.none):H l=Option.none:=by
 cases q:H l with
 |none=>rfl
 |some o=>
  rw[e l o q]at h;cases h
theorem ah.seq {K:W.Frag}{H H':Hp}{a:MB}{xs:List V}(e:ah H H')(h:aG K H a xs):aG K H' a xs:=by
 rcases h with(h|⟨o,h⟩)|h
 .exact .inl (.inl (e _ _ h))
 .exact .inl (.inr ⟨o,e _ _ h⟩)
 .exact .inr h
def dI(cells:List (Str×MB)):List (Str×MR)->List (Str×MB)->List (Str×MB)
 |[],acc=>acc
 |(n,k)::r,acc=>if(k==MR.free)=true then(match cells.lookup n with|some c=>dI cells r ((n,c)::acc)|none=>dI cells r acc)else dI cells r acc
theorem mC{env:Env}:∀(ns:List (Str×MR))(acc:List (Str×MB)),(∀y∈ns,y.2= .free->∃c,env.cells.lookup y.1=some c)->
  (forIn ns acc (fun x cs=>(match x with|(name,kind)=>if(kind==MR.free)=true then(do let c←cellOf env name;pure (ForInStep.yield ((name,c)::cs)))else pure (ForInStep.yield cs))):Sem (List (Str×MB)))=pure (dI env.cells ns acc)
 |[],acc,_=>rfl
 |(n,k)::r,acc,h=>by
  rw[List.forIn_cons];by_cases hk:(k==MR.free)=true
  .obtain⟨c,hc⟩:=h (n,k) Mg (by simpa using hk)
   have hc:env.cells.lookup n=some c:=hc;have e:=mC (env:=env) r ((n,c)::acc) fun y hy=>h y (Mh _ hy);simp only[dI,hk,if_true,cellOf,hc,pure_bind];exact e
  .have e:=mC (env:=env) r acc fun y hy=>h y (Mh _ hy)
   have hk:(k==MR.free)=false:=by simpa using hk
   simp only[dI,hk,Bool.false_eq_true,if_false,pure_bind];exact e
theorem fm{scope:Scope}{env:Env}(h:∀y∈scope.names,y.2= .free->∃c,env.cells.lookup y.1=some c):closureFor scope env=pure (dI env.cells scope.names []):=by
 have e:=mC (env:=env) scope.names [] h;unfold closureFor;simp only[bind_pure]
 first
  |exact e
  |(refine Eq.trans ?_ e;congr 1)
  |(simp only[bind_pure_comp]at e⊢;exact e)
theorem cM{cells:List (Str×MB)}:∀{ns:List (Str×MR)}{acc:List (Str×MB)}{x:Str}{c:MB},(dI cells ns acc).lookup x=some c->acc.lookup x=some c\/cells.lookup x=some c
 |[],acc,x,c,h=> .inl h
 |(n,k)::r,acc,x,c,h=>by
  unfold dI at h
  split at h
  .split at h
   .rename_i q hq
    rcases cM h with z|z
    .rw[List.lookup_cons]at z
     cases hx:x==n with
     |true=>
      rw[hx]at z;cases z;have:x=n:=by simpa using hx
      subst this;exact .inr hq
     |false=>
      rw[hx]at z;exact .inl z
    .exact .inr z
   .exact cM h
  .exact cM h
theorem iu{cells:List (Str×MB)}:∀{ns:List (Str×MR)}{acc:List (Str×MB)}{x:Str}{c:MB},cells.lookup x=some c->((x,MR.free)∈ns\/acc.lookup x=some c)->(dI cells ns acc).lookup x=some c
 |[],acc,x,c,hc,h=>h.elim (fun z=>nomatch z) fun z=>z
 |(n,k)::r,acc,x,c,hc,h=>by
  unfold dI
  split
  .rename_i hk
   split
   .rename_i q hq
    refine iu hc ?_;rcases h with h|h
    .rcases List.mem_cons.mp h with e|h
     .cases e
      rw[hc]at hq;cases hq;exact .inr (by simp)
     .exact .inl h
    .by_cases e:x=n
     .subst e
      rw[hc]at hq;cases hq;exact .inr (by simp)
     .exact .inr (by rw[List.lookup_cons,(by simpa using e:(x==n)=false)];exact h)
   .rename_i hq
    refine iu hc ?_;rcases h with h|h
    .rcases List.mem_cons.mp h with e|h
     .cases e
      rw[hc]at hq;cases hq
     .exact .inl h
    .exact .inr h
  .rename_i hk
   refine iu hc ?_;rcases h with h|h
   .rcases List.mem_cons.mp h with e|h
    .cases e
     exact absurd rfl hk
    .exact .inl h
   .exact .inr h
theorem fX{env:Env}:∀{names:List (Str×MR)}{x:Str},names.lookup x=some .free->
  (names.map fun(n,k)=>if(k==MR.free&&env.scope.kind== .function&&env.kindOf n==some .cell)then(n,MR.cell)else(n,k)).lookup x=some .cell\/
  (names.map fun(n,k)=>if(k==MR.free&&env.scope.kind== .function&&env.kindOf n==some .cell)then(n,MR.cell)else(n,k)).lookup x=some .free
 |[],_,h=>by simp at h
 |(n,k)::r,x,h=>by
  have ih:= @fX env r x;show List.lookup x ((if(k==MR.free&&env.scope.kind== .function&&env.kindOf n==some .cell)=true then(n,MR.cell)else(n,k))::_)=_\/List.lookup x ((if(k==MR.free&&env.scope.kind== .function&&env.kindOf n==some .cell)=true then(n,MR.cell)else(n,k))::_)=_
  cases hx:x==n with
  |true=>
   simp only[List.lookup_cons,hx]at h;cases h;by_cases hc:(MR.free==MR.free&&env.scope.kind== .function&&env.kindOf n==some .cell)=true
   .rw[if_pos hc];simp[List.lookup_cons,hx]
   .rw[if_neg hc];simp[List.lookup_cons,hx]
  |false=>
   simp only[List.lookup_cons,hx]at h;by_cases hc:(k==MR.free&&env.scope.kind== .function&&env.kindOf n==some .cell)=true
   .rw[if_pos hc];simp only[List.lookup_cons,hx];exact ih h
   .rw[if_neg hc];simp only[List.lookup_cons,hx];exact ih h
theorem kC{env:Env}:∀{names:List (Str×MR)}{x:Str}{q:MR},(names.map fun(n,k)=>if(k==MR.free&&env.scope.kind== .function&&env.kindOf n==some .cell)then(n,MR.cell)else(n,k)).lookup x=some q->
  (∀y∈names,y.2≠.cell)->q= .cell\/q= .free->(x,MR.free)∈names
 |[],_,_,h,_,_=>by simp at h
 |(n,k)::r,x,q,h,hn,hq=>by
  have ih:= @kC env r x q;have h:List.lookup x ((if(k==MR.free&&env.scope.kind== .function&&env.kindOf n==some .cell)=true then(n,MR.cell)else(n,k))::r.map fun(n,k)=>if(k==MR.free&&env.scope.kind== .function&&env.kindOf n==some .cell)then(n,MR.cell)else(n,k))=some q:=h;have nk:k≠.cell:=hn (n,k) Mg;have hn':∀y∈r,y.2≠.cell:=fun y hy=>hn y (Mh _ hy)
  cases hx:x==n with
  |true=>
   have e:x=n:=by simpa using hx
   subst e;by_cases hc:(k==MR.free&&env.scope.kind== .function&&env.kindOf x==some .cell)=true
   .have:k= .free:=by
     simp only[Bool.and_eq_true]at hc;simpa using hc.1.1
    subst this;exact Mg
   .rw[if_neg hc]at h
    simp only[List.lookup_cons,hx]at h;cases h;rcases hq with z|z
    .exact absurd z nk
    .rw[z];exact Mg
  |false=>
   by_cases hc:(k==MR.free&&env.scope.kind== .function&&env.kindOf n==some .cell)=true
   .rw[if_pos hc]at h;simp only[List.lookup_cons,hx]at h;exact Mh _ (ih h hn' hq)
   .rw[if_neg hc]at h;simp only[List.lookup_cons,hx]at h;exact Mh _ (ih h hn' hq)
def dA(ix:List (Option Nat))(σ:St):St:=ix.map fun o=>o.bind fun i=>(σ[i]?).join
def gc(X:Cx)(N:List Str)(scope:Scope)(C:MB)(fp:List MB)(s:MC)(H:Hp):Cx:=
 {X with N:=N,s₀:=s,H₀:=H,env:=compEnvC scope (dI X.env.cells scope.names []) C X.env,outer:=X.stack,stack:=X.stack,ex:=fp,fn:=fun _=>false,xe:=fun _ _=>False}
structure eF(X:Cx)(scope:Scope)(N:List Str)(ix:List (Option Nat)):Prop where
 kind:scope.kind= .function
 oJ:∀y∈scope.names,y.2≠.cell
 len:ix.length=N.length
 names:∀y∈scope.names,y.2= .local->scope.names.lookup y.1=some .local
 fr:∀y∈scope.names,y.2= .free->X.env.kindOf y.1=some .cell\/X.env.kindOf y.1=some .free
 LK:∀(j i:Nat),ix[j]?=some (some i)->∃x:Str,N[j]?=some x/\X.N[i]?=some x/\scope.names.lookup x=some .free/\(x,MR.free)∈scope.names
theorem mem_of_lookup{names:List (Str×MR)}{x:Str}{k:MR}(h:names.lookup x=some k):(x,k)∈names:=by
 induction names with
 |nil=>simp at h
 |cons p r ih=>
  obtain⟨n,q⟩:=p;rw[List.lookup_cons]at h
  cases hx:x==n with
  |true=>
   rw[hx]at h;cases h;have:x=n:=by simpa using hx
   subst this;exact Mg
  |false=>rw[hx]at h;exact Mh _ (ih h)
section
variable{X:Cx}{pins:List (MB×Obj)}{σ:St}{H:Hp}{s:MC}{scope:Scope}{N:List Str}{ix:List (Option Nat)}{fp:List MB}
theorem eF.ok (c:eF X scope N ix)(I:Inv X pins σ H s)(hf:∀b∈fp,ik X pins H b)(hlt:∀b∈fp,b<s.heap.objs.size){C:Nat}(hC:s.heap.objs.size<=C):(gc X N scope C fp s H).Ok where
 mod:=I.ok.mod
 kind:=c.kind
 glob:=I.ok.glob
 blt:=I.ok.blt
 above:=hC
 inj:=fun x y d h1 h2=>by
  have h1:(dI X.env.cells scope.names []).lookup x=some d:=h1;have h2:(dI X.env.cells scope.names []).lookup y=some d:=h2;rcases cM h1 with z|z
  .simp at z
  .rcases cM h2 with z'|z'
   .simp at z'
   .exact I.ok.inj x y d z z'
 has:=fun x h=>by
  have hm:(x,MR.free)∈scope.names:=by
   rcases h with h|h
   .exact kC h c.oJ (.inl rfl)
   .exact kC h c.oJ (.inr rfl)
  obtain⟨d,hd⟩:=I.ok.has x (c.fr _ hm rfl);exact⟨d,iu hd (.inl hm)⟩
 CA:=fun x d h=>by cases h
 hd:=I.ok.hd
 frames:=I.ok.frames
 Av:= .inl rfl
 EV:=fun b hb=>by
  refine⟨fun z=>?_,fun x d e z=>?_⟩
  .have z:b=C:=z
   have:=hlt b hb;rw[z]at this;exact absurd (Mt this hC) (Nat.lt_irrefl _)
  .rcases cM e with q|q
   .simp at q
   .exact(hf b hb).2.2.2.2.1 x d q z
 bs:=fun b o e=>I.bs b o e
 yZ:=Mv I.ok.yZ I.sz
 pL:=fun b o e hb=>by
  rcases(hf b hb).2.2.2.1 with z|z
  .exact I.ok.pL b o e z
  .exact absurd (Mt (MN.lt_size (I.ok.bs b o e).1) z) (Nat.lt_irrefl _)
 qc:=fun b hb z=>by
  rcases List.mem_cons.mp (I.iO b z)with e|e
  .exact(hf b hb).2.1 e
  .exact(hf b hb).2.2.1 e
 iJ:=I.stack
 nS:=I.nU
theorem eF.enter (c:eF X scope N ix)(I:Inv X pins σ H s)(hf:∀b∈fp,ik X pins H b)(ho:∀b∈fp,∃o,s.heap.get? b=some o/\∀v,o.data≠.cell v){C D:Nat}{h':MN}{t':Nat}{m:Str->Option MA}{oD:Obj}(hC:C=s.heap.objs.size+1)(hD:D=s.heap.objs.size)
  (k:∀b o,s.heap.get? b=some o->h'.get? b=some o) (hn:h'.Ns C m) (hoD:h'.get? D=some oD) (hdD:∀v,oD.data≠.cell v):
  Inv (gc X N scope C fp s H) (pins++[(D,oD)]) (dA ix σ) H {s with heap:=h',toks:=t'}:=by
 have hlt:∀b∈fp,b<s.heap.objs.size:=fun b hb=>let⟨o,e,_⟩:=ho b hb;MN.lt_size e
 have sub:∀x d,(dI X.env.cells scope.names []).lookup x=some d->X.env.cells.lookup x=some d:=fun x d e=>by
  rcases cM e with z|z
  .simp at z
  .exact z
 refine⟨c.ok I hf hlt (by lia),rfl,I.bare,Un.kept k,⟨m,hn,fun j x v e1 e2 e3=>?_⟩,fun x d e=>?_,I.bc.fresh (by show s.heap.objs.size<=C;lia),fun x d e=>I.fE x d (sub x d e),fun p hp=>?_,I.bc.kept k,?_⟩
 .have e2:(ix.map fun o=>o.bind fun i=>(σ[i]?).join)[j]?=some (some v):=e2
  rw[LX]at e2
  cases hj:ix[j]? with
  |none=>rw[hj]at e2;cases e2
  |some o=>
   rw[hj]at e2
   cases o with
   |none=>cases e2
   |some i=>
    have e2:some ((σ[i]?).join)=some (some v):=e2;obtain⟨x',a1,a2,a3,a4⟩:=c.LK j i hj;have e1:N[j]?=some x:=e1;rw[e1]at a1;cases a1;have hs:σ[i]?=some (some v):=by
     have z:=My e2
     cases q:σ[i]? with
     |none=>rw[q]at z;cases z
     |some w=>rw[q]at z;have z:w=some v:=z;rw[z]
    have kx:=c.fr _ a4 rfl;obtain⟨m0,hn0,hl0⟩:=I.loc;obtain⟨u,r,l⟩:=hl0 i x v a2 hs (kx.elim (fun z=> .inr (.inl z)) fun z=> .inr (.inr z));refine⟨u,r,.inr ⟨?_,?_⟩⟩
    .exact fX (env:=X.env) a3
    .rcases l with⟨z,_⟩|⟨_,d,hd,hcell⟩
     .rcases kx with q|q<;>rw[q]at z<;>cases z
     .refine⟨d,iu hd (.inl a4),?_⟩
      obtain⟨o,ho,hdt⟩:=hcell;exact⟨o,k d o ho,hdt⟩
 .obtain⟨v,o,ho,hdt⟩:=I.cell x d (sub x d e)
  exact⟨v,o,k d o ho,hdt⟩
 .have nstk:∀b,b≠X.env.locals->b∉X.fs->b∉gw X.stack:=fun b h1 h2 z=>by
   rcases List.mem_cons.mp (I.iO b z)with e|e
   .exact h1 e
   .exact h2 e
  have old:∀p∈X.pn++pins,h'.get? p.1=some p.2/\H p.1=none/\p.1≠C/\p.1∉gw X.stack/\∀v,p.2.data≠.cell v:=fun p hp=>by
   obtain⟨a1,a2,a3,a4,a5⟩:=I.pin p hp;have: @LT.lt Nat _ p.1 s.heap.objs.size:=MN.lt_size a1;exact⟨k _ _ a1,a2,Mu (by rw[hC];exact Nat.lt_succ_of_lt this),nstk _ a3 a4,a5⟩
  have hp:p∈X.pn++(pins++[(D,oD)]):=hp;rcases List.mem_append.mp hp with z|z
  .exact old p (Ml _ z)
  .rcases List.mem_append.mp z with z|z
   .exact old p (Mj _ z)
   .have e:p=(D,oD):=by simpa using z
    subst e;have lt: @LT.lt Nat _ X.env.locals s.heap.objs.size:=I.lt;refine⟨hoD,I.bc.fresh (by show s.heap.objs.size<=D;lia),(by show(D:Nat)≠C;lia),nstk D (Nat.ne_of_gt (by rw[hD];exact lt)) (I.Jc (by lia)),hdD⟩
 .show(ix.map _).length=N.length
  rw[LW,c.len]
theorem eF.leave (c:eF X scope N ix)(I:Inv X pins σ H s)(hf:∀b∈fp,ik X pins H b){C D:Nat}{σ':St}{H':Hp}{s':MC}{ys:List V}{its:List MA}{n:Nat}{pl:List (MB×Obj)}(hC:C=s.heap.objs.size+1)(hD:D=s.heap.objs.size)
  (I':Inv (gc X N scope C fp s H) (pl++[(D,{cls:= .type "list",data:= .seq its.toArray n})]) σ' H' s') (rv:Vals ys its) (hz:ys.length<=MG):
  Inv X pins σ (upd H' D (.lst ys)) s':=by
 have pD:=I'.pin (D,_) (Mj _ (Mj _ Mg));have hDn:H' D=none:=pD.2.1;have u:Un (gw X.stack) fp H H' s.heap s'.heap:=I'.base;have hlt:∀b o,s.heap.get? b=some o->b≠D:=fun b o e=>Mu (by have: @LT.lt Nat _ b s.heap.objs.size:=MN.lt_size e;rw[hD];exact this);refine I.Bi (ch:=fp) I'.os ?_ ?_ I'.bare fun b hb=>?_
 .refine⟨u.keep,u.slot,fun b o e n hx=>by rw[ao (hlt b o e)];exact u.free b o e n hx,u.there,fun b xs e=>?_,fun b o w e=>?_,fun b ps e=>?_⟩
  .have e':=u.bI b xs e
   rw[ao (aq e' hDn)];exact e'
  .have e':=u.iF b o w e
   rw[ao (aq e' hDn)];exact e'
  .obtain⟨more,e'⟩:=u.i6 b ps e
   exact⟨more,by rw[ao (aq e' hDn)];exact e'⟩
 .intro b o e
  by_cases hb:b=D
  .subst hb
   rw[ae]at e;cases e;exact⟨hz,its,n,rv,pD.1⟩
  .rw[ao hb]at e
   refine(I'.bc b o e).jq (fun _ _ _ q=>q) (fun a q=>?_) fun a xs q=>?_
   .rw[ao (aq q hDn)];exact q
   .rw[ao (aq q hDn)];exact q
 .obtain⟨f0,f1,f2,f3,f4,f5⟩:=hf b hb
  exact⟨f3,f1,f4,f5⟩
end
section
variable{prog:MD}{w:ME}{A:MF}{R:Result->MC->Prop}{s:MC}
theorem tE{elt target iter:Expr}{ifs:List Expr}{scope:Scope}{pos:Pos}{it acc:MA}{env:Env}(I:Nat->MC->Prop)
  (turn:∀n s,I n s->MP (model prog w) A (pyNext it) (fun r s₁=>match r with
   |none=>R (.ok .next) s₁
   |some v=>MP (model prog w) A (letOwnedTupleGo target it v) (fun _ s₁=>MP (model prog w) A (assign target env v) (fun _ s₂=>
     MP (model prog w) A (forIn ifs true fun c r=>if r=true then do let ok←isTrue c env (eval c env);pure (ForInStep.yield ok)else pure (ForInStep.yield r)) (fun ok s₃=>
      if ok=true then MP (model prog w) A (eval elt env) (fun x s₄=>
       MP (model prog w) A (call (.builtin "list.append") [acc,x]) (fun _ s₅=>∃m,m<n/\I m s₅) (fun _ _=>False) s₄) (fun _ _=>False) s₃
      else∃m,m<n/\I m s₃) (fun _ _=>False) s₂) (fun _ _=>False) s₁) (fun _ _=>False) s₁) (fun _ _=>False) s)
  (n:Nat) (h:I n s):
  codeAny (model prog w) A (.compLoop (.ListComp elt [⟨target,iter,ifs,0⟩] scope pos) 0 it acc env) R s:=by
 refine codeAny_loop rfl I (fun n s hI=>?_) n h;show MP _ A ((compTurn (.ListComp elt [⟨target,iter,ifs,0⟩] scope pos) 0 it acc env).onRaise (fun x=>do noteFrame x env;theTreesLotGoes x)) _ _ s;refine wpAny_noted ?_;rw[compTurn_list];refine MI (wpAny_standAt (MI (MK (turn n s hI) (fun r s₁ h₁=>?_) fun _ _ h'=>h'.elim)))
 cases r with
 |none=>exact MJ h₁
 |some v=>
  refine MI (MK h₁ (fun _ s₁ h₁=>?_) fun _ _ h'=>h'.elim);refine MI (MK h₁ (fun _ s₂ h₂=>MI (MK h₂ (fun ok s₃ h₃=>?_) fun _ _ h'=>h'.elim)) fun _ _ h'=>h'.elim)
  cases ok with
  |false=>exact MJ ⟨rfl,h₃⟩
  |true=>
   refine MI (MI (MK h₃ (fun x s₄ h₄=>MI (MK h₄ (fun _ s₅ h₅=>?_) fun _ _ h'=>h'.elim)) fun _ _ h'=>h'.elim));exact MJ (MJ ⟨rfl,h₅⟩)
end
def Hm(X:Cx)(cs:List Expr)(t:TT):Prop:=
 ∀(pins:List (MB×Obj))(s:MC)(σ:St)(H:Hp)(Q:Bool->Hp->Prop),Inv X pins σ H s->t σ H Q->
  MP (model X.prog X.w) X.A (forIn cs true fun c r=>if r=true then do let ok←isTrue c X.env (eval c X.env);pure (ForInStep.yield ok)else pure (ForInStep.yield r)) (TP X pins σ Q) X.xe s
def gZ:TT:=fun _ H Q=>Q true H
theorem bg{X:Cx}:Hm X [] gZ:=fun _ _ _ H _ I h=>wpAny_tests_nil ⟨H,I,h⟩
theorem tu{X:Cx}{c:Expr}{t:TT}(h:PT X c t):Hm X [c] t:=fun pins s σ H Q I q=>wpAny_tests_one (h pins s σ H Q I q)
abbrev WC:=Nat->Nat->List V->St->Hp->Prop
def iW(ix:List (Option Nat))(g:TG)(tc:TT)(te:TE)(σ:St)(Q:VK)(J:It)(H1:Hp):Prop:=
 ∃W:WC,(∃m,W 0 m [] (dA ix σ) H1)/\∀i m ys σ' H',W i m ys σ' H'->
  (J.stop i H'/\ys.length<=MG/\∀p,H' p=none->Q (.ref p) (upd H' p (.lst ys)))\/
  (J.go i H'/\ys.length<MG/\∀x H2,J.Aw i H' x H2->g x σ' H2 fun σ2 H3=>tc σ2 H3 fun b H4=>
   if b=true then te σ2 H4 fun v H5=>∃m',m'<m/\W (i+1) m' (ys++[v]) σ2 H5 else∃m',m'<m/\W (i+1) m' ys σ2 H4)
def AE(ix:List (Option Nat))(wi:TI)(g:TG)(tc:TT)(te:TE):TE:=fun σ H Q=>wi σ H (iW ix g tc te σ Q)
section
variable{X:Cx}{scope:Scope}{N:List Str}{ix:List (Option Nat)}{elt tg iter:Expr}{ifs:List Expr}{g:TG}{tc:TT}{te:TE}{pos:Pos}
theorem oX{pins:List (MB×Obj)}{σ:St}{s2:MC}{Q:VK}{itv:MA}{RR:MA->MB->Result->MC->Prop}{E:MA->MC->Prop}(c:eF X scope N ix)(hc:X.calm=true)
  (hg:∀C fp s H,PG (gc X N scope C fp s H) tg g) (ht:∀C fp s H,Hm (gc X N scope C fp s H) ifs tc) (he:∀C fp s H,PE (gc X N scope C fp s H) elt te)
  (h2:HQ X pins σ tg (iW ix g tc te σ Q) itv s2)
  (hR:∀(D C:MB)(s':MC)(H':Hp)(m:Str->Option MA),Inv X pins σ H' s'->s'.heap.Ns C m->H' C=none->X.s₀.heap.objs.size<=C->(∀p∈X.pn++pins,p.1≠C)->C≠X.env.locals->(∀x c,X.env.cells.lookup x=some c->c≠C)->Q (.ref D) H'->RR (.ref D) C (.ok .next) s'):
  MP (model X.prog X.w) X.A (newList []) (fun acc s₃=>MP (model X.prog X.w) X.A (newFunctionEnv scope X.env.globals (dI X.env.cells scope.names []) [] X.env.qual none .none (some X.env)) (fun cenv s₄=>
   codeAny (model X.prog X.w) X.A (.compStart (.ListComp elt [⟨tg,iter,ifs,0⟩] scope pos) 0 itv acc {cenv with scope:=relabel scope X.env}) (RR acc cenv.locals) s₄) E s₃) E s2:=by
 obtain⟨it,fp,tn,J,H2,rfl,I2,T,st2,f2,W,⟨m0,w0⟩,turn⟩:=h2;refine wpAny_newObj_type (wpAny_newFunctionEnv c.oJ (by intro y hy;simp at hy) (fun h₁ hns₁ hsb₁=>?_) c.kind);dsimp only at hns₁ hsb₁⊢;generalize hH2:s2.heap.push {cls:= .type "list",dict:=none,data:= .seq ([]:List MA).toArray}=G2 at hns₁ hsb₁⊢;have hCs:G2.objs.size=s2.heap.objs.size+1:=by rw[←hH2,MN.size_push]
 generalize hCe:G2.objs.size=C at hns₁ hsb₁ hCs⊢;generalize hDe:s2.heap.objs.size=D at hCs⊢;have ltC:∀b,@LT.lt Nat _ b D->b≠C:=fun b hb=>Mu (by rw[hCs];exact Nat.lt_succ_of_lt hb);have ltS:∀b o,s2.heap.get? b=some o->@LT.lt Nat _ b D:=fun b o e=>by rw[←hDe];exact MN.lt_size e
 have hDC:D≠C:=Mu (by rw[hCs];exact Nat.lt_succ_self _);have old:∀b o,s2.heap.get? b=some o->h₁.get? b=some o:=fun b o e=>hsb₁.extBut b o (ltC b (ltS b o e)) (MN.get?_push_of_some _ (hH2▸MN.get?_push_of_some _ e));have hoD:h₁.get? D=some {cls:= .type "list",dict:=none,data:= .seq ([]:List MA).toArray}:=by
  refine hsb₁.extBut _ _ hDC (MN.get?_push_of_some _ ?_);rw[←hH2,←hDe];exact MN.get?_push_size _ rfl
 have I4:Inv (gc X N scope C fp s2 H2) (pins++[(D,{cls:= .type "list",data:= .seq ([]:List MA).toArray})]) (dA ix σ) H2 {s2 with heap:=h₁,toks:=s2.toks+([]:List (Str×MA)).length}:=
  c.enter I2 f2 (T.obj _ _ st2) (by rw[hCs,hDe]) hDe.symm old hns₁ hoD fun v z=>by cases z
 have st4:tn 0 h₁:=T.keep _ _ _ st2 fun b _ o e=>old b o e;have pinD:∀p∈X.pn++pins,p.1≠D:=fun p hp=>Mu (ltS _ _ (I2.pin p hp).1);have pinC:∀p∈X.pn++pins,p.1≠C:=fun p hp=>ltC _ (ltS _ _ (I2.pin p hp).1);have celD:∀x d,X.env.cells.lookup x=some d->@LT.lt Nat _ d D:=fun x d e=>by
  obtain⟨v,o,ho,_⟩:=I2.cell x d e;exact ltS d o ho
 have fpD:∀b∈fp,@LT.lt Nat _ b D:=fun b hb=>by
  obtain⟨o,e,_⟩:=T.obj _ _ st2 b hb;exact ltS b o e
 have sub:∀x d,(dI X.env.cells scope.names []).lookup x=some d->X.env.cells.lookup x=some d:=fun x d e=>by
  rcases cM e with z|z
  .simp at z
  .exact z
 have stat:∀{H':Hp}{oD:Obj},(∀b∈fp,H' b=none)->∀b∈fp,ik (gc X N scope C fp s2 H2) (pins++[(D,oD)]) H' b:=fun{H' oD} hn b hb=>by
  obtain⟨f0,f1,f2,f3,f4,f5⟩:=f2 b hb;refine⟨hn b hb,ltC b (fpD b hb),fun z=>?_,.inl hb,fun x d e=>f4 x d (sub x d e),fun p hp=>?_⟩
  .rcases List.mem_cons.mp (I2.iO b z)with e|e
   .exact f1 e
   .exact f2 e
  .have hp:p∈X.pn++(pins++[(D,oD)]):=hp
   rw[←Mp]at hp;rcases List.mem_append.mp hp with z|z
   .exact f5 p z
   .have e:p=(D,oD):=by simpa using z
    subst e;exact Nat.ne_of_gt (fpD b hb)
 have loop:∀s3:MC,s3={s2 with heap:=h₁,toks:=s2.toks+([]:List (Str×MA)).length}->
   codeAny (model X.prog X.w) X.A (.compLoop (.ListComp elt [⟨tg,iter,ifs,0⟩] scope pos) 0 (.ref it) (.ref D) (gc X N scope C fp s2 H2).env) (RR (.ref D) C) s3:=by
  rintro s3 rfl;refine tE (fun n s'=>∃i σ' H' ys its k,Inv (gc X N scope C fp s2 H2) (pins++[(D,{cls:= .type "list",data:= .seq (List.toArray its) k})]) σ' H' s'/\tn i s'.heap/\(∀b∈fp,H' b=none)/\Vals ys its/\W i n ys σ' H') ?_ m0
   ⟨0,_,H2,[],[],_,I4,st4,fun b hb=>(f2 b hb).1,.nil,w0⟩
  rintro n s3 ⟨i,σ3,H3,ys,its,k,I3,st3,fr3,rv,w3⟩;rcases turn i n ys σ3 H3 w3 with⟨stop,hz,qn⟩|⟨go,hz,step⟩
  .refine aV (T.done (gc X N scope C fp s2 H2) rfl rfl rfl hc i _ s3 σ3 H3 _ I3 (stat fr3) st3 stop) fun r s4 ⟨hr,I4⟩=>?_
   subst hr;have hDn:H3 D=none:=(I3.pin (D,_) (Mj _ (Mj _ Mg))).2.1;obtain⟨m4,hn4,_⟩:=id I4.loc;refine hR D C s4 _ m4 (c.leave I2 f2 (by rw[hCs,hDe]) hDe.symm I4 rv hz) hn4 ?_ ?_ pinC ?_ (fun x d e=>ltC d (celD x d e)) (qn D hDn)
   .rw[ao hDC.symm];exact I4.free
   .refine Mv I2.sz ?_
    rw[hDe,hCs];exact Nat.le_succ _
   .refine Nat.ne_of_gt (Mt I2.lt ?_)
    rw[hDe,hCs];exact Nat.le_succ _
  .refine aV (T.item (gc X N scope C fp s2 H2) rfl rfl rfl hc i _ s3 σ3 H3 _ I3 (stat fr3) st3 go) fun r s4 ⟨u,hr,h4⟩=>?_
   subst hr;refine aV h4 fun _ s5 ⟨x,H5,I5,r5,y5,st5,fr5⟩=>?_;have I5':=I5.pinned (stat fr5) (T.obj _ _ st5);refine aV (hg C fp s2 H2 _ s5 σ3 H5 x u _ I5' r5 (step x H5 y5)) fun _ s6 ⟨σ6,H6,I6,q6⟩=>?_;refine aV (ht C fp s2 H2 _ s6 σ6 H6 _ I6 q6) fun ok s7 ⟨H7,I7,q7⟩=>?_;have keep:∀{s':MC}{σ':St}{H':Hp},Inv (gc X N scope C fp s2 H2) ((pins++[(D,{cls:= .type "list",data:= .seq its.toArray k})])++gQ fp s5.heap) σ' H' s'->tn (i+1) s'.heap/\∀b∈fp,H' b=none:=fun{s' σ' H'} I'=>by
    refine⟨T.keep _ _ _ st5 fun b hb o e=>(I'.pin (b,o) (Mj _ (Mj _ (bW hb e)))).1,fun b hb=>?_⟩;obtain⟨o,e,d⟩:=T.obj _ _ st5 b hb;exact(I'.pin (b,o) (Mj _ (Mj _ (bW hb e)))).2.1
   cases ok with
   |false=>
    rw[if_neg Mx];rw[if_neg Mx]at q7;obtain⟨m',hm,w7⟩:=q7;obtain⟨k1,k2⟩:=keep I7;exact⟨m',hm,i+1,σ6,H7,ys,its,k,I7.cD,k1,k2,rv,w7⟩
   |true=>
    rw[if_pos rfl];rw[if_pos rfl]at q7;refine aV (he C fp s2 H2 _ s7 σ6 H7 _ I7 q7) fun y s8 ⟨v,H8,I8,r8,m',hm,w8⟩=>?_;obtain⟨k1,k2⟩:=keep I8;have pD:=I8.pin (D,_) (Mj _ (Ml _ (Mj _ Mg)));have I8u:=I8.cD;have I8v:Inv (gc X N scope C fp s2 H2) pins σ6 H8 s8:=I8u.cD;have len:=rv.length;refine wpAny_list_append_plain (items:=its.toArray) (hsz:=by simp;lia) ⟨k,pD.1⟩ fun h9 hl9 hs9=>?_;obtain⟨k9,e9⟩:=hl9;have I9:Inv (gc X N scope C fp s2 H2) pins σ6 H8 {s8 with heap:=h9}:=by
     refine I8v.turned (t':=s8.toks) (it:=D) (fun b o hb e=>hs9.extBut b o hb e) pD.2.1 hDC (.inr ?_) (fun x d e=>Mu (celD x d (sub x d e))) fun p hp=>?_
     .show s2.heap.objs.size<=D
      rw[hDe];exact Ms _
     .exact pinD p hp
    have e9':h9.get? D=some {cls:= .type "list",data:= .seq (its++[y]).toArray k9}:=by
     rw[e9];simp
    refine⟨m',hm,i+1,σ6,H8,ys++[v],its++[y],k9,I9.kX fun p hp=>?_,T.keep _ _ _ k1 fun b hb o e=>hs9.extBut b o (Mu (fpD b hb)) e,k2,rv.append (.cons r8 .nil),w8⟩;rcases List.mem_append.mp hp with z|z
    .exact I9.pin p (Mj _ z)
    .have e:p=(D,{cls:= .type "list",data:= .seq (its++[y]).toArray k9}):=by simpa using z
     subst e;exact⟨e9',pD.2.1,pD.2.2.1,pD.2.2.2.1,fun v z=>by cases z⟩
 exact codeAny_compStart_list (loop _ rfl) (T.self _ 0 _ _ _ st4 (loop _ rfl))
variable{wi:TI}
theorem bJ(c:eF X scope N ix)(hc:X.calm=true)(hi:PI X tg iter wi)(hg:∀C fp s H,PG (gc X N scope C fp s H) tg g)(ht:∀C fp s H,Hm (gc X N scope C fp s H) ifs tc)(he:∀C fp s H,PE (gc X N scope C fp s H) elt te)
  (hs:∀x,foldedSetIterable iter X.env x=pure x:=by intro _;rfl):PE X (.ListComp elt [⟨tg,iter,ifs,0⟩] scope pos) (AE ix wi g tc te):=by
 intro pins s σ H Q I h;rw[eval_ListComp];have hcl:∀y∈scope.names,y.2=MR.free->∃d,X.env.cells.lookup y.1=some d:=fun y hy e=>I.ok.has _ (c.fr y hy e);refine wpAny_comprehension_free (use:=none) rfl hs (fm hcl) c.kind c.names (aV (hi pins s σ H _ I h) fun v s1 h1=>aV h1 fun itv s2 h2=>?_);refine oX (RR:=fun acc C=>compPost (model X.prog X.w) X.A X.xe none (EP X pins σ Q) acc C) c hc hg ht he h2 ?_;intro D C s' H' m I' hn hC hz hp hL hcells q;exact⟨m,hn,fun h' hs'=>⟨.ref D,H',I'.turned (t':=s'.toks) (fun b o hb e=>hs'.extBut b o hb e) hC hL (.inr hz) hcells hp,rfl,q⟩⟩
theorem fu{i:Nat}{x:Str}{px spos:Pos}(hN:X.N.Nodup)(hx0:X.N[i]?=some x)(hx:X.env.scope.names.lookup x=some .local)(c:eF X scope N ix)(hc:X.calm=true)(hi:PI X tg iter wi)(hg:∀C fp s H,PG (gc X N scope C fp s H) tg g)(ht:∀C fp s H,Hm (gc X N scope C fp s H) ifs tc)(he:∀C fp s H,PE (gc X N scope C fp s H) elt te)
  (hsw:swapsWith (.ListComp elt [⟨tg,iter,ifs,0⟩] scope pos) (some (.Name x px)) spos.line X.env=pure true:=by rfl)
  (hs:∀x,foldedSetIterable iter X.env x=pure x:=by intro _;rfl):PS X (.Assign [.Name x px] (.ListComp elt [⟨tg,iter,ifs,0⟩] scope pos) spos) (uQ (AE ix wi g tc te) (cu i)):=by
 intro pins s σ H D0 I h;rw[exec_Assign_Name_used _ _ _ _ hsw];refine MI (wpAny_standAt (MI ?_));show MP _ _ (do let _←comprehension (.ListComp elt [⟨tg,iter,ifs,0⟩] scope pos) scope X.env _ (newList []) false (eval iter X.env) (some (assign (.Name x px) X.env))) _ _ s;have hcl:∀y∈scope.names,y.2=MR.free->∃d,X.env.cells.lookup y.1=some d:=fun y hy e=>I.ok.has _ (c.fr y hy e);refine MI (MK (wpAny_comprehension_free (use:=some (assign (.Name x px) X.env)) (Q:=fun _ s'=>SP X pins D0 .next s') rfl hs (fm hcl) c.kind c.names
  (aV (hi pins s σ H _ I h) fun v s1 h1=>aV h1 fun itv s2 h2=>?_)) (fun _ s' hq=>MJ (MJ hq)) fun _ _ e=>e)
 refine oX (RR:=fun acc C=>compPost (model X.prog X.w) X.A X.xe (some (assign (.Name x px) X.env)) (fun _ s'=>SP X pins D0 .next s') acc C) c hc hg ht he h2 ?_;intro D C s' H' m I' hn hC hz hp hL hcells q;show MP _ _ (assign (.Name x px) X.env (.ref D)) _ _ _;refine wpAny_assign_Name (ma (v:= .ref D) I' hN hx0 (.inl hx) rfl (fun s'' I'' hsb=>?_) (.inr hx));obtain⟨a,sb,ha⟩:=hsb;have haC:a≠C:=by
  rcases ha with e|e
  .rw[e];exact hL.symm
  .exact hcells x a e
 refine⟨m,hn.sameBut sb haC.symm,fun h' hs'=>⟨_,H',I''.turned (t':=s''.toks) (fun b o hb e=>hs'.extBut b o hb e) hC hL (.inr hz) hcells hp,q⟩⟩
end
mutual
inductive Dat(K:W.Frag)(H:Hp)(P:MB->Prop):V->PyData->Prop
 |cE:Dat K H P .cE .none
 |bl (b:Bool):Dat K H P (.bl b) (.bool b)
 |int (i:Int):Dat K H P (.int i) (.int i)
 |str (x:Str):Dat K H P (.str x) (.str x)
 |lst {a:MB} {vs:List V} {ds:List PyData}:aG K H a vs->P a->DatAll K H P vs ds->Dat K H P (.ref a) (.list ds)
 |tup {a:MB} {vs:List V} {ds:List PyData}:dH K H a vs->P a->DatAll K H P vs ds->Dat K H P (.ref a) (.tuple ds)
inductive DatAll(K:W.Frag)(H:Hp)(P:MB->Prop):List V->List PyData->Prop
 |nil:DatAll K H P [] []
 |cons {v:V} {d:PyData} {vs:List V} {ds:List PyData}:Dat K H P v d->DatAll K H P vs ds->DatAll K H P (v::vs) (d::ds)
end
def tL(P:MB->Prop)(H H':Hp):Prop:=∀b o,P b->H b=some o->H' b=some o
theorem tL.LO {P:MB->Prop}{H H':Hp}{K:W.Frag}{a:MB}{xs:List V}(k:tL P H H')(p:P a)(h:aG K H a xs):aG K H' a xs:=by
 rcases h with(h|⟨o,h⟩)|h
 .exact .inl (.inl (k _ _ p h))
 .exact .inl (.inr ⟨o,k _ _ p h⟩)
 .exact .inr h
theorem tL.LP {P:MB->Prop}{H H':Hp}{K:W.Frag}{a:MB}{xs:List V}(k:tL P H H')(p:P a)(h:dH K H a xs):dH K H' a xs:=by
 rcases h with(h|⟨o,h⟩)|h
 .exact .inl (.inl (k _ _ p h))
 .exact .inl (.inr ⟨o,k _ _ p h⟩)
 .exact .inr h
mutual
theorem Dat.keep {K:W.Frag}{H H':Hp}{P:MB->Prop}(k:tL P H H'):∀{v:V}{d:PyData},Dat K H P v d->Dat K H' P v d
 |_,_,.cE=> .cE
 |_,_,.bl b=> .bl b
 |_,_,.int i=> .int i
 |_,_,.str x=> .str x
 |_,_,.lst h p r=> .lst (k.LO p h) p (r.keep k)
 |_,_,.tup h p r=> .tup (k.LP p h) p (r.keep k)
theorem DatAll.keep {K:W.Frag}{H H':Hp}{P:MB->Prop}(k:tL P H H'):∀{vs:List V}{ds:List PyData},DatAll K H P vs ds->DatAll K H' P vs ds
 |_,_,.nil=> .nil
 |_,_,.cons h r=> .cons (h.keep k) (r.keep k)
end
section
variable{X:Cx}{pins:List (MB×Obj)}{σ:St}{H:Hp}{s:MC}
mutual
theorem Inv.reads {P:MB->Prop}(I:Inv X pins σ H s):∀{v:V}{d:PyData}{u:MA},Dat X.K H P v d->RelV v u->∃as,Reads s.heap u d as
 |_,_,u,.cE,r=>by cases(show u=MA.none from r);exact⟨_,.none⟩
 |_,_,u,.bl b,r=>by cases(show u=MA.bool b from r);exact⟨_,.bool b⟩
 |_,_,u,.int i,r=>by obtain⟨t,rfl⟩:=(show∃t,u=MA.int i t from r);exact⟨_,.int i t⟩
 |_,_,u,.str x,r=>by obtain⟨t,rfl⟩:=(show∃t,u=MA.str x t from r);exact⟨_,.str x t⟩
 | .ref a,_,u,.lst h p rs,r=>by
  cases(show u=MA.ref a from r);obtain⟨its,rv,⟨o,n,e,c,_,d⟩,_⟩:=I.list h;obtain⟨as,q⟩:=Inv.readsAll I rs rv;exact⟨_,.list e c d (by simpa using q)⟩
 | .ref a,_,u,.tup h p rs,r=>by
  cases(show u=MA.ref a from r);obtain⟨its,rv,⟨o,e,c,n,d⟩,_⟩:=I.tuple h;obtain⟨as,q⟩:=Inv.readsAll I rs rv;exact⟨_,.tuple e c d (by simpa using q)⟩
theorem Inv.readsAll {P:MB->Prop}(I:Inv X pins σ H s):∀{vs:List V}{ds:List PyData}{us:List MA},DatAll X.K H P vs ds->Vals vs us->∃as,ReadsAll s.heap us ds as
 |_,_,_,.nil,r=>by cases r;exact⟨_,.nil⟩
 |_,_,_,.cons h rs,r=>by
  cases r with
  |cons r1 r2=>
   obtain⟨as,q⟩:=Inv.reads I h r1;obtain⟨bs,q'⟩:=Inv.readsAll I rs r2;exact⟨_,.cons q q'⟩
end
def GI(K:W.Frag):R2:=fun x y H Q=>∃P dx dy,Dat K H P x dx/\Dat K H P y dy/\dx.canLay0=true/\dy.canLay0=true/\dx.depth<=60/\Q (.bl (PyData.eqv dx dy)) H
def K2(K:W.Frag):R2:=fun x y H Q=>∃P dx dy,Dat K H P x dx/\Dat K H P y dy/\dx.canLay0=true/\dy.canLay0=true/\dx.depth<=60/\Q (.bl (!PyData.eqv dx dy)) H
theorem tf(hu:X.A.units+64<cLine):j0 X (compareOp .Eq) (GI X.K):=by
 intro pins s σ H x y v u Q I rx ry h;obtain⟨P,dx,dy,hx,hy,lx,ly,dd,q⟩:=h;obtain⟨as,qa⟩:=I.reads hx rx;obtain⟨bs,qb⟩:=I.reads hy ry;exact SeqAt.compareEq_reads qa qb lx ly (by lia) ⟨.bl _,H,I,rfl,q⟩
def Hw:List V->Hp->VK->Prop:=fun xs H Q=>(∃j,xs=[.int j]/\∀p,H p=none->Q (.ref p) (upd H p (.tR 0 j)))\/∃i j,xs=[.int i,.int j]/\∀p,H p=none->Q (.ref p) (upd H p (.tR i j))
theorem oW:bX X (.type "range") Hw:=by
 intro pins s σ H xs us Q I r h;rcases h with⟨j,rfl,q⟩|⟨i,j,rfl,q⟩
 .obtain⟨u,rfl,t,rfl⟩:=vals1 r
  refine call_range_1 ⟨.ref s.heap.objs.size,_,I.laid (o:= .tR 0 j) (fun b o e=>MN.get?_push_of_some _ e) (Ms _) ⟨_,_,_,MN.get?_push_size _ rfl⟩,rfl,q _ (I.bc.fresh (Ms _))⟩
 .obtain⟨u,u',rfl,⟨t,rfl⟩,⟨t',rfl⟩⟩:=vals2 r
  refine call_range_2 ⟨.ref s.heap.objs.size,_,I.laid (o:= .tR i j) (fun b o e=>MN.get?_push_of_some _ e) (Ms _) ⟨_,_,_,MN.get?_push_size _ rfl⟩,rfl,q _ (I.bc.fresh (Ms _))⟩
def eB(lo hi:Int):List Int:=(List.range (hi-lo).toNat).map fun(i:Nat)=>lo+(i:Int)
theorem a8(lo hi:Int):(eB lo hi).length=(hi-lo).toNat:=by simp[eB]
theorem oF{lo:Int}{n:Nat}{acc:Array MA}(h:ItemsOf (fun i v=>∃t,v= .int (lo+i*1) t) acc n):Vals (((List.range n).map fun(i:Nat)=>lo+(i:Int)).map V.int) acc.toList:=by
 obtain⟨h1,h2⟩:=h;have key:∀(l:List MA)(k:Nat),(∀(j:Nat)(v:MA),l[j]?=some v->∃t,v=MA.int (lo+((k+j:Nat):Int)*1) t)->Vals ((List.range' k l.length).map fun(i:Nat)=>V.int (lo+(i:Int))) l:=by
  intro l
  induction l with
  |nil=>intro k _;exact .nil
  |cons v r ih=>
   intro k hk;rw[L8,List.range'_succ,L9];refine .cons ?_ (ih (k+1) fun j v hj=>?_)
   .obtain⟨t,e⟩:=hk 0 v rfl
    refine⟨t,?_⟩;rw[e];simp
   .obtain⟨t,e⟩:=hk (j+1) v (by simpa using hj)
    refine⟨t,?_⟩;rw[e];congr 2;simp;lia
 have:=key acc.toList 0 fun j v hj=>by
  have:=h2 j v (by simpa using hj);simpa using this
 rw[Md];rw[List.range_eq_range'];have e:acc.toList.length=n:=by simpa using h1
 rw[e]at this;exact this
theorem uy{i j:Int}:MS.Range.rangeSize i j 1=(((j-i).toNat:Nat):Int):=by
 rw[rangeSize_one];split<;>lia
def BR:List V->Hp->VK->Prop:=fun xs H Q=>∃p i j,xs=[.ref p]/\H p=some (.tR i j)/\-1000000<=i/\i<=1000000/\-1000000<=j/\j<=1000000/\∀l,H l=none->Q (.ref l) (upd H l (.lst ((eB i j).map V.int)))
theorem size_le{i j:Int}(h1: -1000000<=i)(h2:i<=1000000)(h3: -1000000<=j)(h4:j<=1000000):(j-i).toNat<=2^24:=by
 have:(j-i).toNat<=2000000:=by lia
 exact Mv this (by decide)
theorem qp(hc:X.calm=true):bX X (.type "list") BR:=by
 intro pins s σ H xs us Q I r h;obtain⟨p,i,j,rfl,hp,h1,h2,h3,h4,q⟩:=h;obtain⟨u,rfl,rx⟩:=vals1 r;cases rx;obtain⟨t,t',t'',e⟩:=(show bH X.prog X.w H s.heap p (.tR i j)from I.bc p _ hp);refine call_list_range (I.ok.hd hc) e (small_one (by lia) (by lia) (by lia) (by lia)) uy (size_le h1 h2 h3 h4) fun h' tk acc' c' k e' it=>?_;have v:=oF it;refine⟨.ref s.heap.objs.size,_,I.laid (o:= .lst ((eB i j).map V.int)) k (Ms _) ⟨?_,acc'.toList,c',v,by simpa using e'⟩,rfl,q _ (I.bc.fresh (Ms _))⟩;rw[LW,a8];exact Mv (size_le h1 h2 h3 h4) (by decide)
end
section
variable{prog:MD}{w:ME}{A:MF}{E:MA->MC->Prop}{s:MC}
theorem p9{Q:List MA->MC->Prop}{r:MB}{a b c:Int}{t u v:Tok}{n:Nat}(hh:A.handled=none)(hr:IsRange s.heap r a b c t u v)(hsmall:MS.Range.small a b c=true)
  (hn:MS.Range.rangeSize a b c=n) (hlen:n<=2^24)
  (hQ:∀h' tk acc,(∀b o,s.heap.get? b=some o->h'.get? b=some o)->ItemsOf (fun i v=>∃t,v= .int (a+i*c) t) acc n->Q acc.toList {s with heap:=h',toks:=tk}):
  MP (model prog w) A (collect (.ref r)) Q E s:=by
 unfold collect;refine MI (wpAny_runValue (codeAny_builtin F.entry_proto_collect ?_));rw[MF.under_plainId F.plain_proto_collect _];show MP _ A.in1 (newList []>>=fun l=>again (.builtin "list.__iadd__" ⟨[l,.ref r],[]⟩)) _ _ s;refine MI (wpAny_newObj_type ?_);refine MJ ⟨plainId_quiet F.plain_list_iadd _,codeAny_builtin F.entry_list_iadd ?_⟩;rw[MF.under_plainId F.plain_list_iadd _];show MP _ A.in1 (MS.List.listExtendWith (.ref s.heap.objs.size) (.ref r) (.ref s.heap.objs.size)) _ _ _;have hS:(s.heap.push {cls:= .type "list",data:= .seq ([]:List MA).toArray}).get? s.heap.objs.size=some {cls:= .type "list",data:= .seq #[] 0}:=MN.get?_push_size _ rfl;have fin':∀(h':MN)(tk:Nat)(acc':Array MA)(c':Nat),(∀b o,b≠s.heap.objs.size->(s.heap.push {cls:= .type "list",data:= .seq ([]:List MA).toArray}).get? b=some o->h'.get? b=some o)->
   h'.get? s.heap.objs.size=some {cls:= .type "list",dict:=none,data:= .seq acc' c',slots:= #[]}->ItemsOf (fun i v=>∃t,v= .int (a+i*c) t) acc' n->MP (model prog w) A (match MA.ref s.heap.objs.size with
   |MA.ref a=>do
    match(←load a).data with
     |Data.seq xs _=>pure xs.toList
     |_=>unsupported "internal:collect"
   |_=>unsupported "internal:collect") Q E {s with heap:=h',toks:=tk}:=fun h' tk acc' c' hk hS' hacc=>by
  show MP _ A (load s.heap.objs.size>>=_) _ _ _;refine MI (wpAny_load hS' ?_);exact MJ (hQ h' tk acc' (fun b o e=>hk b o (Mu (MN.lt_size e)) (MN.get?_push_of_some _ e)) hacc)
 refine MK (wpAny_extend_range (A:=A) (R:=fun r s'=>r= .ok (.ret (.ref s.heap.objs.size))/\MP (model prog w) A (match MA.ref s.heap.objs.size with
   |MA.ref a=>do
    match(←load a).data with
     |Data.seq xs _=>pure xs.toList
     |_=>unsupported "internal:collect"
   |_=>unsupported "internal:collect") Q E s') (s:={s with heap:=s.heap.push {cls:= .type "list",data:= .seq ([]:List MA).toArray}}) hh (MN.get?_push_of_some _ hr) hsmall hn hlen _ (.ref s.heap.objs.size) 0 hS fun h' tk acc' c' hk hS' hacc=>⟨rfl,fin' h' tk acc' c' hk hS' hacc⟩) (fun fin s' h=>?_) (fun e s' h=>?_)
 .cases fin with
  |done f=>
   obtain⟨e,q⟩:=h;cases e;exact q
  |again c'=>exact⟨h.1,codeAny_mono h.2 fun r s'' hr=>by obtain⟨rfl,q⟩:=hr;exact q⟩
 .exact absurd h.1 (by simp)
theorem i8{r:MB}{a b c:Int}{t u v:Tok}{n:Nat}(hsmall:MS.Range.small a b c=true)(hn:MS.Range.rangeSize a b c=n)(hlen:n<=2^24):
  Meets (MS.«tuple.__new__» ⟨[.type "tuple",.ref r],[]⟩)
   (fun A R s=>A.handled=none/\IsRange s.heap r a b c t u v/\∀(h':MN)(tk:Nat)(acc:Array MA),(∀b o,s.heap.get? b=some o->h'.get? b=some o)->ItemsOf (fun i v=>∃t,v= .int (a+i*c) t) acc n->
    R (.ok (.ret (.ref h'.objs.size))) {s with heap:=h'.push {cls:= .type "tuple",data:= .seq acc},toks:=tk}):=
 .of_wp fun prog w A R s h=>by
  obtain⟨hp,g,d,tk,os⟩:=s;obtain⟨hh,hr,h⟩:=h;have hsub:=sub_tuple_self;have hinit:=init_tuple_lookup;have hmh:=madeHere_tuple;have hT:MC.TypeIs ⟨hp,g,d,tk,os⟩ (.ref r) "range" :=⟨_,hr,rfl⟩;have hh1:A.in1.handled=none:=hh
  wp_walk using wpAny_typeOf hT,p9 hh1 hr hsmall hn hlen
  intro h' tk acc hk hacc;have hsz:acc.size<=MG:=by rw[hacc.1];exact Mv hlen (by decide)
  show MP _ _ (MS.Tuple.tupleExact acc.toList.toArray>>=fun v=>ret v) _ _ _;unfold MS.Tuple.tupleExact;refine MI (wpAny_newObj_type ?_ (show acc.toList.toArray.size<=MG by simpa using hsz));refine MJ ⟨_,rfl,?_⟩;have e:acc.toList.toArray=acc:=by simp
  rw[e];exact h h' tk acc hk hacc
theorem mM{Q:MA->MC->Prop}{r:MB}{a b c:Int}{t u v:Tok}{n:Nat}(hh:A.handled=none)(hr:IsRange s.heap r a b c t u v)(hsmall:MS.Range.small a b c=true)
  (hn:MS.Range.rangeSize a b c=n) (hlen:n<=2^24)
  (h:∀(h':MN)(tk:Nat)(acc:Array MA),(∀b o,s.heap.get? b=some o->h'.get? b=some o)->ItemsOf (fun i v=>∃t,v= .int (a+i*c) t) acc n->Q (.ref h'.objs.size) {s with heap:=h'.push {cls:= .type "tuple",data:= .seq acc},toks:=tk}):
  MP (model prog w) A (call (.type "tuple") [.ref r]) Q E s:=by
 refine callType_new F.called_tuple (by decide) (F.typeCall_tuple_1 _) (F.newCall_tuple_1 _) (fun obj=>F.args_object_init_2 obj _) F.entry_tuple_new
  (i8 hsmall hn hlen) ⟨hh,hr,fun h' tk acc hk hacc=>⟨⟨_,MN.get?_push_size _ rfl,rfl⟩,?_⟩⟩
 exact h h' tk acc hk hacc
end
section
variable{X:Cx}
def Dw:List V->Hp->VK->Prop:=fun xs H Q=>∃p i j,xs=[.ref p]/\H p=some (.tR i j)/\-1000000<=i/\i<=1000000/\-1000000<=j/\j<=1000000/\∀l,H l=none->Q (.ref l) (upd H l (.tup ((eB i j).map V.int)))
theorem oN(hc:X.calm=true):bX X (.type "tuple") Dw:=by
 intro pins s σ H xs us Q I r h;obtain⟨p,i,j,rfl,hp,h1,h2,h3,h4,q⟩:=h;obtain⟨u,rfl,rx⟩:=vals1 r;cases rx;obtain⟨t,t',t'',e⟩:=(show bH X.prog X.w H s.heap p (.tR i j)from I.bc p _ hp);refine mM (I.ok.hd hc) e (small_one (by lia) (by lia) (by lia) (by lia)) uy (size_le h1 h2 h3 h4) fun h' tk acc k it=>?_;have v:=oF it;have I1:Inv X pins σ H {s with heap:=h',toks:=tk}:=I.kept k;refine⟨.ref h'.objs.size,_,I1.laid (t':=tk) (o:= .tup ((eB i j).map V.int)) (fun b o e=>MN.get?_push_of_some _ e) (Ms _) ⟨?_,acc.toList,v,by simpa using IsTup.new h' acc⟩,rfl,q _ (I1.bc.fresh (Ms _))⟩;rw[LW,a8];exact Mv (size_le h1 h2 h3 h4) (by decide)
def Ie(K:W.Frag)(x:V)(H:Hp)(T:String):Prop:=ko K H x (.type T)
def Jf(K:W.Frag):List V->Hp->VK->Prop:=fun xs H Q=>∃x T C b,xs=[x,.ty C]/\Ie K x H T/\W.kitOne K (.type T) (.type C)=some b/\Q (.bl b) H
theorem B5:bX X (.builtin "isinstance") (Jf X.K):=by
 intro pins s σ H xs us Q I r h;obtain⟨x,T,C,b,rfl,ty,e,q⟩:=h;obtain⟨u,w',rfl,rx,ry⟩:=vals2 r;cases(show w'=MA.type C from ry);exact zD I rx ty e fun tk=>⟨.bl b,H,I.tok _,rfl,q⟩
theorem vW(K:W.Frag)(T:String):W.kitOne K (.type T) (.type T)=some true:=by
 unfold W.kitOne;rw[if_pos (beq_self_eq_true _)]
def Il(K:W.Frag):List V->Hp->VK->Prop:=fun xs H Q=>∃(p:MB)(bs:List Bool),xs=[.ref p]/\aG K H p (bs.map V.bl)/\Q (.bl (bs.all id)) H
theorem iG:∀{bs:List Bool}{us:List MA},Vals (bs.map V.bl) us->us=bs.map MA.bool
 |[],us,r=>by cases r;rfl
 |b::r,us,h=>by
  cases h with
  |cons h1 h2=>
   rw[L9,←iG h2];rw[show _=MA.bool b from h1]
theorem Bv(hc:X.calm=true):bX X (.builtin "all") (Il X.K):=by
 intro pins s σ H xs us Q I r h;obtain⟨p,bs,rfl,hl,q⟩:=h;obtain⟨u,rfl,rx⟩:=vals1 r;cases rx;obtain⟨its,rv,pl,hz⟩:=I.list hl;have e:=iG rv;subst e;refine call_all_walk (wpAny_pyIter_list pl.isList ?_);have lt:p<s.heap.objs.size:=by obtain⟨o,n,e,_⟩:=pl;exact MN.lt_size e
 refine⟨s.heap.objs.size,_,_,_,_,_,fun i=>bs.getD i true,rfl,Walks.list (A:=X.A.in1) (show X.A.in1.handled=none from I.ok.hd hc) s.heap.objs.size p (Mu lt) (bs.map MA.bool).toArray,?_,?_,?_⟩
 .refine⟨⟨_,MN.get?_push_size _ rfl,rfl,rfl⟩,pl.isList.at fun o e=>MN.get?_push_of_some _ e⟩
 .intro i v s' Q' E' hP hQ'
  have hP:(bs.map MA.bool).toArray[i]?=some v:=hP;have:(bs.map MA.bool)[i]?=some v:=by simpa using hP
  rw[LX]at this
  cases hb:bs[i]? with
  |none=>rw[hb]at this;cases this
  |some b=>
   rw[hb]at this;cases this;have hg:bs.getD i true=b:=by rw[Me,hb];rfl
   have hQ':Q' (bs.getD i true) s':=hQ';rw[hg]at hQ';exact wpAny_truthy_bool hQ'
 .intro h' tk hk
  have e:(List.range (bs.map MA.bool).toArray.size).all (fun i=>bs.getD i true)=bs.all id:=by
   have:∀(l:List Bool),(List.range l.length).all (fun i=>l.getD i true)=l.all id:=by
    intro l
    induction l with
    |nil=>rfl
    |cons b r ih=>
     rw[L8,List.range_succ_eq_map,Mc,Mc,List.all_map];rw[←ih];rfl
   simpa using this bs
  rw[e];refine⟨.bl (bs.all id),H,?_,rfl,q⟩;refine(I.kept (t':=s.toks) (h':=h') fun b o e=>hk b o ?_ (MN.get?_push_of_some _ e)).tok tk;intro z;have z:b=s.heap.objs.size:=by simpa using z
  exact absurd (MN.lt_size e) (by rw[z];exact Nat.lt_irrefl _)
def II(K:W.Frag)(te:TE):TE:=fun σ H Q=>te σ H fun x H1=>∃a xs,x= .ref a/\aG K H1 a xs/\∀p,H1 p=none->Q (.ref p) (upd H1 p (.lst xs.reverse))
theorem Di{e:Expr}{te:TE}{j:Nat}{pu p1 p2 pos:Pos}(he:PE X e te):PE X (.Subscript e (.Slice none none (some (.UnaryOp .USub (.Constant (.int 1) j p1) pu)) p2) pos) (II X.K te):=by
 intro pins s σ H Q I h;refine Subscript_ (aV (he pins s σ H _ I h) fun v s1 ⟨x,H1,I1,r1,a,xs,ex,hx,q⟩=>?_);subst ex;cases r1;refine wpAny_Slice (by
  rw[evalPart_none];refine MJ ?_;refine MJ ?_;rw[evalPart_some];refine UnaryOp_ (wpAny_Constant_int (neg_int ?_));obtain⟨its,rv,pl,hz⟩:=I1.list hx;have hlen:=rv.length;have I2:Inv X pins σ H1 {s1 with toks:=s1.toks+1+1}:=I1.tok _;have I4:Inv X pins σ H1 {s1 with heap:=s1.heap.push {cls:= .type "slice",data:= .fields #[.none,.none,.int (-1) (s1.toks+1)]},toks:=s1.toks+1+1}:=I2.kept fun b ob q=>MN.get?_push_of_some _ q;have hl4:=pl.isList.at (h':=s1.heap.push {cls:= .type "slice",data:= .fields #[.none,.none,.int (-1) (s1.toks+1)]}) fun o e=>MN.get?_push_of_some _ e;show MP (model X.prog X.w) X.A (subscriptTail e (.Slice none none (some (.UnaryOp .USub (.Constant (.int 1) j p1) pu)) p2) (.ref a) (.ref s1.heap.objs.size)) (EP X pins σ Q) X.xe {s1 with heap:=s1.heap.push {cls:= .type "slice",data:= .fields #[.none,.none,.int (-1) (s1.toks+1)]},toks:=s1.toks+1+1};refine tail_any (ops:=[.ref a,.ref s1.heap.objs.size]) hl4.typeIs slot_list_getitem.lookup ?_ (by with_unfolding_all rfl);refine wpAny_getItem_list_slice hl4 (MN.IsSliceOf.new ..) .none .none (.int (-1) _) (by decide) ?_ (by rw[Mm]<;>lia);rw[W.krv_pick];refine⟨.ref _,_,I4.laid (t':=_) (o:= .lst xs.reverse) (fun b ob q=>MN.get?_push_of_some _ q) (Ms _) ?_,rfl,q _ (I4.bc.fresh (Ms _))⟩;have e5:its.toArray.toList=its:=by simp
  refine⟨by rw[List.length_reverse];exact hz,its.reverse,0,rv.reverse,?_⟩;rw[e5];exact MN.get?_push_size _ rfl)
end
structure FnAt(P:MD)(w:ME)(K:W.Frag)(mg:Str->Option MA)(base:MN)(x:Str)(k:Nat)(ps:List Str)(sp:Sp):Prop where
 ex:∃(f:MB)(fd:MM),aS P w K mg base fQ k f fd ps sp/\mg x=some (.ref f)/\W.keepIn K (.ref f)=true/\Binds K fd ps []
section
variable{X:Cx}{x:Str}{k:Nat}{ps:List Str}{sp:Sp}{e:Expr}{es:List Expr}{t:TA}{p pos:Pos}
theorem ak(F:FnAt X.prog X.w X.K X.mg X.base x k ps sp)(hr:cQ k X.A)(hg:Gl X x)(ha:PA X (e::es) t)(hdb:(x==("__debug__" :Str))=false:=by decide+kernel)(he:ML (e::es) X.env=(false,eval e X.env)::ML es X.env:=by rfl)(hpl:(MO pos (ML es X.env)).any (·.1)=false:=by rfl):
  PE X (.Call (.Name x p) (e::es) [] pos) (vE sp [] E0 t):=by
 obtain⟨f,fd,F,hm,hk,hb⟩:=F.ex;exact yJ F hr hg hm hk hb .nil Fu ha hdb he hpl
def Je(i j:Int):Prop:=0<j/\j<2^200
theorem log2_lt{j:Int}(h:0<j)(h2:j<2^200):j.natAbs.log2<9000:=by
 have h3:j.natAbs<2^200:=by
  have e:((j.natAbs:Nat):Int)=j:=Int.natAbs_of_nonneg (Int.le_of_lt h);have:((j.natAbs:Nat):Int)<((2^200:Nat):Int):=by rw[e];simpa using h2
  exact Int.ofNat_lt.mp this
 have h0:j.natAbs≠0:=by lia
 have:=(Nat.log2_lt h0).mpr h3;lia
theorem vn:j0 X (binaryOp .FloorDiv) (rI Je fun i j=> .int (i/j)):=JW fun i j _ _ _ _ _ hc q=>by
 refine floordiv_int (by have:=hc.1;lia) ?_ (.inl (PyProof.noPylong_of_log2 (log2_lt hc.1 hc.2)));rw[Int.fdiv_eq_ediv_of_nonneg _ (Int.le_of_lt hc.1)];exact q
end
def Iz(XN N:List Str)(ix:List (Option Nat))(names:List (Str×MR)):Bool:=
 (List.range ix.length).all fun j=>match ix[j]? with
  |some (some i)=>match N[j]? with
   |some x=>XN[i]?==some x&&names.lookup x==some .free
   |none=>false
  |_=>true
theorem Hr{XN N:List Str}{ix:List (Option Nat)}{names:List (Str×MR)}(h:Iz XN N ix names=true):
  ∀(j i:Nat),ix[j]?=some (some i)->∃x:Str,N[j]?=some x/\XN[i]?=some x/\names.lookup x=some .free/\(x,MR.free)∈names:=by
 intro j i e;have hj:j<ix.length:=(List.getElem?_eq_some_iff.mp e).1;have q:=List.all_eq_true.mp h j (List.mem_range.mpr hj);rw[e]at q;dsimp only at q
 cases hn:N[j]? with
 |none=>rw[hn]at q;cases q
 |some x=>
  rw[hn]at q;dsimp only at q;obtain⟨q1,q2⟩:=Bool.and_eq_true_iff.mp q;have q1:XN[i]?=some x:=by simpa using q1
  have q2:names.lookup x=some MR.free:=by
   cases hl:names.lookup x with
   |none=>rw[hl]at q2;cases q2
   |some k=>rw[hl]at q2;cases k<;>first|rfl|cases q2
  exact⟨x,rfl,q1,q2,mem_of_lookup q2⟩
def aP(p:MB)(H H':Hp):Prop:=∀b o,b≠p->H b=some o->H' b=some o
theorem aP.refl (p:MB)(H:Hp):aP p H H:=fun _ _ _ h=>h
theorem aP.trans {p:MB}{H H1 H2:Hp}(a:aP p H H1)(b:aP p H1 H2):aP p H H2:=fun c o n h=>b c o n (a c o n h)
theorem ah.x {p:MB}{H H':Hp}(a:ah H H'):aP p H H':=fun c o _ h=>a c o h
theorem aP.upd {p:MB}{H:Hp}{o:HO}:aP p H (upd H p o):=fun c o n h=>by rw[ao n];exact h
theorem ah.new {p:MB}{H:Hp}{o:HO}(h:H p=none):ah H (upd H p o):=fun c o e=>by rw[ao (aq e h)];exact e
theorem aP.new {p q:MB}{H:Hp}{o:HO}(h:H q=none):aP p H (L2.upd H q o):=(ah.new h).x
def Ff(XS:List (Str×MR))(XN:List Str)(names:List (Str×MR))(N:List Str)(ix:List (Option Nat)):Bool:=
 names.all (fun y=>match y.2 with
  | .cell=>false
  | .local=>(match names.lookup y.1 with|some .local=>true|_=>false)
  | .free=>(match XS.lookup y.1 with|some .cell=>true|some .free=>true|_=>false)
  |_=>true)&&decide (ix.length=N.length)&&Iz XN N ix names
theorem aW{X:Cx}{scope:Scope}{N:List Str}{ix:List (Option Nat)}(hk:scope.kind= .function)(h:Ff X.env.scope.names X.N scope.names N ix=true):eF X scope N ix:=by
 unfold Ff at h;obtain⟨h,h3⟩:=Bool.and_eq_true_iff.mp h;obtain⟨h1,h2⟩:=Bool.and_eq_true_iff.mp h;have all:∀y∈scope.names,_:=fun y hy=>List.all_eq_true.mp h1 y hy;refine⟨hk,fun y hy e=>?_,of_decide_eq_true h2,fun y hy e=>?_,fun y hy e=>?_,Hr h3⟩
 .have q:=all y hy
  rw[e]at q;cases q
 .have q:=all y hy
  rw[e]at q;dsimp only at q
  cases hl:scope.names.lookup y.1 with
  |none=>rw[hl]at q;cases q
  |some k=>rw[hl]at q;cases k<;>first|rfl|cases q
 .have q:=all y hy
  rw[e]at q;dsimp only at q;show X.env.scope.names.lookup y.1=_\/X.env.scope.names.lookup y.1=_
  cases hl:X.env.scope.names.lookup y.1 with
  |none=>rw[hl]at q;cases q
  |some k=>rw[hl]at q;cases k<;>first|exact .inl rfl|exact .inr rfl|cases q
section
variable{X:Cx}{K:W.Frag}
theorem gu(h:X.K=K):bX X (.builtin "isinstance") (Jf K):=by subst h;exact B5
theorem ax(h:X.K=K):Hz X (EF K):=by subst h;exact Dv
theorem jR(h:X.K=K):Hz X (JF K):=by subst h;exact FR
theorem aN(h:X.K=K):bX X (.builtin "len") (fun xs H Q=>∃p ys,xs=[.ref p]/\(aG K H p ys\/dH K H p ys)/\Q (.int ys.length) H):=by subst h;exact sQ
theorem mJ(h:X.K=K)(hc:X.calm=true):bX X (.builtin "all") (Il K):=by subst h;exact Bv hc
theorem wC(h:X.K=K):j0 X (compareOp .In) (JV K false):=by subst h;exact zu
theorem zF(h:X.K=K):j0 X (compareOp .NotIn) (JV K true):=by subst h;exact tI
theorem aU{tg l:Expr}{tl:TE}(h:X.K=K)(hl:PE X l tl):PI X tg l (Fv K tl):=by subst h;exact ED hl
theorem yk{tg l:Expr}{tl:TE}(h:X.K=K)(hl:PE X l tl):PI X tg l (Iv K tl):=by subst h;exact Gx hl
theorem eG{es:List Expr}{k:Nat}{t:Fh}{n:Nat}{pos:Pos}(hk:X.K=K)(hc:X.calm=true)(h:Jz X es t)
  (hn:(assignEach es X.env).length=n:=by rfl) (hst:(assignEach es X.env).findIdx? (·.1)=none:=by rfl):PG X (.Tuple es k pos) (C7 K n t):=by subst hk;exact F5 hc h hn hst
end
end L2
namespace Sw
open PySem L2
inductive cP(H:Hp):List V->List (Int×Int)->Prop
 |nil:cP H [] []
 |cons {t:MB} {a b:Int} {vs:List V} {r:List (Int×Int)}:H t=some (.tup [.int a,.int b])->cP H vs r->cP H (.ref t::vs) ((a,b)::r)
theorem cP.length {H:Hp}:∀{vs:List V}{r:List (Int×Int)},cP H vs r->vs.length=r.length
 |_,_,.nil=>rfl
 |_,_,.cons _ x=>by rw[L8,L8,x.length]
theorem cP.keep {H H':Hp}(k:∀b xs,H b=some (.tup xs)->H' b=some (.tup xs)):∀{vs:List V}{r:List (Int×Int)},cP H vs r->cP H' vs r
 |_,_,.nil=> .nil
 |_,_,.cons h x=> .cons (k _ _ h) (x.keep k)
theorem cP.append {H:Hp}:∀{vs ws:List V}{r q:List (Int×Int)},cP H vs r->cP H ws q->cP H (vs++ws) (r++q)
 |_,_,_,_,.nil,y=>y
 |_,_,_,_,.cons h x,y=> .cons h (x.append y)
theorem cP.snoc {H:Hp}{vs:List V}{r:List (Int×Int)}{t:MB}{a b:Int}(x:cP H vs r)(h:H t=some (.tup [.int a,.int b])):cP H (vs++[.ref t]) (r++[(a,b)]):=x.append (.cons h .nil)
theorem cP.reverse {H:Hp}:∀{vs:List V}{r:List (Int×Int)},cP H vs r->cP H vs.reverse r.reverse
 |_,_,.nil=> .nil
 |_,_,.cons h x=>by rw[List.reverse_cons,List.reverse_cons];exact x.reverse.snoc h
theorem cP.get {H:Hp}:∀{vs:List V}{r:List (Int×Int)}{i:Nat}{x:V},cP H vs r->vs[i]?=some x->∃t a b,x= .ref t/\H t=some (.tup [.int a,.int b])/\r[i]?=some (a,b)
 |_,_,_,_,.nil,e=>by simp at e
 |_,_,0,_,.cons h x,e=>by simp at e;subst e;exact⟨_,_,_,rfl,h,rfl⟩
 |_,_,i+1,_,.cons h x,e=>by
  obtain⟨t,a,b,e1,e2,e3⟩:=x.get (i:=i) (by simpa using e);exact⟨t,a,b,e1,e2,by simpa using e3⟩
theorem cP.dat {K:W.Frag}{H:Hp}:∀{vs:List V}{r:List (Int×Int)},cP H vs r->DatAll K H (fun _=>True) vs (r.map fun p=> .tuple [.int p.1,.int p.2])
 |_,_,.nil=> .nil
 |_,_,.cons h x=> .cons (.tup (dH.of h) True.intro (.cons (.int _) (.cons (.int _) .nil))) x.dat
theorem ah.bI {H H':Hp}(s:ah H H'):∀b xs,H b=some (.tup xs)->H' b=some (.tup xs):=fun b xs e=>s b _ e
theorem aP.bI {p:MB}{H H':Hp}{ys:List V}(s:aP p H H')(hp:H p=some (.lst ys)):∀b xs,H b=some (.tup xs)->H' b=some (.tup xs):=fun b xs e=>s b _ (uq e hp (by intro z;cases z)) e
theorem lI:∀(r:List (Int×Int)),PyData.canLayAll0 (r.map fun p=>PyData.tuple [.int p.1,.int p.2])=true
 |[]=>rfl
 |p::r=>by rw[L9];unfold PyData.canLayAll0;rw[lI r];rfl
theorem jJ:∀(r:List (Int×Int)),PyData.depthAll (r.map fun p=>PyData.tuple [.int p.1,.int p.2])<=1
 |[]=>by simp[PyData.depthAll]
 |p::r=>by
  rw[L9];unfold PyData.depthAll;have:=jJ r;simp[PyData.depth,PyData.depthAll];lia
theorem yv:∀(r q:List (Int×Int)),PyData.eqvAll (r.map fun p=>PyData.tuple [.int p.1,.int p.2]) (q.map fun p=>PyData.tuple [.int p.1,.int p.2])=decide (r=q)
 |[],[]=>by simp[PyData.eqvAll]
 |[],m::r=>by simp[PyData.eqvAll]
 |n::r,[]=>by simp[PyData.eqvAll]
 |(a,b)::r,(c,d)::q=>by
  rw[L9,L9];unfold PyData.eqvAll;rw[yv r q];simp[PyData.eqv,PyData.eqvAll];by_cases h1:a=c<;>by_cases h2:b=d<;>by_cases h3:r=q<;>simp[h1,h2,h3]
theorem Lv{K:W.Frag}{H:Hp}{l m:MB}{vs ws:List V}{r q:List (Int×Int)}{Q:VK}(h1:H l=some (.lst vs))(x1:cP H vs r)(h2:H m=some (.lst ws))(x2:cP H ws q)(hq:Q (.bl (!decide (r=q))) H):K2 K (.ref l) (.ref m) H Q:=by
 refine⟨fun _=>True,.list (r.map fun p=>PyData.tuple [.int p.1,.int p.2]),.list (q.map fun p=>PyData.tuple [.int p.1,.int p.2]),.lst (aG.of h1) True.intro x1.dat,.lst (aG.of h2) True.intro x2.dat,?_,?_,?_,?_⟩
 .unfold PyData.canLay0;exact lI r
 .unfold PyData.canLay0;exact lI q
 .unfold PyData.depth;have:=jJ r;lia
 .have e:PyData.eqv (.list (r.map fun p=>PyData.tuple [.int p.1,.int p.2])) (.list (q.map fun p=>PyData.tuple [.int p.1,.int p.2]))=decide (r=q):=by unfold PyData.eqv;exact yv r q
  rw[e];exact hq
def bw(x:Int)(e:Int×Int):Int:=if x=e.1 then e.2 else if x=e.2 then e.1 else x
def Good(n:Int)(row:List (Int×Int)):Prop:=∀e∈row,1<=e.1/\e.1<e.2/\e.2<=n
theorem Good.append {n:Int}{r q:List (Int×Int)}(a:Good n r)(b:Good n q):Good n (r++q):=fun e h=>(List.mem_append.mp h).elim (a e) (b e)
theorem sJ{n x:Int}{e:Int×Int}(h:1<=e.1/\e.1<e.2/\e.2<=n)(h1:1<=x)(h2:x<=n):1<=bw x e/\bw x e<=n:=by
 unfold bw;split
 .lia
 .split<;>lia
theorem nV(x:Int)(e:Int×Int):bw (bw x e) e=x:=by
 unfold bw;by_cases h1:x=e.1
 .rw[if_pos h1]
  by_cases h2:e.2=e.1
  .rw[if_pos h2];lia
  .rw[if_neg h2,if_pos rfl];exact h1.symm
 .rw[if_neg h1]
  by_cases h2:x=e.2
  .rw[if_pos h2,if_pos rfl];exact h2.symm
  .rw[if_neg h2,if_neg h1,if_neg h2]
theorem cI{lo hi x:Int}:x∈eB lo hi↔lo<=x/\x<hi:=by
 unfold eB;rw[List.mem_map];constructor
 .rintro⟨i,h,rfl⟩
  have:=List.mem_range.mp h;lia
 .intro h
  exact⟨(x-lo).toNat,List.mem_range.mpr (by lia),by lia⟩
theorem gJ{lo hi:Int}{i:Nat}(h:i<(hi-lo).toNat):(eB lo hi)[i]?=some (lo+i):=by
 unfold eB;rw[LX,List.getElem?_range h];rfl
end Sw
namespace L2
open PySem PySem.Spec PyProof.Rows
section
variable{X:Cx}{pins:List (MB×Obj)}{σ:St}{H:Hp}{s:MC}{h':MN}
theorem Inv.nX {t':Nat}{fp:List MB}(I:Inv X pins σ H s)(k:∀b o,b∉fp->s.heap.get? b=some o->h'.get? b=some o)(hf:∀b∈fp,ik X pins H b):Inv X pins σ H {s with heap:=h',toks:=t'}:=by
 have nit:∀b u,H b=some u->b∉fp:=fun b u e z=>by rw[(hf b z).1]at e;cases e
 refine I.step (g':=s.gens) (d':=s.drawn) (ch:=fp) (fun b hb=>?_) (fun b o _ _ hc e _=>k b o hc e) (fun b o _ _ hc e _=>⟨o.slots,k b o hc e⟩) (fun _ _ _ _ n=>n)
  (fun b o hc e=>⟨o,k b o hc e⟩) (fun _ _ e=>e) (fun _ _ _ e=>e) (fun b ps e=>⟨#[],by rw[e];simp⟩) (fun m hm=>?_) (fun b u e=>?_) I.bare
 .obtain⟨f0,f1,f2,f3,f4,f5⟩:=hf b hb
  exact⟨f3,f1,f4,f5⟩
 .obtain⟨o,es,ep,ho,r⟩:=hm
  exact⟨o,es,ep,k _ o (fun z=>(hf _ z).2.1 rfl) ho,r⟩
 .refine(I.bc b u e).jq (fun c v hc q=>k c v ?_ q) (fun _ q=>q) fun _ _ q=>q
  rcases hc with z|z
  .rw[z];exact nit b u e
  .exact nit c _ z
theorem Inv.ze {T:MB}{o:HO}(I:Inv X pins σ H s)(hf:ik X pins H T)(new:bH X.prog X.w (upd H T o) s.heap T o):Inv X pins σ (upd H T o) s:=by
 obtain⟨f0,f1,f2,f3,f4,f5⟩:=hf;have:=I.step (h':=s.heap) (H':=upd H T o) (g':=s.gens) (d':=s.drawn) (t':=s.toks) (ch:=[T]) (fun b hb=>by
  have e:b=T:=by simpa using hb
  subst e;exact⟨f3,f1,f4,f5⟩) (fun b o _ _ _ e _=>e) (fun b o _ _ _ e _=>⟨o.slots,e⟩) (fun b o hc _ n=>by rw[ao (fun z=>hc (by simp[z]))];exact n)
  (fun b o _ e=>⟨o,e⟩) (fun b xs e=>by rw[ao (aq e f0)];exact e) (fun b o u e=>by rw[ao (aq e f0)];exact e) (fun b ps e=>⟨#[],by rw[ao (aq e f0),e];simp⟩) (fun m hm=>hm) (fun b u e=>?_) I.bare
 .exact this
 .by_cases hb:b=T
  .subst hb
   rw[ae]at e;cases e;exact new
  .rw[ao hb]at e
   refine(I.bc b u e).jq (fun _ _ _ q=>q) (fun c q=>?_) fun c xs q=>?_
   .rw[ao (aq q f0)];exact q
   .rw[ao (aq q f0)];exact q
end
theorem iD{ix:List (Option Nat)}{g:TG}{tc:TT}{te:TE}{σ:St}{Q:VK}{J:It}{H:Hp}{n:Nat}(Pv:Nat->List V->St->Hp->Prop)(hn:n<=1000000)(h0:Pv 0 [] (dA ix σ) H)
  (hgo:∀i ys σ H,i<n->Pv i ys σ H->J.go i H) (hst:∀ys σ H,Pv n ys σ H->J.stop n H) (hlen:∀i ys σ H,Pv i ys σ H->ys.length<=i)
  (hs:∀i ys σ H x H2(R:St->List V->Hp->Prop),i<n->Pv i ys σ H->J.Aw i H x H2->(∀σ2 ys2 H5,Pv (i+1) ys2 σ2 H5->R σ2 ys2 H5)->
   g x σ H2 fun σ2 H3=>tc σ2 H3 fun b H4=>if b=true then te σ2 H4 fun v H5=>R σ2 (ys++[v]) H5 else R σ2 ys H4)
  (hd:∀ys σ' H' p,Pv n ys σ' H'->H' p=none->Q (.ref p) (upd H' p (.lst ys))):iW ix g tc te σ Q J H:=by
 have big:(1000000:Nat)<MG:=by decide
 refine⟨fun i m ys σ' H'=>m=n-i/\i<=n/\Pv i ys σ' H',⟨n,by simp,Mw _,h0⟩,?_⟩;rintro i m ys σ' H' ⟨rfl,hi,p⟩;have hl:=hlen i ys σ' H' p;by_cases hlt:i<n
 .refine .inr ⟨hgo i ys σ' H' hlt p,by lia,fun x H2 y=>?_⟩
  exact hs i ys σ' H' x H2 (fun σ2 ys2 H5=>∃m',m'<n-i/\(m'=n-(i+1)/\i+1<=n/\Pv (i+1) ys2 σ2 H5)) hlt p y fun σ2 ys2 H5 q=>⟨n-(i+1),by lia,rfl,hlt,q⟩
 .have e:i=n:=by lia
  subst e;exact .inl ⟨hst ys σ' H' p,by lia,fun q hq=>hd ys σ' H' q p hq⟩
theorem gI{K:W.Frag}{ix:List (Option Nat)}{te:TE}{σ:St}{Q:VK}{H:Hp}{a:MB}{xs:List V}{k:Nat}(Pv:Nat->List V->St->Hp->Prop)(hn:xs.length<=1000000)(h0:Pv 0 [] (dA ix σ) H)
  (hl:∀i ys σ H,i<=xs.length->Pv i ys σ H->aG K H a xs) (hlen:∀i ys σ H,Pv i ys σ H->ys.length<=i)
  (hs:∀i ys σ H x(R:St->List V->Hp->Prop),xs[i]?=some x->Pv i ys σ H->(∀σ2 ys2 H5,Pv (i+1) ys2 σ2 H5->R σ2 ys2 H5)->te (σ.set k (some x)) H fun v H5=>R (σ.set k (some x)) (ys++[v]) H5)
  (hd:∀ys σ' H' p,Pv xs.length ys σ' H'->H' p=none->Q (.ref p) (upd H' p (.lst ys))):iW ix (cu k) gZ te σ Q (Ay K a) H:=by
 refine iD Pv hn h0 (fun i ys σ H hi p=>⟨xs,xs[i],hl i ys σ H (Nat.le_of_lt hi) p,by simp[hi]⟩) (fun ys σ H p=>⟨xs,hl _ ys σ H (Ms _) p,Ms _⟩) hlen (fun i ys σ H x H2 R hi p y r=>?_) hd;obtain⟨rfl,y⟩:=y;unfold cu gZ;simp only[if_true];exact hs i ys σ _ x R (y xs (hl i ys σ _ (Nat.le_of_lt hi) p)) p r
theorem EZ{K:W.Frag}{ix:List (Option Nat)}{te:TE}{σ:St}{Q:VK}{H:Hp}{a:MB}{xs:List V}{k:Nat}(Pv:Nat->List V->St->Hp->Prop)(hn:xs.length<=1000000)(h0:Pv 0 [] (dA ix σ) H)
  (hl:∀i ys σ H,i<=xs.length->Pv i ys σ H->dH K H a xs) (hlen:∀i ys σ H,Pv i ys σ H->ys.length<=i)
  (hs:∀i ys σ H x(R:St->List V->Hp->Prop),xs[i]?=some x->Pv i ys σ H->(∀σ2 ys2 H5,Pv (i+1) ys2 σ2 H5->R σ2 ys2 H5)->te (σ.set k (some x)) H fun v H5=>R (σ.set k (some x)) (ys++[v]) H5)
  (hd:∀ys σ' H' p,Pv xs.length ys σ' H'->H' p=none->Q (.ref p) (upd H' p (.lst ys))):iW ix (cu k) gZ te σ Q (Kf K a) H:=by
 refine iD Pv hn h0 (fun i ys σ H hi p=>⟨xs,xs[i],hl i ys σ H (Nat.le_of_lt hi) p,by simp[hi]⟩) (fun ys σ H p=>⟨xs,hl _ ys σ H (Ms _) p,Ms _⟩) hlen (fun i ys σ H x H2 R hi p y r=>?_) hd;obtain⟨rfl,y⟩:=y;unfold cu gZ;simp only[if_true];exact hs i ys σ _ x R (y xs (hl i ys σ _ (Nat.le_of_lt hi) p)) p r
theorem pB{ix:List (Option Nat)}{te:TE}{σ:St}{Q:VK}{H:Hp}{lo:Int}{n:Nat}{k:Nat}(Pv:Nat->List V->St->Hp->Prop)(hn:n<=1000000)(h0:Pv 0 [] (dA ix σ) H)(hlen:∀i ys σ H,Pv i ys σ H->ys.length<=i)
  (hs:∀i ys σ H(R:St->List V->Hp->Prop),i<n->Pv i ys σ H->(∀σ2 ys2 H5,Pv (i+1) ys2 σ2 H5->R σ2 ys2 H5)->te (σ.set k (some (.int (lo+i)))) H fun v H5=>R (σ.set k (some (.int (lo+i)))) (ys++[v]) H5)
  (hd:∀ys σ' H' p,Pv n ys σ' H'->H' p=none->Q (.ref p) (upd H' p (.lst ys))):iW ix (cu k) gZ te σ Q (Fm lo n) H:=by
 refine iD Pv hn h0 (fun i ys σ H hi p=>hi) (fun ys σ H p=>Ms _) hlen (fun i ys σ H x H2 R hi p y r=>?_) hd;obtain⟨rfl,rfl⟩:=y;unfold cu gZ;simp only[if_true];exact hs i ys σ _ R hi p r
theorem sD{K:W.Frag}{ix:List (Option Nat)}{tc:TT}{te:TE}{σ:St}{Q:VK}{H:Hp}{a:MB}{xs:List V}{k:Nat}(Pv:Nat->List V->St->Hp->Prop)(hn:xs.length<=1000000)(h0:Pv 0 [] (dA ix σ) H)
  (hl:∀i ys σ H,i<=xs.length->Pv i ys σ H->aG K H a xs) (hlen:∀i ys σ H,Pv i ys σ H->ys.length<=i)
  (hs:∀i ys σ H x(R:St->List V->Hp->Prop),xs[i]?=some x->Pv i ys σ H->(∀σ2 ys2 H5,Pv (i+1) ys2 σ2 H5->R σ2 ys2 H5)->
   tc (σ.set k (some x)) H fun b H4=>if b=true then te (σ.set k (some x)) H4 fun v H5=>R (σ.set k (some x)) (ys++[v]) H5 else R (σ.set k (some x)) ys H4)
  (hd:∀ys σ' H' p,Pv xs.length ys σ' H'->H' p=none->Q (.ref p) (upd H' p (.lst ys))):iW ix (cu k) tc te σ Q (Ay K a) H:=by
 refine iD Pv hn h0 (fun i ys σ H hi p=>⟨xs,xs[i],hl i ys σ H (Nat.le_of_lt hi) p,by simp[hi]⟩) (fun ys σ H p=>⟨xs,hl _ ys σ H (Ms _) p,Ms _⟩) hlen (fun i ys σ H x H2 R hi p y r=>?_) hd;obtain⟨rfl,y⟩:=y;unfold cu;exact hs i ys σ _ x R (y xs (hl i ys σ _ (Nat.le_of_lt hi) p)) p r
section
variable{X:Cx}{K:W.Frag}{o e:Expr}{es:List Expr}{to:TE}{t:TA}{name:Str}{apos cpos:Pos}{T id:String}{r:V->List V->Hp->VK->Prop}
theorem yU(h:X.K=K)(pa:PlainAttrs T)(slot:Slot T name id)(hty:typeOf (.builtin id)=pure (.type "method_descriptor"))(hm:zW X id r)(ho:PE X o to)
  (hbase:attributeBase o name X.env (eval o X.env)=eval o X.env:=by rfl) (hline:(apos.endLine==cpos.line)=true:=by rfl):PE X (.Call (.Attribute o name apos) [] [] cpos) (Ig K T r to):=by
 subst h;exact FI pa slot hty hm ho hbase hline
theorem bD(h:X.K=K)(pa:PlainAttrs T)(slot:Slot T name id)(hty:typeOf (.builtin id)=pure (.type "method_descriptor"))(hm:zW X id r)(ho:PE X o to)(ha:PA X (e::es) t)
  (hbase:attributeBase o name X.env (eval o X.env)=eval o X.env:=by rfl)
  (hfew:((MO cpos (ML (e::es) X.env)).all (fun x=> !x.1)&&(backToKw cpos (keywordEach [] X.env)).all (fun x=>x.1.isSome)
   &&decide ((e::es).length+([]:List Keyword).length+(if([]:List Keyword).isEmpty then 0 else 1)<30))=true:=by rfl)
  (hline:(apos.endLine==cpos.line)=true:=by rfl) (hs:ML (e::es) X.env=(false,eval e X.env)::ML es X.env:=by rfl) (hplain:(MO cpos (ML es X.env)).any (·.1)=false:=by rfl):
  PE X (.Call (.Attribute o name apos) (e::es) [] cpos) (Lp K T r to t):=by
 subst h;exact JI pa slot hty hm ho ha hbase hfew hline hs hplain
theorem bR(h:X.K=K):J6 X (IP K):=by subst h;exact Ea
end
end L2
namespace Sw
open PySem L2
theorem gk(a b:Int):(eB a b).Nodup:=by
 unfold eB;refine List.Pairwise.map _ ?_ (List.nodup_range (n:=(b-a).toNat));intro x y h z;apply h;lia
def Ord(n:Int)(xs:List Int):Prop:=xs.Perm (eB 1 (n+1))
theorem Ord.length {n:Int}{xs:List Int}(o:Ord n xs):xs.length=n.toNat:=by
 rw[List.Perm.length_eq o,a8];congr 1;lia
theorem Ord.mem {n:Int}{xs:List Int}(o:Ord n xs){x:Int}:x∈xs↔1<=x/\x<=n:=by
 rw[List.Perm.mem_iff o,cI];lia
theorem Ord.nodup {n:Int}{xs:List Int}(o:Ord n xs):xs.Nodup:=(List.Perm.nodup_iff o).mpr (gk _ _)
theorem oj{α:Type}:∀{l:List α}{k:Nat}{y:α},l[k]?=some y->(y::l.eraseIdx k).Perm l
 |[],_,_,h=>by simp at h
 |a::l,0,y,h=>by simp at h;subst h;exact List.Perm.refl _
 |a::l,k+1,y,h=>by
  have q:=oj (l:=l) (k:=k) (y:=y) (by simpa using h);rw[List.eraseIdx_cons_succ];exact(List.Perm.swap a y _).trans (q.cons a)
theorem uJ{n:Int}{fs ls:List Int}{k:Nat}{y:Int}(o:Ord n (fs++ls))(h:ls[k]?=some y):Ord n ((fs++[y])++ls.eraseIdx k):=by
 unfold Ord at*;rw[Mp,List.singleton_append];exact((oj h).append_left fs).trans o
theorem swap_perm{n:Int}{ls:List Int}{i j:Nat}{x y:Int}(o:Ord n ls)(hi:ls[i]?=some x)(hj:ls[j]?=some y):Ord n ((ls.set i y).set j x):=by
 obtain⟨h1,rfl⟩:=List.getElem?_eq_some_iff.mp hi;obtain⟨h2,rfl⟩:=List.getElem?_eq_some_iff.mp hj;exact(List.set_set_perm h1 h2).trans o
def vf(xs:List Int)(x:Int):Int:=xs.getD ((xs.idxOf x+1)%xs.length) 0
theorem xS{xs:List Int}(nd:xs.Nodup){j:Nat}{x:Int}(h:xs[j]?=some x):vf xs x=xs.getD ((j+1)%xs.length) 0:=by
 obtain⟨h1,rfl⟩:=List.getElem?_eq_some_iff.mp h;unfold vf;rw[List.Nodup.idxOf_getElem nd]
theorem D9{xs:List Int}(nd:xs.Nodup):(xs.map (vf xs)).Perm xs:=by
 match xs,nd with
 |[],_=>exact List.Perm.refl _
 |y::t,nd=>
  have e:(y::t).map (vf (y::t))=t++[y]:=by
   apply List.ext_getElem?;intro j;rw[LX];by_cases hj:j<(y::t).length
   .have h:(y::t)[j]?=some (y::t)[j]:=LZ hj
    rw[h,Mz,xS nd h];by_cases h2:j+1<(y::t).length
    .rw[Nat.mod_eq_of_lt h2]
     have:j<t.length:=by simpa using h2
     rw[List.getElem?_append_left this];simp[Me,this]
    .have e2:j+1=(y::t).length:=by lia
     rw[e2,Nat.mod_self];have:j=t.length:=by simpa using e2
     subst this;simp
   .rw[List.getElem?_eq_none (by lia),List.getElem?_eq_none (by simp;simp at hj;lia)]
    rfl
  rw[e];exact List.perm_append_comm (l₁:=t) (l₂:=[y])
theorem EH{n:Int}{xs:List Int}(o:Ord n xs):Ord n ((eB 1 (n+1)).map (vf xs)):=
 ((List.Perm.map (vf xs) (List.Perm.symm o)).trans (D9 o.nodup)).trans o
theorem mF(n:Int):Ord n (eB 1 (n+1)):=List.Perm.refl _
theorem Hq{xs:List Int}{x:Int}(h:x∈xs):∃j,xs[j]?=some x/\j<xs.length:=by
 obtain⟨j,hj,e⟩:=List.mem_iff_getElem.mp h;exact⟨j,by rw[LZ hj,e],hj⟩
end Sw
namespace L2
open PySem PySem.Spec PyProof.Rows
section
variable{X:Cx}{K:W.Frag}
theorem ra:∀{ns:List Int}{us:List MA},Vals (ns.map V.int) us->∃xs:List (Int×Tok),us=xs.map (fun p=>MA.int p.1 p.2)/\xs.map (·.1)=ns
 |[],us,r=>by cases r;exact⟨[],rfl,rfl⟩
 |n::ns,us,r=>by
  cases r with
  |cons r1 r2=>
   obtain⟨t,rfl⟩:=r1;obtain⟨xs,rfl,e⟩:=ra r2;exact⟨(n,t)::xs,rfl,by rw[L9,e]⟩
def JE(K:W.Frag):List V->Hp->VK->Prop:=fun xs H Q=>∃(p:MB)(ns:List Int)(M:Int),xs=[.ref p]/\aG K H p (ns.map V.int)/\M∈ns/\(∀a∈ns,M<=a)/\Q (.int M) H
theorem Am(hc:X.calm=true)(hK:X.K=K):bX X (.builtin "min") (JE K):=by
 subst hK;intro pins s σ H xs us Q I r h;obtain⟨p,ns,M,rfl,hl,hM,hm,q⟩:=h;obtain⟨u,rfl,rx⟩:=vals1 r;cases rx;obtain⟨its,rv,pl,hz⟩:=I.list hl;obtain⟨xs,rfl,e⟩:=ra rv;have hpos:0<xs.length:=by
  rw[←LW (f:=(·.1)),e];exact List.length_pos_of_mem hM
 refine min_intList (l:=p) (xs:=xs.toArray) (I.ok.hd hc) ?_ (by simpa using hpos) fun v h' tk hv hk=>?_
 .have:=pl.isList
  unfold intItems;simpa using this
 .have num:∀i,numAt xs.toArray i=ns.getD i 0:=by
   intro i;unfold numAt;rw[List.getElem?_toArray,←e,Me,LX]
  obtain⟨b1,b2⟩:=argBest_lt (numAt xs.toArray) (xs.toArray.size-1);generalize argBest (fun i j=>decide (numAt xs.toArray i<numAt xs.toArray j)) (xs.toArray.size-1)=k at b1 b2 hv;have lk:k<xs.length:=by simp at b1;lia
  have hv':v=MA.int xs[k].1 xs[k].2:=by
   unfold intItems at hv;simp at hv;rw[LZ lk]at hv;obtain⟨a,b,h1,h2⟩:=hv;have h1:=My h1;rw[h1];exact h2.symm
  subst hv';have lx:xs.length=ns.length:=by rw[←e,LW]
  have ek:xs[k].1=ns[k]:=by
   have:(xs.map (·.1))[k]'(by rw[LW];exact lk)=ns[k]:=by simp only[e]
   simpa using this
  have eM:xs[k].1=M:=by
   rw[ek];refine Int.le_antisymm ?_ (hm _ (List.getElem_mem _));obtain⟨j,hj,ej⟩:=List.mem_iff_getElem.mp hM;have:=b2 j (by simp;lia);rw[num,num]at this;rw[←ej];rw[Me,LZ (by lia),Me,LZ hj]at this;exact this
  rw[eM];refine⟨.int M,H,?_,⟨_,rfl⟩,q⟩;exact(I.kept (t':=s.toks) (h':=h') fun b o e=>hk b o e).tok tk
def HU(lo:Int)(n:Nat):It:=⟨fun i _=>i<n,fun i H x H'=>H'=H/\x= .int (lo-i),fun i _=>n<=i⟩
theorem zh{P:MD}{w:ME}{K:W.Frag}{tg:Expr}(it:MB)(lo:Int)(n:Nat):Turn P w K tg (HU lo n) [it] it (fun i h=>IsRangeIter h it (lo+(i:Nat)*(-1)) ((n:Int)-(i:Nat)) (-1))where
 mem:=by simp
 obj:=fun i h st b hb=>by
  have e:b=it:=by simpa using hb
  subst e;exact⟨_,st,fun v z=>by
   have z':Data.fields _=Data.cell v:=z;cases z'⟩
 keep:=fun i h h' st k=>k it (by simp) _ st
 item:=by
  intro X hP hw hK hc i pins s σ H E I hf st hg;subst hP hw hK;obtain⟨f0,f1,f2,f3,f4,f5⟩:=hf it (by simp);have W:=Walks.range (prog:=X.prog) (w:=X.w) (I.ok.hd hc) it lo (-1) n;refine W.item i s _ _ hg st fun v h' tk hv st' kk=>?_;obtain⟨t,rfl⟩:=hv;have I1:Inv X pins σ H {s with heap:=h',toks:=tk}:=I.turned (fun b o hb e=>kk b o (by simpa using hb) e) f0 f1 f3 f4 f5;refine⟨_,rfl,rP (s:={s with heap:=h',toks:=tk}) (n:= "range_iterator") st' rfl rfl (by decide) ⟨.int (lo-i),H,I1,⟨t,?_⟩,⟨rfl,rfl⟩,st',fun b hb=>(hf b hb).1⟩⟩;have:lo+(i:Int)*(-1)=lo-i:=by lia
  rw[this]
 done:=by
  intro X hP hw hK hc i pins s σ H E I hf st hg;subst hP hw hK;obtain⟨f0,f1,f2,f3,f4,f5⟩:=hf it (by simp);exact wpAny_pyNext_range_end (I.ok.hd hc) st (by have:n<=i:=hg;lia) fun h' eb=>⟨rfl,I.turned (t':=s.toks) (fun b o hb e=>eb b o hb e) f0 f1 f3 f4 f5⟩
 self:=fun _ _ _ _ _ st h=>wpAny_pyIter_rangeiter st h
theorem small_down{a b:Int}(h1: -1000000<=a)(h2:a<=1000000)(h3: -1000000<=b)(h4:b<=1000000):MS.Range.small a b (-1)=true:=by
 have big:∀x:Int,-10000000<=x->x<=10000000->MS.Range.rangeFitsLong x=true:=by
  intro x hx hy;unfold MS.Range.rangeFitsLong;simp;lia
 unfold MS.Range.small;rw[W.rangeSize_down];rw[big a (by lia) (by lia),big b (by lia) (by lia),big (-1) (by lia) (by lia),big (if a>b then a-b else 0) (by split<;>lia) (by split<;>lia)];rw[if_neg (show¬((-1:Int)>0) by decide),big (b+(-1+1)) (by lia) (by lia)];simp
def Ir(ta:TA):TI:=fun σ H R=>ta σ H fun vs H1=>∃i j:Int,vs=[.int i,.int j,.int (-1)]/\(-1000000<=i/\i<=1000000/\-1000000<=j/\j<=1000000)/\R (HU i (i-j).toNat) H1
theorem C9{tg:Expr}{pins:List (MB×Obj)}{σ:St}{H:Hp}{s:MC}{R:It->Hp->Prop}{E:MA->MC->Prop}{lo hi:Int}{t u v:Tok}{tk:Nat}(I:Inv X pins σ H s)(h1: -1000000<=lo)(h2:lo<=1000000)(h3: -1000000<=hi)(h4:hi<=1000000)
  (q:R (HU lo (lo-hi).toNat) H):MP (model X.prog X.w) X.A (pyIter (.ref s.heap.objs.size)) (HQ X pins σ tg R) E {s with heap:=s.heap.push {cls:= .type "range",data:= .fields #[.int lo t,.int hi u,.int (-1) v]},toks:=tk}:=by
 refine wpAny_pyIter_range (IsRange.new ..) (small_down h1 h2 h3 h4) ?_;have I1:Inv X pins σ H {s with heap:=s.heap.push {cls:= .type "range",data:= .fields #[.int lo t,.int hi u,.int (-1) v]},toks:=tk}:=I.kept fun b o e=>MN.get?_push_of_some _ e;refine⟨(s.heap.push {cls:= .type "range",data:= .fields #[.int lo t,.int hi u,.int (-1) v]}).objs.size,[(s.heap.push {cls:= .type "range",data:= .fields #[.int lo t,.int hi u,.int (-1) v]}).objs.size],_,_,H,rfl,
  I1.kept (t':=tk) fun b o e=>MN.get?_push_of_some _ e,zh _ lo (lo-hi).toNat,?_,fun b hb=>?_,q⟩
 .have e1:lo+((0:Nat):Int)*(-1)=lo:=by simp
  have e2:(((lo-hi).toNat:Nat):Int)-((0:Nat):Int)=MS.Range.rangeSize lo hi (-1):=by rw[W.rangeSize_down];split<;>lia
  show IsRangeIter _ _ (lo+((0:Nat):Int)*(-1)) ((((lo-hi).toNat:Nat):Int)-((0:Nat):Int)) (-1);rw[e1,e2];exact MN.get?_push_size _ rfl
 .have e:b=(s.heap.push {cls:= .type "range",data:= .fields #[.int lo t,.int hi u,.int (-1) v]}).objs.size:=by simpa using hb
  subst e;exact I1.pZ (Ms _) (I1.bc.fresh (Ms _))
theorem rX{tg a b c:Expr}{ta:TA}{p pos:Pos}(hg:Gl X "range")(hm:X.mg "range" =none)(ha:PA X [a,b,c] ta)(hs:ML [a,b,c] X.env=[(false,eval a X.env),(false,eval b X.env),(false,eval c X.env)]:=by rfl)
  (hs2:ML [b,c] X.env=[(false,eval b X.env),(false,eval c X.env)]:=by rfl):PI X tg (.Call (.Name "range" p) [a,b,c] [] pos) (Ir ta):=by
 intro pins s σ H R I h;refine Call_ (jv I hg hm boot_range (PyProof.Rows.callWith_type1 (aV (ha pos pins s σ H _ I h) fun us s1 ⟨vs,H1,I1,r1,q1⟩=>?_) (by rw[hs,hs2]) (by rw[hs2];rfl)));obtain⟨i,j,e,⟨q1,q2,q3,q4⟩,q⟩:=q1;subst e
 cases r1 with
 |cons r rr=>
  cases rr with
  |cons r' rr=>
   cases rr with
   |cons r2 rr=>
    cases rr;obtain⟨t,rfl⟩:=r;obtain⟨t',rfl⟩:=r';obtain⟨t2,rfl⟩:=r2;refine call_range_3 (by decide) (C9 I1 q1 q2 q3 q4 q) (.inl ?_);exact PyProof.noPylong_small (by lia)
end
section
variable{X:Cx}{K:W.Frag}
theorem o9:∀{ns:List Int}{us:List MA},Vals (ns.map V.int) us->IntsAre us ns
 |[],us,r=>by cases r;exact .nil
 |n::ns,us,r=>by
  cases r with
  |cons r1 r2=>
   obtain⟨t,rfl⟩:=r1;exact .cons n t (o9 r2)
theorem vO:∀{us:List MA}{ns:List Int},IntsAre us ns->Vals (ns.map V.int) us
 |_,_,.nil=> .nil
 |_,_,.cons n t r=> .cons ⟨t,rfl⟩ (vO r)
def Ja(K:W.Frag):List V->Hp->VK->Prop:=fun xs H Q=>∃(p:MB)(ns:List Int),xs=[.ref p]/\aG K H p (ns.map V.int)/\ns.length<64/\∀(l:MB)(ns':List Int),H l=none->ns'.Perm ns->ns'.Pairwise (·<=·)->Q (.ref l) (upd H l (.lst (ns'.map V.int)))
theorem vU(hK:X.K=K):bX X (.builtin "sorted") (Ja K):=by
 subst hK;intro pins s σ H xs us Q I r h;obtain⟨p,ns,rfl,hl,hz,q⟩:=h;obtain⟨u,rfl,rx⟩:=vals1 r;cases rx;obtain⟨its,rv,pl,_⟩:=I.list hl;have len:=rv.length;rw[LW]at len;refine sorted_ints pl.isList (o9 rv) (by lia) fun out ns' ia pm pw=>?_;obtain⟨e,he⟩:=sortedAll_at s.heap its out;have lp:=pm.length_eq;have big:(64:Nat)<=MG:=by decide
 refine⟨.ref (s.heap.objs.size+1),_,I.laid (o:= .lst (ns'.map V.int)) (fun b u e=>sortedAll_old e) (Nat.le_succ _) ⟨by rw[LW];lia,out.toList,e,vO ia,by simpa using he⟩,rfl,q _ ns' (I.bc.fresh (Nat.le_succ _)) pm pw⟩
end
def AU(K:W.Frag)(a:MB)(xs:List V):It:=
 ⟨fun i H=>i<xs.length/\aG K H a xs,fun i H x H'=>∃t v,H t=none/\x= .ref t/\xs[i]?=some v/\H'=upd H t (.tup [.int (i:Int),v]),fun i H=>i=xs.length/\aG K H a xs⟩
theorem wJ{P:MD}{w:ME}{K:W.Frag}{elts:List Expr}{k:Nat}{pos:Pos}(a e it:MB)(xs:List V)(hei:e≠it)(hae:a≠e)(hai:a≠it):
  Turn P w K (.Tuple elts k pos) (AU K a xs) [e,it] e (fun i h=>(∃old,IsEnum h e it (i:Int) old)/\h.IsListIter it a i)where
 mem:=by simp
 obj:=fun i h st b hb=>by
  obtain⟨⟨old,he⟩,⟨o,e2,c,d⟩⟩:=st;rcases List.mem_cons.mp hb with z|z
  .subst z
   exact⟨_,he,fun v z=>by cases z⟩
  .have z:b=it:=by simpa using z
   subst z;exact⟨o,e2,fun v z=>by rw[d]at z;cases z⟩
 keep:=fun i h h' st kk=>⟨by obtain⟨⟨old,he⟩,_⟩:=st;exact⟨old,kk e (by simp) _ he⟩,st.2.at fun o q=>kk it (by simp) o q⟩
 item:=by
  intro X hP hw hK hc i pins s σ H E I hf st hg;subst hP hw hK;obtain⟨hi,hq⟩:=hg;obtain⟨its,rv,ht,hz⟩:=I.list hq;have hl:=rv.length;obtain⟨⟨old,he⟩,hit⟩:=st;have W:=WalksT.enumerate (prog:=X.prog) (w:=X.w) (A:=X.A) (I.ok.hd hc) e it a hei hae hai its.toArray;refine W.item i s _ _ (by simp;lia) ⟨⟨old,he⟩,hit,ht.isList⟩ fun T vals h' tk hPt hsz hT hMid hk=>?_;obtain⟨t,x,hx,rfl⟩:=hPt;obtain⟨v,hv,rvx⟩:∃v,xs[i]?=some v/\RelV v x:=by
   rw[LZ hi];obtain⟨u,hu,ru⟩:=rv.get (LZ hi);have:its[i]?=some x:=by simpa using hx
   rw[this]at hu;cases hu;exact⟨_,rfl,ru⟩
  refine⟨.ref T,rfl,W.go elts k pos i T _ _ _ hMid fun h'' hSt hk''=>?_⟩;have hTe:=hMid.2.2.2.1;have hTi:=hMid.2.2.2.2;have I1:Inv X pins σ H {s with heap:=h'',toks:=tk}:=I.nX (fp:=[e,it]) (fun b o hb q=>hk'' b o hb (hk b o hb q)) hf;have fT:ik X pins H T:=I.pZ hsz (I.bc.fresh hsz);have hT':IsTup h'' T #[.int (i:Int) t,x]:=by
   obtain⟨o,e1,e2,e3⟩:=hT;exact⟨o,hk'' T o (by simp;exact⟨hTe,hTi⟩) e1,e2,e3⟩
  obtain⟨⟨old',he'⟩,hit2,_⟩:=hSt;refine⟨.ref T,upd H T (.tup [.int (i:Int),v]),I1.ze fT ⟨(by show 2<=MG;decide),[.int (i:Int) t,x],.cons ⟨t,rfl⟩ (.cons rvx .nil),hT'⟩,rfl,⟨T,v,fT.1,rfl,hv,rfl⟩,⟨⟨old',he'⟩,hit2⟩,fun b hb=>?_⟩;have hbT:b≠T:=by
   rcases List.mem_cons.mp hb with z|z
   .rw[z];exact hTe.symm
   .have z:b=it:=by simpa using z
    rw[z];exact hTi.symm
  rw[ao hbT];exact(hf b hb).1
 done:=by
  intro X hP hw hK hc i pins s σ H E I hf st hg;subst hP hw hK;obtain⟨hi,hq⟩:=hg;obtain⟨its,rv,ht,hz⟩:=I.list hq;have hl:=rv.length;obtain⟨⟨old,he⟩,hit⟩:=st;have W:=WalksT.enumerate (prog:=X.prog) (w:=X.w) (A:=X.A) (I.ok.hd hc) e it a hei hae hai its.toArray;have en:i=its.toArray.size:=by simp;lia
  refine W.done s _ _ (by rw[←en];exact⟨⟨old,he⟩,hit,ht.isList⟩) fun h' tk hk=>⟨rfl,I.nX (fp:=[e,it]) (fun b o hb q=>hk b o hb q) hf⟩
 self:=fun A i s Q E st hQ=>by
  obtain⟨⟨old,he⟩,_⟩:=st;exact wpAny_pyIter_enum he hQ
def Hs(K:W.Frag)(ta:TA):TI:=fun σ H R=>ta σ H fun vs H1=>∃(a:MB)(xs:List V),vs=[.ref a]/\aG K H1 a xs/\R (AU K a xs) H1
theorem Cy{X:Cx}{K:W.Frag}{e:Expr}{ta:TA}{p pos:Pos}{kk:Nat}{elts:List Expr}{tp:Pos}(hK:X.K=K)(hg:Gl X "enumerate")(hm:X.mg "enumerate" =none)(ha:PA X [e] ta)
  (hs:ML [e] X.env=[(false,eval e X.env)]:=by rfl):
  PI X (.Tuple elts kk tp) (.Call (.Name "enumerate" p) [e] [] pos) (Hs K ta):=by
 subst hK;intro pins s σ H R I h;refine Call_ (jv I hg hm (by decide+kernel:bootBuiltins "enumerate" =some (.type "enumerate")) (PyProof.Rows.callWith_type1 (aV (ha pos pins s σ H _ I h) fun us s2 ⟨vs,H2,I2,r1,a,xs,e1,hq,hR⟩=>?_) hs rfl) (by decide+kernel) (by decide+kernel));subst e1;obtain⟨u,rfl,ru⟩:=vals1 r1;cases ru;obtain⟨its,rv,pl,hz⟩:=I2.list hq;refine call_enumerate_list pl.isList fun h' e0 it0 sz k0=>?_;have lta: @LT.lt Nat _ a s2.heap.objs.size:=by obtain⟨o,n,e,_⟩:=pl;exact MN.lt_size e
 refine wpAny_pyIter_enum e0 ?_;refine⟨s2.heap.objs.size+1,[s2.heap.objs.size+1,s2.heap.objs.size],_,_,H2,rfl,I2.kept (t':=s2.toks) k0,wJ a (s2.heap.objs.size+1) s2.heap.objs.size xs (Nat.succ_ne_self _) (Mu (Nat.lt_succ_of_lt lta)) (Mu lta),⟨⟨.none,e0⟩,it0⟩,fun b hb=>?_,hR⟩;rcases List.mem_cons.mp hb with z|z
 .rw[z];exact I2.pZ (Nat.le_succ _) (I2.bc.fresh (Nat.le_succ _))
 .have z:b=s2.heap.objs.size:=by simpa using z
  rw[z];exact I2.pZ (Ms _) (I2.bc.fresh (Ms _))
def fP(T C:String):Option Bool:=if(MA.type T==MA.type C)=true then some true else if W.kitMeta C=true then(fastBuiltinMro T).map (·.contains (MA.type C))else none
theorem aT(K:W.Frag){T C:String}{b:Bool}(h:fP T C=some b):W.kitOne K (.type T) (.type C)=some b:=h
theorem tD(K:W.Frag):W.kitOne K (.type "int") (.type "bool")=some false:=aT K (by decide+kernel)
theorem uK{lo:Int}{n:Nat}{g:TG}{tb:TS}{D:Ends}{σ:St}{H:Hp}(Pv:Nat->St->Hp->Prop)(h0:Pv 0 σ H)
  (hs:∀i σ H,i<n->Pv i σ H->g (.int (lo-i)) σ H fun σ2 H2=>tb {D with nx:=Pv (i+1),ct:=Pv (i+1),bk:=D.nx} σ2 H2) (hd:∀σ H,Pv n σ H->D.nx σ H):
  ∃W:Nat->Nat->St->Hp->Prop,(∃m,W 0 m σ H)/\∀i m σ H,W i m σ H->
   ((HU lo n).stop i H/\D.nx σ H)\/((HU lo n).go i H/\∃N:St->Hp->Prop,(∀σ' H',N σ' H'->∃m',m'<m/\W (i+1) m' σ' H')/\∀x H',(HU lo n).Aw i H x H'->g x σ H' fun σ2 H2=>tb {D with nx:=N,ct:=N,bk:=D.nx} σ2 H2):=by
 refine⟨fun i m σ H=>m=n-i/\i<=n/\Pv i σ H,⟨n,by simp,Mw _,h0⟩,?_⟩;rintro i m σ H ⟨rfl,hi,p⟩;by_cases hlt:i<n
 .refine .inr ⟨hlt,Pv (i+1),fun σ' H' p'=>⟨n-(i+1),by lia,rfl,hlt,p'⟩,fun x H' y=>?_⟩
  obtain⟨e,y⟩:=y;subst e y;exact hs i σ _ hlt p
 .have e:i=n:=by lia
  subst e;exact .inl ⟨Ms _,hd σ H p⟩
end L2
namespace Sw
open PySem L2
def ld(xs:List Int)(x:Int):Int:=xs.getD (x-1).toNat 0
def cJ(f:Int->Int):Nat->Int->Int
 |0,x=>x
 |k+1,x=>f (cJ f k x)
theorem lG(f:Int->Int)(j:Nat)(x:Int):∀k,cJ f (k+j) x=cJ f k (cJ f j x)
 |0=>by rw[Nat.zero_add];rfl
 |k+1=>by rw[Nat.succ_add];show f _=f _;rw[lG f j x k]
theorem iz{n:Int}{xs:List Int}(o:Ord n xs){x:Int}(h1:1<=x)(h2:x<=n):xs[(x-1).toNat]?=some (ld xs x):=by
 have:=o.length;unfold ld;rw[Me,LZ (by lia)];rfl
theorem FC{n:Int}{xs:List Int}(o:Ord n xs){x:Int}(h1:1<=x)(h2:x<=n):1<=ld xs x/\ld xs x<=n:=o.mem.mp (Mf (iz o h1 h2))
theorem wK{n:Int}{xs:List Int}(o:Ord n xs){x y:Int}(h1:1<=x)(h2:x<=n)(h3:1<=y)(h4:y<=n)(e:ld xs x=ld xs y):x=y:=by
 have a:=iz o h1 h2;have b:=iz o h3 h4;rw[e]at a;obtain⟨p,pa⟩:=List.getElem?_eq_some_iff.mp a;obtain⟨q,qa⟩:=List.getElem?_eq_some_iff.mp b;have:=(List.getElem_inj (i:=(x-1).toNat) (j:=(y-1).toNat) (h₀:=p) (h₁:=q) o.nodup).mp (pa.trans qa.symm);lia
theorem cY{n:Int}{xs:List Int}(o:Ord n xs){x:Int}(h1:1<=x)(h2:x<=n):∀k,1<=cJ (ld xs) k x/\cJ (ld xs) k x<=n
 |0=>⟨h1,h2⟩
 |k+1=>FC o (cY o h1 h2 k).1 (cY o h1 h2 k).2
theorem sL{n:Int}{xs:List Int}(o:Ord n xs){x y:Int}(h1:1<=x)(h2:x<=n)(h3:1<=y)(h4:y<=n):∀k,cJ (ld xs) k x=cJ (ld xs) k y->x=y
 |0,e=>e
 |k+1,e=>sL o h1 h2 h3 h4 k (wK o (cY o h1 h2 k).1 (cY o h1 h2 k).2 (cY o h3 h4 k).1 (cY o h3 h4 k).2 e)
theorem Bo{n:Int}{xs:List Int}(o:Ord n xs){x:Int}(h1:1<=x)(h2:x<=n):∃k,k<n.toNat/\cJ (ld xs) (k+1) x=x:=by
 apply Classical.byContradiction;intro no;have hne:∀i j,i<j->j<=n.toNat->cJ (ld xs) i x≠cJ (ld xs) j x:=by
  intro i j hij hj e;apply no;refine⟨j-i-1,by lia,?_⟩;have e2:cJ (ld xs) (i+(j-i)) x=cJ (ld xs) i (cJ (ld xs) (j-i) x):=lG _ _ _ _;rw[show i+(j-i)=j by lia,←e]at e2;have q:=cY o h1 h2 (j-i);have:=sL o h1 h2 q.1 q.2 i e2;rw[show j-i-1+1=j-i by lia];exact this.symm
 have nd:((List.range (n.toNat+1)).map (fun k=>cJ (ld xs) k x)).Nodup:=by
  rw[List.Nodup,List.pairwise_iff_getElem];intro i j hi hj hij;simp only[List.getElem_map,List.getElem_range];simp at hj;exact hne i j hij (by lia)
 have le:=List.Nodup.length_le_of_subset nd (l₂:=eB 1 (n+1)) (by
  intro y hy;obtain⟨k,_,rfl⟩:=List.mem_map.mp hy;have:=cY o h1 h2 k;exact cI.mpr (by lia))
 rw[LW,List.length_range,a8]at le;lia
def gC(xs:List Int)(x:Int):Nat:=(List.range xs.length).findIdx (fun k=>cJ (ld xs) (k+1) x==x)+1
def gX(xs:List Int)(x:Int):List Int:=(List.range (gC xs x)).map fun k=>cJ (ld xs) k x
theorem xa{n:Int}{xs:List Int}(o:Ord n xs){x:Int}(h1:1<=x)(h2:x<=n):gC xs x<=n.toNat:=by
 obtain⟨k,hk,e⟩:=Bo o h1 h2;have:=List.findIdx_lt_length_of_exists (xs:=List.range xs.length) (p:=fun k=>cJ (ld xs) (k+1) x==x) ⟨k,List.mem_range.mpr (by rw[o.length];exact hk),by simpa using e⟩;rw[List.length_range,o.length]at this;unfold gC;rw[o.length];lia
theorem n6{n:Int}{xs:List Int}(o:Ord n xs){x:Int}(h1:1<=x)(h2:x<=n):cJ (ld xs) (gC xs x) x=x:=by
 obtain⟨k,hk,e⟩:=Bo o h1 h2;have lt:=List.findIdx_lt_length_of_exists (xs:=List.range xs.length) (p:=fun k=>cJ (ld xs) (k+1) x==x) ⟨k,List.mem_range.mpr (by rw[o.length];exact hk),by simpa using e⟩;have:=List.findIdx_getElem (xs:=List.range xs.length) (p:=fun k=>cJ (ld xs) (k+1) x==x) (w:=lt);rw[List.getElem_range]at this;unfold gC;simpa using this
theorem xq{xs:List Int}{x:Int}{j:Nat}(h0:0<j)(h:j<gC xs x):cJ (ld xs) j x≠x:=by
 unfold gC at h;have lt:j-1<(List.range xs.length).findIdx (fun k=>cJ (ld xs) (k+1) x==x):=by lia
 have:=List.not_of_lt_findIdx lt;rw[List.getElem_range]at this;rw[show j-1+1=j by lia]at this;simpa using this
theorem yY{n:Int}{xs:List Int}(o:Ord n xs){x:Int}(h1:1<=x)(h2:x<=n)(k:Nat):∃j,j<gC xs x/\cJ (ld xs) k x=cJ (ld xs) j x:=by
 induction k with
 |zero=>exact⟨0,by unfold gC;lia,rfl⟩
 |succ k ih=>
  obtain⟨j,hj,e⟩:=ih;by_cases h:j+1<gC xs x
  .exact⟨j+1,h,by show ld xs _=ld xs _;rw[e]⟩
  .refine⟨0,by unfold gC;lia,?_⟩
   show ld xs _=x;rw[e];have:j+1=gC xs x:=by lia
   have q:=n6 o h1 h2;rw[←this]at q;exact q
theorem gG{n:Int}{xs:List Int}(o:Ord n xs){x:Int}(h1:1<=x)(h2:x<=n){y:Int}:y∈gX xs x↔∃k,cJ (ld xs) k x=y:=by
 unfold gX;rw[List.mem_map];constructor
 .rintro⟨k,_,e⟩
  exact⟨k,e⟩
 .rintro⟨k,e⟩
  obtain⟨j,hj,e2⟩:=yY o h1 h2 k;exact⟨j,List.mem_range.mpr hj,e2.symm.trans e⟩
def least(xs:List Int)(x:Int):Bool:=(gX xs x).all fun y=>decide (x<=y)
theorem hU{n:Int}{xs:List Int}(o:Ord n xs){x:Int}(h1:1<=x)(h2:x<=n):least xs x=true↔∀k,x<=cJ (ld xs) k x:=by
 unfold least;rw[List.all_eq_true];constructor
 .intro h k
  exact of_decide_eq_true (h _ ((gG o h1 h2).mpr ⟨k,rfl⟩))
 .intro h y hy
  obtain⟨k,rfl⟩:=(gG o h1 h2).mp hy;exact decide_eq_true (h k)
def aX(n:Int)(xs:List Int):List (List Int):=((eB 1 (n+1)).filter (least xs)).map (gX xs)
theorem kL{n:Int}{xs:List Int}(o:Ord n xs){e:Int×Int}(h:1<=e.1/\e.1<e.2/\e.2<=n):Ord n (xs.map (bw · e)):=by
 have nd:(xs.map (bw · e)).Nodup:=by
  refine List.Pairwise.map _ ?_ o.nodup;intro a b ne z;apply ne;have:=congrArg (bw · e) z;simpa [nV]using this
 refine(List.perm_ext_iff_of_nodup nd (gk _ _)).mpr fun y=>?_;rw[cI,List.mem_map];constructor
 .rintro⟨x,hx,rfl⟩
  have hx:=o.mem.mp hx;have:=sJ h hx.1 hx.2;lia
 .rintro⟨a,b⟩
  have:=sJ h a (by lia);exact⟨bw y e,o.mem.mpr this,nV _ _⟩
theorem Bu{n:Int}{xs:List Int}(o:Ord n xs)(f:Int->Int){x:Int}(h1:1<=x)(h2:x<=n):ld (xs.map f) x=f (ld xs x):=by
 have g:=iz o h1 h2;show(xs.map f).getD _ 0=_;rw[Me,LX,g];rfl
theorem yx{n:Int}{xs ys:List Int}(a:xs.length=n.toNat)(b:ys.length=n.toNat)(h:∀x,1<=x->x<=n->ld xs x=ld ys x):xs=ys:=by
 apply List.ext_getElem
 .rw[a,b]
 intro i h1 h2;have:=h (1+i) (by lia) (by lia);unfold ld at this;rw[show(1+(i:Int)-1).toNat=i by lia,Me,Me,LZ h1,LZ h2]at this;exact this
def fG:Nat->List Int->List (Int×Int)
 |0,_=>[]
 |m+1,xs=>if ld xs ((m:Int)+1)=(m:Int)+1 then fG m xs else fG m (xs.map (bw · (ld xs ((m:Int)+1),(m:Int)+1)))++[(ld xs ((m:Int)+1),(m:Int)+1)]
def Fix(n:Int)(m:Nat)(xs:List Int):Prop:=∀x,(m:Int)<x->x<=n->ld xs x=x
theorem iH{n:Int}{xs:List Int}{m:Nat}(o:Ord n xs)(f:Fix n (m+1) xs)(hm:(m:Int)+1<=n)(ne:ld xs ((m:Int)+1)≠(m:Int)+1):1<=ld xs ((m:Int)+1)/\ld xs ((m:Int)+1)<(m:Int)+1:=by
 have r:=FC o (x:=(m:Int)+1) (by lia) hm;refine⟨r.1,?_⟩;apply Classical.byContradiction;intro h;have e:=f (ld xs ((m:Int)+1)) (by lia) r.2;have:=wK o (x:=ld xs ((m:Int)+1)) (y:=(m:Int)+1) r.1 r.2 (by lia) hm e;lia
theorem HD{x:Int}{e:Int×Int}(h1:x≠e.1)(h2:x≠e.2):bw x e=x:=by
 unfold bw;rw[if_neg h1,if_neg h2]
theorem jy{n:Int}{xs:List Int}{m:Nat}(o:Ord n xs)(f:Fix n (m+1) xs)(hm:(m:Int)+1<=n)(ne:ld xs ((m:Int)+1)≠(m:Int)+1):Fix n m (xs.map (bw · (ld xs ((m:Int)+1),(m:Int)+1))):=by
 intro x h1 h2;rw[Bu o _ (by lia) h2];have lt:=iH o f hm ne;by_cases h:x=(m:Int)+1
 .rw[h];unfold bw;rw[if_pos rfl]
 .have e:=f x (by lia) h2
  rw[e];exact HD (by dsimp only;lia) (by dsimp only;exact h)
theorem lK{n:Int}{xs:List Int}{m:Nat}(f:Fix n (m+1) xs)(e:ld xs ((m:Int)+1)=(m:Int)+1):Fix n m xs:=by
 intro x h1 h2;by_cases h:x=(m:Int)+1
 .rw[h];exact e
 .exact f x (by lia) h2
inductive qm:Int->List (Int×Int)->Prop
 |nil {m:Int}:qm m []
 |snoc {m a b:Int} {r:List (Int×Int)}:qm (b-1) r->1<=a->a<b->b<=m->qm m (r++[(a,b)])
theorem qm.mono {m m':Int}{r:List (Int×Int)}(h:qm m r)(l:m<=m'):qm m' r:=by
 cases h with
 |nil=>exact .nil
 |snoc a b c d=>exact .snoc a b c (by lia)
theorem qm.good {n m:Int}{r:List (Int×Int)}(h:qm m r)(l:m<=n):Good n r:=by
 induction h with
 |nil=>intro e he;cases he
 |snoc a b c d ih=>
  refine(ih (by lia)).append fun e he=>?_;rw[List.mem_singleton.mp he];exact⟨b,c,by lia⟩
theorem kA{n:Int}:∀(m:Nat)(xs:List Int),(m:Int)<=n->Ord n xs->Fix n m xs->qm m (fG m xs)
 |0,xs,_,o,f=> .nil
 |m+1,xs,hm,o,f=>by
  unfold fG;have hm':(m:Int)+1<=n:=by lia
  split
  .rename_i e
   exact(kA m xs (by lia) o (lK f e)).mono (by lia)
  .rename_i ne
   have lt:=iH o f hm' ne;have gd:1<=(ld xs ((m:Int)+1),(m:Int)+1).1/\(ld xs ((m:Int)+1),(m:Int)+1).1<(ld xs ((m:Int)+1),(m:Int)+1).2/\(ld xs ((m:Int)+1),(m:Int)+1).2<=n:=⟨lt.1,lt.2,hm'⟩;exact .snoc ((kA m _ (by lia) (kL o gd) (jy o f hm' ne)).mono (by lia)) lt.1 lt.2 (by lia)
def cnt(n:Int)(xs:List Int):Nat:=((eB 1 (n+1)).filter (least xs)).length
theorem pF{α:Type}[DecidableEq α]{p q:α->Bool}{g:α}(hp:p g=false)(hq:q g=true):∀(l:List α),l.Nodup->g∈l->(∀x∈l,x≠g->p x=q x)->(l.filter q).length=(l.filter p).length+1
 |[],_,h,_=>by cases h
 |a::l,nd,h,k=>by
  rw[List.nodup_cons]at nd;by_cases e:a=g
  .subst e
   rw[List.filter_cons_of_pos hq,List.filter_cons_of_neg (by rw[hp];decide),L8];congr 1;congr 1;apply List.filter_congr;intro x hx;exact(k x (Mh _ hx) (by intro z;subst z;exact nd.1 hx)).symm
  .have ih:=pF hp hq l nd.2 (by cases h with|head=>exact absurd rfl e|tail _ h=>exact h) fun x hx=>k x (Mh _ hx)
   have ea:=k a Mg e;rw[List.filter_cons,List.filter_cons,ea]
   split
   .rw[L8,L8,ih]
   .exact ih
section
variable{n:Int}{xs:List Int}{m:Nat}
theorem CJ(o:Ord n xs)(hm:(m:Int)+1<=n){x:Int}(h1:1<=x)(h2:x<=n)(hx:x≠(m:Int)+1):
  ld (xs.map (bw · (ld xs ((m:Int)+1),(m:Int)+1))) x=if ld xs x=(m:Int)+1 then ld xs ((m:Int)+1)else ld xs x:=by
 rw[Bu o _ h1 h2];have ne:ld xs x≠ld xs ((m:Int)+1):=fun e=>hx (wK o h1 h2 (by lia) hm e);unfold bw;rw[if_neg ne]
theorem sO(o:Ord n xs)(f:Fix n (m+1) xs)(hm:(m:Int)+1<=n)(ne:ld xs ((m:Int)+1)≠(m:Int)+1){x:Int}(h1:1<=x)(h2:x<=n)(hx:x≠(m:Int)+1):
  ∀k,cJ (ld (xs.map (bw · (ld xs ((m:Int)+1),(m:Int)+1)))) k x≠(m:Int)+1/\∃j,cJ (ld (xs.map (bw · (ld xs ((m:Int)+1),(m:Int)+1)))) k x=cJ (ld xs) j x
 |0=>⟨hx,0,rfl⟩
 |k+1=>by
  obtain⟨a,j,e⟩:=sO o f hm ne h1 h2 hx k;have r:=cY o h1 h2 j;show ld _ (cJ _ k x)≠_/\∃j,ld _ (cJ _ k x)=_;rw[e]at a⊢;rw[CJ o hm r.1 r.2 a];by_cases h:ld xs (cJ (ld xs) j x)=(m:Int)+1
  .rw[if_pos h]
   refine⟨ne,j+2,?_⟩;show _=ld xs (ld xs (cJ (ld xs) j x));rw[h]
  .rw[if_neg h]
   exact⟨h,j+1,rfl⟩
theorem zc(o:Ord n xs)(f:Fix n (m+1) xs)(hm:(m:Int)+1<=n)(ne:ld xs ((m:Int)+1)≠(m:Int)+1){x:Int}(h1:1<=x)(h2:x<=n)(hx:x≠(m:Int)+1):
  ∀j,(∃k,cJ (ld xs) j x=cJ (ld (xs.map (bw · (ld xs ((m:Int)+1),(m:Int)+1)))) k x)\/(cJ (ld xs) j x=(m:Int)+1/\∃k,cJ (ld (xs.map (bw · (ld xs ((m:Int)+1),(m:Int)+1)))) k x=ld xs ((m:Int)+1))
 |0=> .inl ⟨0,rfl⟩
 |j+1=>by
  have r:=cY o h1 h2 j;rcases zc o f hm ne h1 h2 hx j with⟨k,e⟩|⟨e,k,e2⟩
  .have a:=(sO o f hm ne h1 h2 hx k).1
   have e3:cJ (ld (xs.map (bw · (ld xs ((m:Int)+1),(m:Int)+1)))) (k+1) x=if ld xs (cJ (ld xs) j x)=(m:Int)+1 then ld xs ((m:Int)+1)else ld xs (cJ (ld xs) j x):=by
    show ld _ (cJ _ k x)=_;rw[←e]at a⊢;exact CJ o hm r.1 r.2 a
   by_cases h:ld xs (cJ (ld xs) j x)=(m:Int)+1
   .rw[if_pos h]at e3
    exact .inr ⟨h,k+1,e3⟩
   .rw[if_neg h]at e3
    exact .inl ⟨k+1,e3.symm⟩
  .refine .inl ⟨k,?_⟩
   show ld xs (cJ (ld xs) j x)=_;rw[e,e2]
theorem Ek(o:Ord n xs)(f:Fix n (m+1) xs)(hm:(m:Int)+1<=n)(ne:ld xs ((m:Int)+1)≠(m:Int)+1):cnt n (xs.map (bw · (ld xs ((m:Int)+1),(m:Int)+1)))=cnt n xs+1:=by
 have lt:=iH o f hm ne;have gd:1<=(ld xs ((m:Int)+1),(m:Int)+1).1/\(ld xs ((m:Int)+1),(m:Int)+1).1<(ld xs ((m:Int)+1),(m:Int)+1).2/\(ld xs ((m:Int)+1),(m:Int)+1).2<=n:=⟨lt.1,lt.2,hm⟩;have o':=kL o gd;have f':=jy o f hm ne;unfold cnt;refine pF (g:=(m:Int)+1) ?_ ?_ _ (gk _ _) (cI.mpr (by lia)) ?_
 .cases h:least xs ((m:Int)+1)with
  |false=>rfl
  |true=>
   have:=(hU o (by lia) hm).mp h 1;exact absurd this (by show¬_<=ld xs ((m:Int)+1);lia)
 .refine(hU o' (by lia) hm).mpr fun k=>?_
  have:∀k,cJ (ld (xs.map (bw · (ld xs ((m:Int)+1),(m:Int)+1)))) k ((m:Int)+1)=(m:Int)+1:=by
   intro k
   induction k with
   |zero=>rfl
   |succ k ih=>show ld _ (cJ _ k _)=_;rw[ih];exact f' _ (by lia) hm
  rw[this k];exact Int.le_refl _
 .intro x hx hne
  have hx:=cI.mp hx;have h1:1<=x:=hx.1;have h2:x<=n:=by lia
  rw[Bool.eq_iff_iff,hU o h1 h2,hU o' h1 h2];constructor
  .intro h k
   obtain⟨_,j,e⟩:=sO o f hm ne h1 h2 hne k;rw[e];exact h j
  .intro h j
   rcases zc o f hm ne h1 h2 hne j with⟨k,e⟩|⟨e,k,e2⟩
   .rw[e];exact h k
   .have:=h k
    rw[e2]at this;rw[e];lia
end
theorem md{n:Int}:∀(m:Nat)(xs:List Int),(m:Int)<=n->Ord n xs->Fix n m xs->(fG m xs).length+cnt n xs=n.toNat
 |0,xs,_,o,f=>by
  have:(eB 1 (n+1)).filter (least xs)=eB 1 (n+1):=by
   rw[List.filter_eq_self];intro x hx;have hx:=cI.mp hx;refine(hU o hx.1 (by lia)).mpr fun k=>?_;have:∀k,cJ (ld xs) k x=x:=by
    intro k
    induction k with
    |zero=>rfl
    |succ k ih=>show ld _ (cJ _ k _)=_;rw[ih];exact f _ (by lia) (by lia)
   rw[this k];exact Int.le_refl _
  unfold cnt;rw[this,a8];show 0+_=_;lia
 |m+1,xs,hm,o,f=>by
  unfold fG;have hm':(m:Int)+1<=n:=by lia
  split
  .rename_i e
   exact md m xs (by lia) o (lK f e)
  .rename_i ne
   have lt:=iH o f hm' ne;have gd:1<=(ld xs ((m:Int)+1),(m:Int)+1).1/\(ld xs ((m:Int)+1),(m:Int)+1).1<(ld xs ((m:Int)+1),(m:Int)+1).2/\(ld xs ((m:Int)+1),(m:Int)+1).2<=n:=⟨lt.1,lt.2,hm'⟩;have ih:=md m _ (by lia) (kL o gd) (jy o f hm' ne);rw[Ek o f hm' ne]at ih;rw[LY,List.length_singleton];lia
def ja(xs:List Int):List (Int×Int):=fG xs.length xs
section
variable{n:Int}{xs:List Int}
theorem nR(o:Ord n xs):Fix n xs.length xs:=fun x h1 h2=>by have:=o.length;lia
theorem xX(hn:0<=n)(o:Ord n xs):qm n (ja xs):=(kA _ xs (by have:=o.length;lia) o (nR o)).mono (by have:=o.length;lia)
theorem zB(hn:0<=n)(o:Ord n xs):(ja xs).length+cnt n xs=n.toNat:=md _ xs (by have:=o.length;lia) o (nR o)
end
theorem pO:∀{l:List Int},l≠[]->∃M,M∈l/\∀b∈l,M<=b
 |[],h=>absurd rfl h
 |[a],_=>⟨a,List.mem_singleton.mpr rfl,fun b hb=>by rw[List.mem_singleton.mp hb];exact Int.le_refl _⟩
 |a::b::r,_=>by
  obtain⟨M,h1,h2⟩:=pO (l:=b::r) (by simp);by_cases h:a<=M
  .refine⟨a,Mg,fun c hc=>?_⟩
   rcases List.mem_cons.mp hc with rfl|hc
   .exact Int.le_refl _
   .exact Int.le_trans h (h2 c hc)
  .refine⟨M,Mh _ h1,fun c hc=>?_⟩
   rcases List.mem_cons.mp hc with rfl|hc
   .lia
   .exact h2 c hc
end Sw
namespace L2
open PySem
theorem zq{K:W.Frag}{a:MB}{xs:List V}{g:TG}{tb:TS}{D:Ends}{σ:St}{H:Hp}(Pv:Nat->St->Hp->Prop)(h0:Pv 0 σ H)(hl:∀i σ H,i<=xs.length->Pv i σ H->aG K H a xs)
  (hs:∀i σ H t v,xs[i]?=some v->Pv i σ H->H t=none->g (.ref t) σ (upd H t (.tup [.int (i:Int),v])) fun σ2 H2=>tb {D with nx:=Pv (i+1),ct:=Pv (i+1),bk:=D.nx} σ2 H2) (hd:∀σ H,Pv xs.length σ H->D.nx σ H):
  ∃W:Nat->Nat->St->Hp->Prop,(∃m,W 0 m σ H)/\∀i m σ H,W i m σ H->
   ((AU K a xs).stop i H/\D.nx σ H)\/((AU K a xs).go i H/\∃N:St->Hp->Prop,(∀σ' H',N σ' H'->∃m',m'<m/\W (i+1) m' σ' H')/\∀x H',(AU K a xs).Aw i H x H'->g x σ H' fun σ2 H2=>tb {D with nx:=N,ct:=N,bk:=D.nx} σ2 H2):=by
 refine⟨fun i m σ H=>m=xs.length-i/\i<=xs.length/\Pv i σ H,⟨xs.length,by simp,Mw _,h0⟩,?_⟩;rintro i m σ H ⟨rfl,hi,p⟩;by_cases hlt:i<xs.length
 .refine .inr ⟨⟨hlt,hl i σ H hi p⟩,Pv (i+1),fun σ' H' p'=>⟨xs.length-(i+1),by lia,rfl,hlt,p'⟩,fun x H' y=>?_⟩
  obtain⟨t,v,ht,rfl,hv,rfl⟩:=y;exact hs i σ H t v hv p ht
 .have e:i=xs.length:=by lia
  subst e;exact .inl ⟨⟨rfl,hl _ σ H (Ms _) p⟩,hd σ H p⟩
end L2
namespace Sw
open PySem L2
theorem kZ{n:Int}{xs:List Int}(o:Ord n xs){x y:Int}(h1:1<=x)(h2:x<=n)(h:y∈gX xs x):x∈gX xs y:=by
 obtain⟨k,rfl⟩:=(gG o h1 h2).mp h;obtain⟨j,hj,e⟩:=yY o h1 h2 k;have r:=cY o h1 h2 k;refine(gG o r.1 r.2).mpr ⟨gC xs x-j,?_⟩;rw[e,←lG,show gC xs x-j+j=gC xs x by lia];exact n6 o h1 h2
theorem rL{n:Int}{xs:List Int}(o:Ord n xs){x y z:Int}(h1:1<=x)(h2:x<=n)(h:y∈gX xs x)(h':z∈gX xs y):z∈gX xs x:=by
 obtain⟨k,rfl⟩:=(gG o h1 h2).mp h;have r:=cY o h1 h2 k;obtain⟨j,rfl⟩:=(gG o r.1 r.2).mp h';exact(gG o h1 h2).mpr ⟨j+k,lG _ _ _ _⟩
theorem xO{n:Int}{xs:List Int}(o:Ord n xs){x y:Int}(h1:1<=x)(h2:x<=n)(h:y∈gX xs x):1<=y/\y<=n:=by
 obtain⟨k,rfl⟩:=(gG o h1 h2).mp h;exact cY o h1 h2 k
theorem oI{xs:List Int}(x:Int):x∈gX xs x:=by
 unfold gX;exact List.mem_map.mpr ⟨0,List.mem_range.mpr (by unfold gC;lia),rfl⟩
theorem iI(xs:List Int)(x:Int):(gX xs x).length=gC xs x:=by unfold gX;rw[LW,List.length_range]
theorem AW{n:Int}{xs:List Int}(o:Ord n xs){x:Int}(h1:1<=x)(h2:x<=n):∃m,m∈gX xs x/\least xs m=true/\m<=x:=by
 obtain⟨M,m1,m2⟩:=pO (l:=gX xs x) (List.ne_nil_of_mem (oI x));refine⟨M,m1,?_,m2 x (oI x)⟩;unfold least;rw[List.all_eq_true];intro y hy;exact decide_eq_true (m2 y (rL o h1 h2 m1 hy))
theorem zG{n:Int}{xs:List Int}(o:Ord n xs){i:Nat}(hi:(i:Int)<n):least xs (1+i)=true↔¬∃m∈((eB 1 (n+1)).take i).filter (least xs),(1+(i:Int))∈gX xs m:=by
 have b1:(1:Int)<=1+i:=by lia
 have b2:(1:Int)+i<=n:=by lia
 have tk:∀m,m∈(eB 1 (n+1)).take i↔1<=m/\m<=i:=by
  intro m;constructor
  .intro h
   obtain⟨j,hj,e⟩:=List.mem_iff_getElem.mp h;rw[Ma]at hj;rw[List.getElem_take]at e;have g:=gJ (lo:=1) (hi:=n+1) (i:=j) (by rw[a8]at hj;lia);rw[LZ (by lia)]at g;have g:=My g;rw[e]at g;lia
  .rintro⟨h3,h4⟩
   refine List.mem_iff_getElem.mpr ⟨(m-1).toNat,by rw[Ma,a8];lia,?_⟩;rw[List.getElem_take];have g:=gJ (lo:=1) (hi:=n+1) (i:=(m-1).toNat) (by lia);rw[LZ (by rw[a8];lia)]at g;have g:=My g;rw[g];lia
 constructor
 .rintro h ⟨m,hm,hmo⟩
  rw[List.mem_filter,tk]at hm;have s:=kZ o hm.1.1 (by lia) hmo;unfold least at h;have:=of_decide_eq_true (List.all_eq_true.mp h m s);lia
 .intro h
  obtain⟨m,m1,m2,m3⟩:=AW o b1 b2;by_cases e:m=1+(i:Int)
  .rw[←e];exact m2
  .exfalso
   apply h;have mi:=xO o b1 b2 m1;exact⟨m,List.mem_filter.mpr ⟨(tk m).mpr (by lia),m2⟩,kZ o b1 b2 m1⟩
theorem Df{ns:List Int}{k:Nat}{z:Int}(h:ns.length=k+1)(e:ns[k]?=some z):m9 (ns.map V.int) (-1)=some (V.int z):=by
 unfold m9 CV;rw[if_neg (by decide),if_pos (by rw[LW];lia)];show(ns.map V.int)[(-1+((ns.map V.int).length:Int)).toNat]?=_;rw[LW,show(-1+(ns.length:Int)).toNat=k by lia,LX,e];rfl
theorem yz(x:Int)(ms:List Int):BI (.int x) (ms.map V.int)=decide (x∈ms):=by
 unfold BI;rw[List.any_map,Bool.eq_iff_iff,List.any_eq_true];simp only[decide_eq_true_eq];constructor
 .rintro⟨y,hy,e⟩
  have e:wu (.int y) (.int x)=true:=e;unfold wu at e;have:y=x:=by simpa using e
  rw[←this];exact hy
 .intro h
  refine⟨x,h,?_⟩;show wu (.int x) (.int x)=true;unfold wu;simp
theorem sh(ms:List Int):(ms.map V.int).all kW=true:=by
 rw[List.all_map,List.all_eq_true];intro x _;rfl
def Kd(n:Int)(xs r:List Int):Prop:=r≠[]/\∀(i:Nat)(x:Int),r[i]?=some x->1<=x/\x<=n/\r[(i+1)%r.length]?=some (ld xs x)
structure Hv(n:Int)(xs:List Int)(rs:List (List Int)):Prop where
 HW:∀r∈rs,Kd n xs r
 nd:rs.flatten.Nodup
 rest:∀x,1<=x->x<=n->x∉rs.flatten->ld xs x=x
theorem DZ{n:Int}{xs:List Int}(o:Ord n xs){x:Int}(h1:1<=x)(h2:x<=n){k:Nat}(h:k<gC xs x):cJ (ld xs) ((k+1)%gC xs x) x=ld xs (cJ (ld xs) k x):=by
 by_cases e:k+1<gC xs x
 .rw[Nat.mod_eq_of_lt e];rfl
 .have e:k+1=gC xs x:=by lia
  rw[e,Nat.mod_self];have:=n6 o h1 h2;rw[←e]at this;exact this.symm
theorem Ey{n:Int}{xs:List Int}(o:Ord n xs){x:Int}(h1:1<=x)(h2:x<=n):Kd n xs (gX xs x):=by
 refine⟨List.ne_nil_of_mem (oI x),fun i y hy=>?_⟩;have hi:i<gC xs x:=by rw[←iI xs x];exact(List.getElem?_eq_some_iff.mp hy).1
 rw[iI];unfold gX at hy⊢;rw[LX,List.getElem?_range hi]at hy;have hy:cJ (ld xs) i x=y:=by simpa using hy
 have r:=cY o h1 h2 i;rw[LX,List.getElem?_range (Nat.mod_lt _ (by lia))];refine⟨by lia,by lia,?_⟩;show some (cJ (ld xs) ((i+1)%gC xs x) x)=_;rw[DZ o h1 h2 hi,hy]
theorem qG{n:Int}{xs:List Int}(o:Ord n xs){x:Int}(h1:1<=x)(h2:x<=n):(gX xs x).Nodup:=by
 unfold gX;rw[List.Nodup,List.pairwise_map];refine(List.Pairwise.and_mem.mp (List.pairwise_lt_range (n:=gC xs x))).imp ?_;rintro i j ⟨hi,hj,hij⟩ e;have hi:=List.mem_range.mp hi;have hj:=List.mem_range.mp hj;have e2:cJ (ld xs) (i+(j-i)) x=cJ (ld xs) i (cJ (ld xs) (j-i) x):=lG _ _ _ _;rw[show i+(j-i)=j by lia,←e]at e2;have q:=cY o h1 h2 (j-i);have:=sL o h1 h2 q.1 q.2 i e2;exact xq (by lia) (by lia) this.symm
theorem lZ{n:Int}{xs:List Int}(o:Ord n xs):(aX n xs).flatten.Nodup:=by
 unfold aX;rw[List.Nodup,List.pairwise_flatten];constructor
 .intro r hr
  obtain⟨x,hx,rfl⟩:=List.mem_map.mp hr;have hx:=cI.mp (List.mem_filter.mp hx).1;exact qG o hx.1 (by lia)
 .rw[List.pairwise_map]
  have nd:((eB 1 (n+1)).filter (least xs)).Nodup:=(gk 1 (n+1)).filter _;refine(List.Pairwise.and_mem.mp nd).imp ?_;rintro a b ⟨ha,hb,ne⟩ y hya z hzb e;subst e;have ha':=List.mem_filter.mp ha;have hb':=List.mem_filter.mp hb;have ia:=cI.mp ha'.1;have ib:=cI.mp hb'.1;have yb:=kZ o ib.1 (by lia) hzb;have ab:b∈gX xs a:=rL o ia.1 (by lia) hya yb;have ba:a∈gX xs b:=kZ o ia.1 (by lia) ab;have l1:=ha'.2;have l2:=hb'.2;unfold least at l1 l2;have e1:=of_decide_eq_true (List.all_eq_true.mp l1 b ab);have e2:=of_decide_eq_true (List.all_eq_true.mp l2 a ba);exact ne (by lia)
theorem nP{n:Int}{xs:List Int}(o:Ord n xs){x:Int}(h1:1<=x)(h2:x<=n):x∈(aX n xs).flatten:=by
 obtain⟨m,m1,m2,m3⟩:=AW o h1 h2;have mi:=xO o h1 h2 m1;refine List.mem_flatten.mpr ⟨gX xs m,?_,kZ o h1 h2 m1⟩;unfold aX;exact List.mem_map.mpr ⟨m,List.mem_filter.mpr ⟨cI.mpr (by lia),m2⟩,rfl⟩
theorem jM{n:Int}{xs:List Int}(o:Ord n xs){r:List Int}(h:r∈aX n xs):Kd n xs r:=by
 unfold aX at h;obtain⟨x,hx,rfl⟩:=List.mem_map.mp h;have hx:=cI.mp (List.mem_filter.mp hx).1;exact Ey o hx.1 (by lia)
theorem uc{n:Int}{xs:List Int}(o:Ord n xs):Hv n xs (aX n xs):=⟨fun r h=>jM o h,lZ o,fun x h1 h2 h=>absurd (nP o h1 h2) h⟩
theorem A8(n:Int):Hv n (eB 1 (n+1)) []:=by
 refine⟨fun r h=>(by cases h),by simp,fun x h1 h2 _=>?_⟩;unfold ld;rw[Me,gJ (by lia)];show 1+(((x-1).toNat:Nat):Int)=x;lia
end Sw
namespace L2
open PySem PySem.Spec PyProof.Rows
mutual
inductive DT(H:Hp)(P:MB->Prop):V->PyData->Prop
 |cE:DT H P .cE .none
 |bl (b:Bool):DT H P (.bl b) (.bool b)
 |int (i:Int):DT H P (.int i) (.int i)
 |str (x:Str):DT H P (.str x) (.str x)
 |lst {a:MB} {vs:List V} {ds:List PyData}:H a=some (.lst vs)->P a->wq H P vs ds->DT H P (.ref a) (.list ds)
 |tup {a:MB} {vs:List V} {ds:List PyData}:H a=some (.tup vs)->P a->wq H P vs ds->DT H P (.ref a) (.tuple ds)
inductive wq(H:Hp)(P:MB->Prop):List V->List PyData->Prop
 |nil:wq H P [] []
 |cons {v:V} {d:PyData} {vs:List V} {ds:List PyData}:DT H P v d->wq H P vs ds->wq H P (v::vs) (d::ds)
end
mutual
theorem DT.keep {H H':Hp}{P:MB->Prop}(k:tL P H H'):∀{v:V}{d:PyData},DT H P v d->DT H' P v d
 |_,_,.cE=> .cE
 |_,_,.bl b=> .bl b
 |_,_,.int i=> .int i
 |_,_,.str x=> .str x
 |_,_,.lst h p r=> .lst (k _ _ p h) p (r.keep k)
 |_,_,.tup h p r=> .tup (k _ _ p h) p (r.keep k)
theorem wq.keep {H H':Hp}{P:MB->Prop}(k:tL P H H'):∀{vs:List V}{ds:List PyData},wq H P vs ds->wq H' P vs ds
 |_,_,.nil=> .nil
 |_,_,.cons h r=> .cons (h.keep k) (r.keep k)
end
theorem wq.length {H:Hp}{P:MB->Prop}:∀{vs:List V}{ds:List PyData},wq H P vs ds->vs.length=ds.length
 |_,_,.nil=>rfl
 |_,_,.cons h r=>by rw[L8,L8,r.length]
theorem wq.get {H:Hp}{P:MB->Prop}:∀{vs:List V}{ds:List PyData}{i:Nat}{x:V},wq H P vs ds->vs[i]?=some x->∃d,ds[i]?=some d/\DT H P x d
 |_,_,_,_,.nil,e=>by simp at e
 |_,_,0,_,.cons h x,e=>by simp at e;subst e;exact⟨_,rfl,h⟩
 |_,_,i+1,_,.cons h x,e=>by
  obtain⟨d,e1,e2⟩:=x.get (i:=i) (by simpa using e);exact⟨d,by simpa using e1,e2⟩
def Ic:PyData->String
 | .none=> "NoneType"
 | .bool _=> "bool"
 | .int _=> "int"
 | .str _=> "str"
 | .list _=> "list"
 | .tuple _=> "tuple"
 | .dict _=> "dict"
theorem DT.ty {K:W.Frag}{H:Hp}{P:MB->Prop}{v:V}{d:PyData}(h:DT H P v d):ko K H v (.type (Ic d)):=by
 cases h with
 |cE=>exact .cE
 |bl b=>exact .bl b
 |int i=>exact .int i
 |str x=>exact .str x
 |lst h p r=>exact .lst h
 |tup h p r=>exact .tup h
def LA:PyData->Bool
 | .list _=>true
 |_=>false
theorem BH(K:W.Frag){H:Hp}{P:MB->Prop}{v:V}{d:PyData}(h:DT H P v d):W.kitOne K (.type (Ic d)) (.type "list")=some (LA d):=by
 cases h with
 |cE=>exact aT K (show fP "NoneType" "list" =some false by decide+kernel)
 |bl b=>exact aT K (show fP "bool" "list" =some false by decide+kernel)
 |int i=>exact aT K (show fP "int" "list" =some false by decide+kernel)
 |str x=>exact aT K (show fP "str" "list" =some false by decide+kernel)
 |lst h p r=>exact aT K (show fP "list" "list" =some true by decide+kernel)
 |tup h p r=>exact aT K (show fP "tuple" "list" =some false by decide+kernel)
def LF:PyData->Bool
 | .tuple _=>true
 |_=>false
theorem kit_tuple(K:W.Frag){H:Hp}{P:MB->Prop}{v:V}{d:PyData}(h:DT H P v d):W.kitOne K (.type (Ic d)) (.type "tuple")=some (LF d):=by
 cases h with
 |cE=>exact aT K (show fP "NoneType" "tuple" =some false by decide+kernel)
 |bl b=>exact aT K (show fP "bool" "tuple" =some false by decide+kernel)
 |int i=>exact aT K (show fP "int" "tuple" =some false by decide+kernel)
 |str x=>exact aT K (show fP "str" "tuple" =some false by decide+kernel)
 |lst h p r=>exact aT K (show fP "list" "tuple" =some false by decide+kernel)
 |tup h p r=>exact aT K (show fP "tuple" "tuple" =some true by decide+kernel)
def LL:PyData->Bool
 | .int _=>true
 | .bool _=>true
 |_=>false
theorem Ed(K:W.Frag){H:Hp}{P:MB->Prop}{v:V}{d:PyData}(h:DT H P v d):W.kitOne K (.type (Ic d)) (.type "int")=some (LL d):=by
 cases h with
 |cE=>exact aT K (show fP "NoneType" "int" =some false by decide+kernel)
 |bl b=>exact aT K (show fP "bool" "int" =some true by decide+kernel)
 |int i=>exact aT K (show fP "int" "int" =some true by decide+kernel)
 |str x=>exact aT K (show fP "str" "int" =some false by decide+kernel)
 |lst h p r=>exact aT K (show fP "list" "int" =some false by decide+kernel)
 |tup h p r=>exact aT K (show fP "tuple" "int" =some false by decide+kernel)
def Lz:PyData->Bool
 | .bool _=>true
 |_=>false
theorem CF(K:W.Frag){H:Hp}{P:MB->Prop}{v:V}{d:PyData}(h:DT H P v d):W.kitOne K (.type (Ic d)) (.type "bool")=some (Lz d):=by
 cases h with
 |cE=>exact aT K (show fP "NoneType" "bool" =some false by decide+kernel)
 |bl b=>exact aT K (show fP "bool" "bool" =some true by decide+kernel)
 |int i=>exact aT K (show fP "int" "bool" =some false by decide+kernel)
 |str x=>exact aT K (show fP "str" "bool" =some false by decide+kernel)
 |lst h p r=>exact aT K (show fP "list" "bool" =some false by decide+kernel)
 |tup h p r=>exact aT K (show fP "tuple" "bool" =some false by decide+kernel)
def kH(h:MN)(e:MB)(b:Option MB:=none):Prop:=∃o vs c,h.get? e=some o/\o.data= .fields vs/\vs[2]?=some c/\(b=none->c=MA.none)
section
variable{M:Model}{A:MF}{E:MA->MC->Prop}{s:MC}{B:MN}{env:Env}{outer:List Env}{L e:MB}{cls a0 c:MA}{b:Option MB}
abbrev A6(head:MA)(L:MB)(pl:List MA):Obj:={cls:= .type "traceback",dict:=none,data:= .fields ([head,.ref L,.none,rawInt L,.none]++(if pl.isEmpty then List.replicate 6 MA.none else pl)).toArray}
theorem kr{o:Obj}{vs:Array MA}{head:MA}{hadNext:Bool}{Q:Unit->MC->Prop}
  (fr:A.frames=some (env::outer)) (ff:s.heap.FunFrames B (env::outer)) (ef:env.frame=some L) (eo:s.heap.get? e=some o) (kb:B.StaysIn s.heap) (en:B.get? e=none) (ed:o.data= .fields vs) (z0:vs[0]?=some a0) (z2:vs[2]?=some c) (zb:b=none->c=MA.none)
  (k:∀h',MN.NotedW B (env::outer) e o.cls a0 (rawInt L) s.heap h'->kH h' e b->Q () {s with heap:=h'}):
  MP M A (do let a←frameOf env;let pl←entryPlaceOf L hadNext;let b←EntryCells.newEntry head a .none (rawInt L) .none pl;setField (.ref e) 1 b) Q E s:=by
 have n2:2<vs.size:=(Array.getElem?_eq_some_iff.mp z2).1;have n1:1<vs.size:=by lia
 have eno:e∉(env::outer).filterMap (·.frame):=fun hm=>by
  obtain⟨_,o',ho,hnf⟩:=ff.mem hm;rw[eo]at ho;cases ho;exact hnf vs ed
 refine MI (wpAny_frameOf_fun fr ff ef fun g hs=>MI (wpAny_entryPlaceOf fun pl hpl=>?_));unfold EntryCells.newEntry newFields;refine MI (wpAny_newObj_type ?_ (hpl.sizeOk5 _ _ _ _ _));have eo1:g.get? e=some o:=(hs.2.1 e eno).trans eo;have kb1:B.StaysIn g:=fun b u hb=>(hs.2.1 b fun hm=>by rw[(ff.mem hm).1]at hb;cases hb).trans (kb b u hb);have eo2:=MN.get?_push_of_some (h:=g) (A6 head L pl) eo1;have nT:g.objs.size≠e:=Nat.ne_of_gt (MN.lt_size eo1);have d3:=Obj.data_mapFields ed (·.setIfInBounds 1 (MA.ref g.objs.size));have eo3:=MN.get?_update_self (Obj.mapFields (·.setIfInBounds 1 (MA.ref g.objs.size))) eo2 (Obj.isFreed_of_fields d3);have tb3:=(MN.get?_update_other (g.push (A6 head L pl)) (Obj.mapFields (·.setIfInBounds 1 (MA.ref g.objs.size))) (Ne.symm nT)).trans (MN.get?_push_size g rfl);have jq:∀b u,b≠e->g.get? b=some u->((g.push (A6 head L pl)).update e (Obj.mapFields (·.setIfInBounds 1 (MA.ref g.objs.size)))).get? b=some u:=fun b u hbe hb=>
  (MN.get?_update_other _ _ (Ne.symm hbe)).trans (MN.get?_push_of_some _ hb)
 have noE:∀b u,s.heap.get? b=some u->(∀ws,u.data≠.fields ws)->b≠e:=fun b u hb hnf q=>by
  rw[q,eo]at hb;cases hb;exact hnf vs ed
 refine wpAny_setField eo2 ed n1 (k _ ⟨fun b u hb=>jq b u (fun q=>by rw[q,en]at hb;cases hb) (kb1 b u hb),ff.of_keeps fun b u hb hnf=>?_,?_,fun b u hb hnf=>?_⟩ ⟨_,_,c,eo3,d3,?_,zb⟩)
 .obtain⟨sl,hq⟩:=hs.2.2 b u hb
  exact⟨_,jq b _ (noE b u hb hnf) hq,rfl⟩
 .refine⟨_,_,g.objs.size,_,_,eo3,⟨Obj.cls_mapFields _ _,?_⟩,d3,by simp[n1],kb1.fresh,nT,tb3,rfl,?_⟩
  .rw[Array.getElem?_setIfInBounds_ne (by decide)];exact z0
  .rcases hpl with rfl|⟨_,_,_,_,_,_,_,rfl⟩<;>simp
 .obtain⟨sl,hq⟩:=hs.2.2 b u hb
  exact⟨sl,jq b _ (noE b u hb hnf) hq⟩
 .rw[Array.getElem?_setIfInBounds_ne (by decide)];exact z2
theorem kH.sees {h:MN}(l:kH h e b)(t:h.TracedW B e cls a0):∃oe vs T oT ts c,(b=none->c=MA.none)/\h.get? e=some oe/\oe.cls=cls/\vs[0]?=some a0/\vs[2]?=some c/\oe.data= .fields vs/\vs[1]?=some (.ref T)/\B.get? T=none/\T≠e/\h.get? T=some oT/\oT.data= .fields ts/\ts[3]?=some .none:=by
 obtain⟨o,vs,c,h1,h2,h3,hb⟩:=l;obtain⟨oe,ws,T,oT,ts,g1,⟨g2,g3⟩,g4,g5,g6,g7,g8,g9,g10⟩:=t;rw[h1]at g1;cases g1;rw[h2]at g4;cases g4;exact⟨o,vs,T,oT,ts,c,hb,h1,g2,g3,h3,h2,g5,g6,g7,g8,g9,g10⟩
theorem mD{Q:Unit->MC->Prop}(fr:A.frames=some (env::outer))(ef:env.frame=some L)(fl:MN.FlyingW B (env::outer) e cls a0 s.heap)(l:kH s.heap e b)
  (k:∀h',MN.HeldW B (env::outer) e cls a0 L h'->s.heap.UpToSlots h'->kH h' e b->Q () {s with heap:=h'}):MP M A (noteFrame (.ref e) env) Q E s:=by
 obtain⟨kb,en,ff,t⟩:=fl;obtain⟨oe,vs,T,oT,ts,c,hb,eo,rfl,z0,z2,ed,z1,tn,nT,et,dT,z3⟩:=l.sees t;unfold noteFrame;simp only[ef];refine MI (wpAny_field eo ed z1 ?_);rw[if_pos (by simp)];refine MI (wpAny_field et dT z3 ?_);rw[if_neg (by simp[rawInt])];refine MI (wpAny_setField et dT (Array.getElem?_eq_some_iff.mp z3).1 ?_);have oth:∀b,b≠T->(s.heap.update T (Obj.mapFields (·.setIfInBounds 3 MA.none))).get? b=s.heap.get? b:=fun b hb=>MN.get?_update_other _ _ (Ne.symm hb);have noT:∀b u,s.heap.get? b=some u->(∀ws,u.data≠.fields ws)->b≠T:=fun b u hb hnf q=>by
  rw[q,et]at hb;cases hb;exact hnf ts dT
 refine kr fr (ff.of_keeps fun b u hb hnf=>⟨u,(oth b (noT b u hb hnf)).trans hb,rfl⟩) ef ((oth e (Ne.symm nT)).trans eo) (fun b u hb=>(oth b fun q=>by rw[q,tn]at hb;cases hb).trans (kb b u hb)) en ed z0 z2 hb fun h' ⟨x1,x2,x3,x4⟩ l'=>?_;exact k h' ⟨x1,en,x2,x3⟩ (fun b u hb hnf=>x4 b u ((oth b (noT b u hb hnf)).trans hb) hnf) l'
theorem iq{fl:MA}{l:List Env}{Q:Unit->MC->Prop}(kb:B.StaysIn s.heap)(en:B.get? e=none)(ff:s.heap.FunFrames B l)(t:s.heap.TracedAtW B e cls a0 fl)(lo:kH s.heap e b)
  (k:∀h',MN.FlyingW B l e cls a0 h'->s.heap.UpToSlots h'->kH h' e b->Q () {s with heap:=h'}):MP M A (setFlight (.ref e) none) Q E s:=by
 obtain⟨o,vs,c,h1,h2,h3,hcb⟩:=lo;obtain⟨oe,ws,T,oT,ts,g1,g2,g4,g5,g6,g7,g8,g9,g10⟩:=t;rw[h1]at g1;cases g1;rw[h2]at g4;cases g4;have sz:3<ts.size:=(Array.getElem?_eq_some_iff.mp g10).1;have oth:∀b,b≠T->(s.heap.update T (Obj.mapFields (·.setIfInBounds 3 ((none:Option MB).elim MA.none fun f=>rawInt f)))).get? b=s.heap.get? b:=fun b hb=>MN.get?_update_other _ _ (Ne.symm hb);have noT:∀b u,s.heap.get? b=some u->(∀ws,u.data≠.fields ws)->b≠T:=fun b u hb hnf q=>by
  rw[q,g8]at hb;cases hb;exact hnf ts g9
 have e':=(oth e (Ne.symm g7)).trans h1;unfold setFlight;refine MI (wpAny_field h1 h2 g5 ?_);rw[if_pos (by simp)];refine wpAny_setField g8 g9 sz (k _ ⟨fun b u hb=>(oth b fun q=>by rw[q,g6]at hb;cases hb).trans (kb b u hb),en,ff.of_keeps fun b u hb hnf=>⟨u,(oth b (noT b u hb hnf)).trans hb,rfl⟩,?_⟩ (fun b u hb hnf=>⟨u.slots,(oth b (noT b u hb hnf)).trans hb⟩) ⟨o,vs,c,e',h2,h3,hcb⟩);exact⟨o,vs,T,_,_,e',g2,h2,g5,g6,g7,MN.get?_update_self _ g8 (Obj.isFreed_of_fields (Obj.data_mapFields g9 _)),Obj.data_mapFields g9 _,by simp[sz]⟩
theorem xf{Q:Unit->MC->Prop}(fr:A.frames=some (env::outer))(ef:env.frame=some L)(fl:MN.FlyingW B (env::outer) e cls a0 s.heap)(l:kH s.heap e b)
  (k:∀h',MN.FlyingW B (env::outer) e cls a0 h'->s.heap.UpToSlots h'->kH h' e b->Q () {s with heap:=h'}):MP M A (leaving env (.ref e)) Q E s:=by
 unfold leaving;refine MI (mD fr ef fl l fun g hh sm l'=>?_);obtain⟨f1,f2,f3,f4⟩:=hh;exact iq (s:={s with heap:=g}) f1 f2 f3 f4 l' fun h' a1 a2 a3=>k h' a1 (sm.trans a2) a3
theorem xm{o:Obj}{vs:Array MA}{Q:Unit->MC->Prop}(fr:A.frames=some (env::outer))(ff:s.heap.FunFrames B (env::outer))(ef:env.frame=some L)(eo:s.heap.get? e=some o)(kb:B.StaysIn s.heap)(en:B.get? e=none)(ed:o.data= .fields vs)(z0:vs[0]?=some a0)(z1:vs[1]?=some .none)(z2:vs[2]?=some c)(zb:b=none->c=MA.none)
  (k:∀h',MN.FlyingW B (env::outer) e o.cls a0 h'->s.heap.UpToSlots h'->kH h' e b->Q () {s with heap:=h'}):MP M A (leaving env (.ref e)) Q E s:=by
 unfold leaving noteFrame;simp only[ef];refine MI (MI (wpAny_field eo ed z1 ?_));rw[if_neg (by decide)];refine kr fr ff ef eo kb en ed z0 z2 zb fun g hn l'=>?_;obtain⟨f1,f3,f4,sm⟩:=hn;exact iq (s:={s with heap:=g}) f1 en f3 f4 l' fun h' a1 a2 a3=>k h' a1 (MN.UpToSlots.trans sm a2) a3
end
theorem bH.here {P:MD}{w:ME}{H:Hp}{h:MN}{a:MB}{o:HO}(x:bH P w H h a o):∃ob,h.get? a=some ob:=by
 cases o with
 |lst xs=>obtain⟨_,_,_,_,e⟩:=x;exact⟨_,e⟩
 |tup xs=>obtain⟨_,_,_,ob,e,_⟩:=x;exact⟨_,e⟩
 |dK kvs=>obtain⟨_,_,_,_,o,_,_,e,_⟩:=x;exact⟨_,e⟩
 |dT kvs=>obtain⟨_,_,_,_,o,_,_,e,_⟩:=x;exact⟨_,e⟩
 |set S n=>obtain⟨o,_,_,_,e,_⟩:=x;exact⟨_,e⟩
 |ins C dx fs=>obtain⟨_,_,_,e,_⟩:=x;exact⟨_,e⟩
 |own y=>obtain⟨_,e⟩:=x;exact⟨_,e⟩
 |xd fs=>obtain⟨_,⟨_,_,_,e,_⟩,_⟩:=x;exact⟨_,e⟩
 |tR lo hi=>obtain⟨_,_,_,e⟩:=x;exact⟨_,e⟩
 |uW ob u=>obtain⟨e,_⟩:=x;exact⟨_,e⟩
 |Fl ps=>exact⟨_,(show h.get? a=some _ from x)⟩
 |met f y=>exact⟨_,(show h.get? a=some _ from x)⟩
 |ext φ=>obtain⟨_,⟨_,e⟩,_⟩:=x;exact⟨_,e⟩
structure va(P:MD)(w:ME)(fr:List Env)(H:Hp)(h:MN)(e:MB)(cls a0:MA)(B:MN)(H':Hp)(h':MN)(bb:Option MB:=none):Prop where
 un:Un (gw fr) [] H H' h h'
 bc:jV P w H' h'
 fl:MN.FlyingW B fr e cls a0 h'
 old:∀b o o',h.get? b=some o->b∉gw fr->h'.get? b=some o'->B.get? b=some o'
 t8:∀b u o',H' b=some u->h'.get? b=some o'->B.get? b=some o'
 nS:∀b∈gw fr,H' b=none
 lo:kH h' e bb
section
variable{P:MD}{w:ME}{fr:List Env}{H H':Hp}{h h' h'':MN}{e:MB}{cls a0:MA}{B:MN}{bb:Option MB}
theorem va.EU (fun_:Un (gw fr) [] H H' h h')(fhok:jV P w H' h')(ff:h'.FunFrames B fr)(fold:∀b o o',h.get? b=some o->b∉gw fr->h'.get? b=some o'->B.get? b=some o')
  (ftrk:∀b u o',H' b=some u->h'.get? b=some o'->B.get? b=some o') (ffrf:∀b∈gw fr,H' b=none) (fl:MN.FlyingW B fr e cls a0 h'') (sm:h'.UpToSlots h'') (lo:kH h'' e bb):va P w fr H h e cls a0 B H' h'' bb where
 un:=by
  refine⟨fun b o q n hb hx=>?_,fun b o q n hb hx=>?_,fun_.free,fun b o q hx=>?_,fun_.bI,fun_.iF,fun_.i6⟩
  .have e1:=fun_.keep b o q n hb hx
   exact fl.1 b o (fold b o o q hb e1)
  .obtain⟨sl,e1⟩:=fun_.slot b o q n hb hx
   obtain⟨_,o1,e2,nf⟩:=ff.mem hb;rw[e1]at e2;cases e2;obtain⟨sl',e3⟩:=sm b _ e1 nf;exact⟨sl',e3⟩
  .obtain⟨o1,e1⟩:=fun_.there b o q hx
   by_cases hb:b∈gw fr
   .obtain⟨_,o2,e2,nf⟩:=ff.mem hb
    rw[e1]at e2;cases e2;obtain⟨sl',e3⟩:=sm b _ e1 nf;exact⟨_,e3⟩
   .exact⟨o1,fl.1 b o1 (fold b o o1 q hb e1)⟩
 bc:=fun a o q=>(fhok a o q).jq (fun b u hb z=>by
   rcases hb with rfl|hb
   .exact fl.1 b u (ftrk b _ u q z)
   .exact fl.1 b u (ftrk b _ u hb z)) (fun _ z=>z) fun _ _ z=>z
 fl:=fl
 old:=fun b o o' q hb z=>by
  obtain⟨o1,e1⟩:=fun_.there b o q (by simp);have e2:=fold b o o1 q hb e1;have e3:=fl.1 b o1 e2;rw[z]at e3;cases e3;exact e2
 t8:=fun b u o' q z=>by
  obtain⟨o1,e1⟩:=(fhok b u q).here;have e2:=ftrk b u o1 q e1;have e3:=fl.1 b o1 e2;rw[z]at e3;cases e3;exact e2
 nS:=ffrf
 lo:=lo
theorem va.move (F:va P w fr H h e cls a0 B H' h' bb)(fl:MN.FlyingW B fr e cls a0 h'')(sm:h'.UpToSlots h'')(lo:kH h'' e bb):va P w fr H h e cls a0 B H' h'' bb:=va.EU F.un F.bc F.fl.2.2.1 F.old F.t8 F.nS fl sm lo
theorem va.out {X:Cx}{pins:List (MB×Obj)}{σ:St}{s:MC}(I:Inv X pins σ H s)(hst:X.stack=X.env::X.outer)(hex:X.ex=[])(F:va P w X.stack H s.heap e cls a0 B H' h' bb):va P w X.outer X.H₀ X.s₀.heap e cls a0 B H' h' bb:=by
 have nx:∀b:MB,b∉X.ex:=fun b z=>by rw[hex]at z;cases z
 have ns:∀b o,X.s₀.heap.get? b=some o->b∉gw X.outer->b∉gw X.stack:=fun b o q hb z=>by
  rcases List.mem_cons.mp (I.iO b z)with r|r
  .subst r
   exact absurd (Mt (MN.lt_size q) I.ok.above) (Nat.lt_irrefl _)
  .exact hb r
 have so:∀b∈gw X.outer,b∈gw X.stack:=fun b z=>by
  rw[hst];unfold gw at z⊢;rw[List.filterMap_cons]
  split
  .exact z
  .exact Mh _ z
 refine⟨⟨fun b o q n hb hx=>?_,fun b o q n hb hx=>?_,fun b o q n hx=>?_,fun b o q hx=>?_,fun b xs q=>F.un.bI b xs (I.base.bI b xs q),fun b o u q=>F.un.iF b o u (I.base.iF b o u q),fun b ps q=>?_⟩,F.bc,?_,fun b o o' q hb z=>?_,F.t8,fun b hb=>F.nS b (so b hb),F.lo⟩
 .exact F.un.keep b o (I.base.keep b o q n hb (nx b)) (I.base.free b o q n (nx b)) (ns b o q hb) (by simp)
 .obtain⟨sl,e1⟩:=I.base.slot b o q n hb (nx b)
  obtain⟨sl',e2⟩:=F.un.any e1 (I.base.free b o q n (nx b)) (by simp);exact⟨sl',e2⟩
 .obtain⟨o1,e1⟩:=I.base.there b o q (nx b)
  exact F.un.free b o1 e1 (I.base.free b o q n (nx b)) (by simp)
 .obtain⟨o1,e1⟩:=I.base.there b o q (nx b)
  exact F.un.there b o1 e1 (by simp)
 .obtain⟨m1,e1⟩:=I.base.i6 b ps q
  obtain⟨m2,e2⟩:=F.un.i6 b _ e1;exact⟨m1++m2,by rw[e2,Array.append_assoc]⟩
 .have f:=F.fl
  rw[hst]at f;exact⟨f.1,f.2.1,f.2.2.1.2.2,f.2.2.2⟩
 .obtain⟨o1,e1⟩:=I.base.there b o q (nx b)
  exact F.old b o1 o' e1 (ns b o q hb) z
end
def lW(P:MD)(w:ME):pY:=fun fr H s E ev s'=>∃(e:MB)(cls a0:MA)(B:MN)(H':Hp)(bb:Option MB),ev= .ref e/\s'.os=s.os/\AllBare s'.gens/\va P w fr H s.heap e cls a0 B H' s'.heap bb/\E cls bb H'
section
variable{P:MD}{w:ME}{K:W.Frag}{mg:Str->Option MA}{base:MN}{N:List Str}{qual:Str}{scope:Scope}{f:MB}{cdv:MA}{A:MF}{outer:List Env}{s:MC}{H:Hp}{E:XK}
abbrev zw(P:MD)(w:ME)(K:W.Frag)(mg:Str->Option MA)(base:MN)(N:List Str)(qual:Str)(scope:Scope)(f:MB)(cdv:MA)(A:MF)(outer:List Env)(s:MC)(H:Hp)(E:XK):Cx:=qr (lW P w) P w K mg base N qual scope f cdv A outer s H E
theorem nA:Passes (lW P w) (zw P w K mg base N qual scope f cdv A outer s H E) E:=by
 intro pins σ H₁ s₁ ev s' I h;obtain⟨e,cls,a0,B,H',bb,rfl,os,bare,F,q⟩:=h;show MP _ _ (leaving _ (.ref e)) _ _ s';refine xf (B:=B) I.ok.frames rfl F.fl F.lo fun h'' fl sm lo=>?_;exact⟨e,cls,a0,B,H',bb,rfl,os.trans I.os,bare,va.out I rfl rfl (F.move fl sm lo),q⟩
theorem Ex{pins:List (MB×Obj)}{σ:St}{H₁:Hp}{s₁:MC}{h':MN}{e:MB}{cls:MA}{args:List MA}(I:Inv (zw P w K mg base N qual scope f cdv A outer s H E) pins σ H₁ s₁)
  (M:MN.MadeExcOf s₁.heap h' e cls args) (q:E cls none H₁):(zw P w K mg base N qual scope f cdv A outer s H E).xe (.ref e) {s₁ with heap:=h'}:=by
 obtain⟨t,he,htn,ht⟩:=M.there;show MP _ _ (leaving _ (.ref e)) _ _ _;have st:=I.stack;have ff:=W.funFrames_hide (as:=gw (zw P w K mg base N qual scope f cdv A outer s H E).stack) st fun env hm a ha=>List.mem_filterMap.mpr ⟨env,hm,ha⟩;have hen:(W.hideAll s₁.heap (gw (zw P w K mg base N qual scope f cdv A outer s H E).stack)).get? e=none:=by
  cases z:(W.hideAll s₁.heap (gw (zw P w K mg base N qual scope f cdv A outer s H E).stack)).get? e with
  |none=>rfl
  |some o=>have:=W.of_hideAll _ z;rw[M.new]at this;cases this
 refine xm (b:=none) (B:=W.hideAll s₁.heap (gw (zw P w K mg base N qual scope f cdv A outer s H E).stack)) (a0:= .ref t) I.ok.frames (ff.of_keeps fun b o hb _=>⟨o,M.keeps b o hb,rfl⟩) rfl he (fun b o z=>M.keeps b o (W.of_hideAll _ z)) hen rfl rfl rfl rfl (fun _=>rfl) fun h'' fl k4 lo=>?_;refine⟨e,cls,.ref t,W.hideAll s₁.heap (gw (zw P w K mg base N qual scope f cdv A outer s H E).stack),H₁,none,rfl,I.os,I.bare,va.out I rfl rfl (va.EU (h':=h') (Un.kept M.keeps) (I.bc.kept M.keeps) (ff.of_keeps fun b o hb _=>⟨o,M.keeps b o hb,rfl⟩) (fun b o o' z hb zz=>?_) (fun b u o' z zz=>?_) I.nU fl k4 lo),q⟩
 .have:=M.keeps b o z
  rw[zz]at this;cases this;exact W.hideAll_get _ z hb
 .obtain⟨o1,e1⟩:=(I.bc b u z).here
  have:=M.keeps b o1 e1;rw[zz]at this;cases this;exact W.hideAll_get _ e1 fun hb=>by rw[I.nU b hb]at z;cases z
end
abbrev LM:List MA:=[.type "ValueError",.type "Exception",.type "BaseException",.type "object"]
abbrev oH(K:W.Frag)(C:MB):Prop:=W.excIn K C LM "ValueError.__new__" =true
theorem Ge{K:W.Frag}{h:MN}{mg:Str->Option MA}{x:Str}{C:MB}{bmB:List MA}{newId:String}(X:K.In h)(hm:mg x=some (.ref C))(q:W.excIn K C bmB newId=true):OwnCls x C bmB newId mg h:=by
 refine⟨hm,?_⟩;unfold W.excIn at q
 split at q
 .rename_i dd cd sl ho
  split at q
  .rename_i C' bm k0 k1 k2 k3 n k5 hm hs
   simp only[Bool.and_eq_true,beq_iff_eq,Bool.not_eq_true']at q;obtain⟨⟨⟨⟨⟨rfl,rfl⟩,hdel⟩,ht⟩,bc⟩,hni⟩:=q;obtain⟨nm,bs,mro,ns,qn,hd,sn,sub,ab,col,del⟩:=cd;dsimp only at hm hdel bc hni;subst hm hdel;have hsl:sl= #[k0,k1,k2,k3,some (.builtin n),k5]:=by
    obtain⟨l⟩:=sl;simp only at hs;rw[hs]
   subst hsl;exact⟨bm,ns,nm,qn,bs,hd,sn,sub,ab,col,dd,k0,k1,k2,k3,k5,_,X _ _ ho,.of_isNs (W.isNs_of_in X bc),W.nsMap_none_of_in X bc hni,W.tail_of_in X ht⟩
  .cases q
 .cases q
def Hc(E:XK)(cls:MA)(ta:TA):TS:=fun _ σ H=>ta σ H fun vs H1=>vs.length<=MG/\E cls none H1
section
variable{X:Cx}{E:XK}{C:MB}{x:Str}{np cpos pos:Pos}{e₀:Expr}{rest:List Expr}{ta:TA}
def Lf(X:Cx)(E:XK):Prop:=∀(pins:List (MB×Obj))(σ:St)(H:Hp)(s:MC)(h':MN)(e:MB)(cls:MA)(args:List MA),Inv X pins σ H s->MN.MadeExcOf s.heap h' e cls args->E cls none H->X.xe (.ref e) {s with heap:=h'}
theorem gB(L:Lf X E)(O:oH X.K C)(hc:X.calm=true)(hg:Gl X x)(hm:X.mg x=some (.ref C))(ha:PA X (e₀::rest) ta)(hdb:(x==("__debug__" :Str))=false:=by decide)
  (he:ML (e₀::rest) X.env=(false,eval e₀ X.env)::ML rest X.env:=by rfl) (hpl:(MO cpos (ML rest X.env)).any (·.1)=false:=by rfl):
  PS X (.Raise (some (.Call (.Name x np) (e₀::rest) [] cpos)) none pos) (Hc E (.ref C) ta):=by
 intro pins s σ H D I h;obtain⟨tl,N,nm,q,bs,hdct,sn,sub,ab,col,dd,k0,k1,k2,k3,k5,mN,hC,hN,hni,T⟩:=(Ge I.mod.CU hm O).obj;refine wpAny_Raise_call_subT (C:=C) (nm:=nm) (q:=q) (N:=N) (bs:=bs) (bm:=tl) (hdct:=hdct) (sn:=sn) (sub:=sub) (ab:=ab) (col:=col) (dd:=dd) (k0:=k0) (k1:=k1) (k2:=k2) (k3:=k3) (k5:=k5)
  PySem.F.excBase_ValueError (mN:=mN) (T.hasType (by decide)) (I.ok.hd hc) (by rw[he];show(false||(MO cpos (ML rest X.env)).any (·.1))=false;rw[hpl];rfl) hni (iy I hg hm ⟨rfl,?_⟩ hdb)
 have hq:=ha cpos pins s σ H _ I h;rw[he]at hq⊢;refine Calls.evalArgs_plain (MK hq (fun us s₂ h₂=>?_) fun _ _ y=>y);obtain⟨vs,H2,I2,r,z,ez⟩:=h₂;refine⟨rfl,by rw[←r.length];exact z,I2.bk _ _ hC,hN.keeps I2.bk,T.keeps I2.bk,fun h' e M=>L pins σ H2 s₂ h' e _ _ I2 M ez⟩
end
section
variable{P:MD}{w:ME}{K:W.Frag}{mg:Str->Option MA}{base:MN}{N:List Str}{qual:Str}{scope:Scope}{f:MB}{cdv:MA}{A:MF}{outer:List Env}{s:MC}{H:Hp}{E:XK}
theorem wX:Lf (zw P w K mg base N qual scope f cdv A outer s H E) E:=fun _ _ _ _ _ _ _ _ I M q=>Ex I M q
theorem dJ.HY {x qual:Str}{st:MQ}{f:MB}{fd:MM}{N ps:List Str}{k:Nat}{sp:Sp}(F:dJ K x qual st f fd)(S:aF N ps (au st))(len:∀vs H Q E,sp vs H Q E->vs.length=ps.length)
  (hbody:∀(cdv:MA)(A:MF)(outer:List Env)(s:MC)(H:Hp)(vs:List V)(Q:VK)(E:XK),cQ k (A.deeper (envOfC qual (au st) s.heap.objs.size f cdv))->sp vs H Q E->
   ∃t,pX (zw P w K mg base N qual (au st) f cdv A outer s H E) (de st) t/\t {nx:=fun _ H'=>Q .cE H',rt:=Q} (start N vs) H):aS P w K mg base (lW P w) (k+1) f fd ps sp:=by
 obtain⟨oc,od,kV,doc,pm,an,cdv,ct,osl,rfl,lk,hcd⟩:=F.ex;exact FD lk hcd S len fun A outer s H vs Q E hr hsp=>hbody cdv A outer s H vs Q E hr hsp
end
open PySem PySem.Spec PyProof.Rows PySem.W PySem.Builtin PySem.Builtin.ObjectAttr PySem.Builtin.Getset_descriptor
structure uA(K:Frag)(C:MB):Prop where
 ga:findIn K (.ref C) "__getattribute__" =some (some (.builtin "BaseException.__getattribute__"))
 gt:findIn K (.ref C) "__getattr__" =some none
 fd:findIn K (.ref C) "__class__" =some (some (.builtin "object.__class__"))
 sp:specialIn K (.builtin "object.__class__") "__get__" =some (some (.builtin "getset_descriptor.__get__"))
 tk:takesIn K (.builtin "object.__class__")=some true
 mo:mroIn K C (.type "object")=some true
 mb:mroIn K C (.type "BaseException")=some true
 cl:(clsIn K C).isSome=true
def Ax(h:MN)(x C:MB)(b:Option MB:=none):Prop:=∃ox,h.get? x=some ox/\ox.cls= .ref C/\∃vs c,ox.data= .fields vs/\vs[2]?=some c/\(b=none->c=MA.none)
theorem Ax.type {M:Model}{h:MN}{x C:MB}{bb:Option MB}(I:Ax h x C bb):Looks M h (typeOf (.ref x)) (.ref C):=by
 obtain⟨ox,h1,h2,_⟩:=I;exact h2▸(Looks.ld h1).andThen .now
section
variable{prog:MD}{w:ME}{A:MF}{E:MA->MC->Prop}{s:MC}{K:Frag}{x C:MB}
theorem A0{M:Model}{h:MN}(X:K.In h)(c:uA K C):Looks M h (MS.ObjectAttr.find (.ref x) (.ref C) "__class__") (.bind (.builtin "getset_descriptor.__get__") (.builtin "object.__class__")):=by
 refine(looks_findIn X c.fd).andThen ((looks_specialIn X c.sp).andThen ?_);exact(show Looks M h (MS.ObjectAttr.dataDescriptor? (some (.builtin "object.__class__")) (some (.builtin "getset_descriptor.__get__"))) (some (.builtin "getset_descriptor.__get__",.builtin "object.__class__"))from(looks_takesIn X c.tk).andThen .now).andThen (Looks.tag .now)
theorem qu{bb:Option MB}{R:Result->MC->Prop}{tp:MA}(X:K.In s.heap)(I:Ax s.heap x C bb)(hm:mroIn K C (.type "object")=some true)
  (h:R (.ok (.ret (.ref C))) s):codeAny (model prog w) A (.call (.builtin "getset_descriptor.__get__") ⟨[.builtin "object.__class__",.ref x,tp],[]⟩) R s:=by
 obtain⟨hh,g,dr,t,os⟩:=s;have L0:=I.type (M:=model prog w);have L1:=looks_mroIn (M:=model prog w) X hm;refine codeAny_call_builtin KF.slot_gs.plain KF.entry_gs (KF.slot_gs.check _ _ _ _ _ _ _ _ KF.type_class (KF.args_gs _ _ _) ?_);unfold MS.«getset_descriptor.__get__» descrGet;rw[dga_obj];refine MI (MJ ?_);unfold descrGetter descrCheckInstance descrNameAndClass isInstance;simp only[KF.owner_class]
 repeat lk
 refine⟨Code.quiet_builtin _ (by decide+kernel),codeAny_builtin KF.entry_class ?_⟩;unfold MS.«object.__class__» shownTypeOf
 repeat lk
 exact h
theorem sI{bb:Option MB}{M:Model}{nameV:MA}{Q:Unit->MC->Prop}(c:uA K C)(X:K.In s.heap)(I:Ax s.heap x C bb)(hq:Q () s):MP M A (checkBuiltinCall "BaseException.__getattribute__" ⟨[.ref x,nameV],[]⟩) Q E s:=by
 obtain⟨h,g,d,t,os⟩:=s;have hk:builtinKind "BaseException.__getattribute__" =some .slot:=by decide+kernel
 have hsplit:splitId "BaseException.__getattribute__" =some ("BaseException","__getattribute__"):=by decide+kernel
 have L0:Looks M h (isInstance (.ref x) (.type "BaseException")) true:=I.type.andThen (looks_mroIn X c.mb);have ha:=F.args_bexc_ga (.ref x) nameV;simp only[checkBuiltinCall,hk,hsplit];refine MI (L0.at ?_)
 repeat(any_goals(first|assumption|wp_step))
theorem ph{bb:Option MB}{tk:Tok}{R:Result->MC->Prop}(c:uA K C)(X:K.In s.heap)(I:Ax s.heap x C bb)(h:R (.ok (.ret (.ref C))) s):
  codeAny (model prog w) A (.call (.builtin "BaseException.__getattribute__") ⟨[.ref x,.str "__class__" tk],[]⟩) R s:=by
 refine codeAny_call_builtin F.attrBase_ValueError.ga.plain F.entry_bexc_ga (sI c X I ?_);have L0:=I.type (M:=model prog w);have L1:=A0 (x:=x) (M:=model prog w) X c;obtain⟨hh,gg,d,t,os⟩:=s;unfold MS.«object.__getattribute__»
 repeat(any_goals(first|assumption|with_reducible refine MI (L0.at ?_)|with_reducible refine MI (L1.at ?_)|wp_step))
 exact qu X I c.mo (MJ h)
theorem zj{bb:Option MB}{Q:Option MA->MC->Prop}(c:uA K C)(X:K.In s.heap)(I:Ax s.heap x C bb)(h:Q (some (.ref C)) {s with toks:=s.toks+1}):MP (model prog w) A (getAttr? (.ref x) "__class__") Q E s:=by
 obtain⟨hh,g,d,t,os⟩:=s;have L0:=I.type (M:=model prog w);have L1:=looks_findIn (M:=model prog w) X c.ga;have L2:=looks_findIn (M:=model prog w) X c.gt;have f3:=F.attrBase_ValueError.ga.bind (.ref x);have hx2:(MA.builtin "BaseException.__getattribute__" ==MA.builtin "object.__getattribute__")=false:=by decide+kernel
 have hx1:(onTheHeap (MA.ref C)&&MA.builtin "BaseException.__getattribute__" ==MA.builtin "object.__getattribute__")=false:=by rw[hx2];rfl
 unfold getAttr? getAttrBy? getAttrBy;refine MI (wpAny_mkText (MI (wpAny_attempt (wpAny_holding (MI (L0.at (MI (L1.at ?_))))))));dsimp only;rw[hx1,if_neg Mx];unfold getAttrByItsOwn hookBefore;rw[if_pos (show onTheHeap (MA.ref C)=true from rfl)];refine MI (L2.at ?_);refine MI (wpAny_attempt (wpAny_holding ?_));unfold callGetattribute boundAndCalled;rw[Bool.false_and,if_neg Mx];refine MI (wpAny_of_eq f3 ?_);refine wpAny_call (ph (s:=⟨hh,g,d,t+1,os⟩) c X I ?_);exact handed_on rfl (MJ h)
theorem uo{bb:Option MB}(c:uA K C):KitX K (.ref x) (.ref C) (fun h=>Ax h x C bb)where
 ty:=fun _ _ _ I=>I.type
 it:=fun _ _ X _=>by
  obtain⟨cdD,hcD⟩:=Option.isSome_iff_exists.mp c.cl;unfold clsIn at hcD
  split at hcD
  .rename_i c' d' cd' sl' ho
   intro A' Q' E' s' k q;unfold isType loadHead;exact MI (wpAny_loadPart (k _ _ (X _ _ ho)) (MJ q))
  .cases hcD
 ne:=fun h tp dd its n sl X htp=>by
  obtain⟨cdD,hcD⟩:=Option.isSome_iff_exists.mp c.cl;refine Bool.eq_false_iff.mpr fun q=>?_;have e:C=tp:=MA.ref.inj (beq_iff_eq.mp q);subst e;unfold clsIn at hcD
  split at hcD
  .rename_i c' d' cd' sl' ho
   have z:=(X _ _ ho).symm.trans htp;cases z
  .cases hcD
 ca:=fun X I k=>zj c X I k
end
abbrev HO.exc (e C:MB)(bb:Option MB:=none):HO:= .ext fun h=>Ax h e C bb
theorem Ax.ok {P:MD}{w:ME}{H:Hp}{e C:MB}{h:MN}{bb:Option MB}(x:Ax h e C bb):bH P w H h e (.exc e C bb):=by
 obtain⟨ox,h1,h2,_⟩:=id x;refine⟨x,⟨ox,h1⟩,fun g1 g2 p k=>?_⟩;obtain⟨oy,a1,a2⟩:=p;exact⟨oy,k _ a1,a2⟩
def HZ(K:Frag):List V->Hp->VK->Prop:=fun xs H Q=>∃(e C:MB)(c:V)(cv:MA)(b:Bool),xs=[.ref e,c]/\H e=some (.exc e C)/\uA K C/\(∀u,RelV c u->u=cv)/\kitOne K (.ref C) cv=some b/\Q (.bl b) H
theorem HX{X:Cx}{K:Frag}(hK:X.K=K):bX X (.builtin "isinstance") (HZ K):=by
 subst hK;intro pins s σ H xs us Q I r h;obtain⟨e,C,c,cv,b,rfl,he,ci,hc,hb,q⟩:=h
 match us,r with
 |[u1,u2],.cons r1 (.cons r2 .nil)=>
  obtain rfl:u1= .ref e:=r1;obtain rfl:=hc _ r2;obtain⟨x,_,_⟩:=I.bc e _ he;exact kia_one (uo ci) I.je x hb (fun z=>nomatch z) fun tk=>⟨.bl b,H,I.tok tk,rfl,q⟩
def Gq(K:Frag):List V->Hp->VK->Prop:=fun xs H Q=>∃(e C:MB)(bb:Option MB)(c:V)(cv:MA)(b:Bool),xs=[.ref e,c]/\H e=some (.exc e C bb)/\uA K C/\(∀u,RelV c u->u=cv)/\kitOne K (.ref C) cv=some b/\Q (.bl b) H
theorem bE{X:Cx}{K:Frag}(hK:X.K=K):bX X (.builtin "isinstance") (Gq K):=by
 subst hK;intro pins s σ H xs us Q I r h;obtain⟨e,C,bb,c,cv,b,rfl,he,ci,hc,hb,q⟩:=h
 match us,r with
 |[u1,u2],.cons r1 (.cons r2 .nil)=>
  obtain rfl:u1= .ref e:=r1;obtain rfl:=hc _ r2;obtain⟨x,_,_⟩:=I.bc e _ he;exact kia_one (uo ci) I.je x hb (fun z=>nomatch z) fun tk=>⟨.bl b,H,I.tok tk,rfl,q⟩
structure DN(K:Frag)(C D:MB)(b:Bool):Prop where
 ty:typeIn K (.ref D)=some (.type "type")
 cd:(clsIn K D).isSome=true
 mb:mroIn K D (.type "BaseException")=some true
 mc:mroIn K C (.ref D)=some b
section
variable{M:Model}{A:MF}{E:MA->MC->Prop}{s:MC}{K:Frag}{e C D:MB}{b:Bool}
theorem zt{h:MN}(X:K.In h)(c:(clsIn K D).isSome=true):Looks M h (isType (.ref D)) true:=by
 obtain⟨cdD,hcD⟩:=Option.isSome_iff_exists.mp c;unfold clsIn at hcD
 split at hcD
 .rename_i c' d' cd' sl' ho
  intro A' Q' E' s' k q;unfold isType loadHead;exact MI (wpAny_loadPart (k _ _ (X _ _ ho)) (MJ q))
 .cases hcD
theorem mZ{bb:Option MB}{Q:Bool->MC->Prop}(m:DN K C D b)(X:K.In s.heap)(I:Ax s.heap e C bb)(hq:Q b s):MP M A (excMatches (.ref e) (.ref D)) Q E s:=by
 obtain⟨h,g,d,t,os⟩:=s;have L1:Looks M h (isInstance (.ref D) (.type "tuple")) false:=(looks_typeIn X m.ty).andThen (Looks.of_pure tc_notTuple);have L2:=zt (M:=M) X m.cd;have L3:=looks_mroIn (M:=M) X m.mb;have L4:=I.type (M:=M);have L5:=looks_mroIn (M:=M) X m.mc;have L6:Looks M h (isExcClass (.ref D)) true:=L2.andThen L3;unfold excMatches;refine MI (L1.at ?_);rw[if_neg Mx];refine MI (MJ ?_);simp only[List.forIn_cons,List.forIn_nil];refine MI (MI (MI (L6.at ?_)));simp only[Bool.not_true,Bool.false_eq_true,if_false];refine MJ (MJ (MI (L4.at ?_)));refine MI (MI (MI (L5.at ?_)));cases b
 .exact MJ (MJ (MJ hq))
 .exact MJ (MJ (MJ hq))
end
def kF(X:Cx)(pins:List (MB×Obj))(σ:St)(H:Hp)(s:MC)(e:MB)(cls:MA)(bb:Option MB:=none):Prop:=
 ∃(H₁:Hp)(s₁:MC)(B:MN)(a0:MA),Inv X pins σ H₁ s₁/\s.os=s₁.os/\AllBare s.gens/\va X.prog X.w X.stack H₁ s₁.heap e cls a0 B H s.heap bb
section
variable{X:Cx}{pins:List (MB×Obj)}{σ:St}{H:Hp}{s:MC}{e:MB}{cls:MA}{bb:Option MB}
theorem kF.inv (h:kF X pins σ H s e cls bb):Inv X pins σ H s:=by
 obtain⟨H₁,s₁,B,a0,I,os,bare,F⟩:=h;exact I.Bi (ch:=[]) os F.un F.bc bare fun b z=>absurd z (by simp)
theorem kF.KP {C:MB}(h:kF X pins σ H s e (.ref C) bb):Ax s.heap e C bb:=by
 obtain⟨H₁,s₁,B,a0,I,os,bare,F⟩:=h;obtain⟨o,h1,h2⟩:=F.fl.there;obtain⟨o',vs,c,g1,g2,g3,g4⟩:=F.lo;rw[h1]at g1;cases g1;exact⟨o,h1,h2,vs,c,g2,g3,g4⟩
theorem kF.free (h:kF X pins σ H s e cls bb):H e=none:=by
 obtain⟨H₁,s₁,B,a0,I,os,bare,F⟩:=h
 cases q:H e with
 |none=>rfl
 |some u=>
  obtain⟨o,ho⟩:=(F.bc e u q).here;have:=F.t8 e u o q ho;rw[F.fl.2.1]at this;cases this
theorem kF.lands {M:Model}{A:MF}{E:MA->MC->Prop}{Q:Unit->MC->Prop}(h:kF X pins σ H s e cls bb)(k:∀h',kF X pins σ H {s with heap:=h'} e cls bb->Q () {s with heap:=h'}):MP M A (setFlight (.ref e) none) Q E s:=by
 obtain⟨H₁,s₁,B,a0,I,os,bare,F⟩:=h;exact iq F.fl.1 F.fl.2.1 F.fl.2.2.1 F.fl.2.2.2.at F.lo fun h' fl sm lo=>k h' ⟨H₁,s₁,B,a0,I,os,bare,F.move fl sm lo⟩
theorem kF.ze {C:MB}(h:kF X pins σ H s e (.ref C) bb):Inv X pins σ (upd H e (.exc e C bb)) s:=by
 have hf:=h.free;have hx:=h.KP;obtain⟨H₁,s₁,B,a0,I,os,bare,F⟩:=h;have new:s₁.heap.get? e=none:=by
  cases q:s₁.heap.get? e with
  |none=>rfl
  |some o=>
   obtain⟨o',ho'⟩:=F.un.there e o q (by simp);by_cases hb:e∈gw X.stack
   .obtain⟨_,o2,e2,nf⟩:=F.fl.2.2.1.mem hb
    obtain⟨oe,vs,T,oT,ts,he,_,hd,_⟩:=F.fl.2.2.2;rw[he]at e2;cases e2;exact absurd hd (nf vs)
   .have:=F.old e o o' q hb ho'
    rw[F.fl.2.1]at this;cases this
 have ne:∀b o,s₁.heap.get? b=some o->b≠e:=fun b o q z=>by rw[z,new]at q;cases q
 have nt:∀b u,H b=some u->b≠e:=fun b u q z=>by rw[z,hf]at q;cases q
 refine I.Bi (ch:=[]) os ⟨F.un.keep,F.un.slot,fun b o q n hx=>?_,F.un.there,fun b xs q=>?_,fun b o u q=>?_,fun b ps q=>?_⟩ (fun b u q=>?_) bare fun b z=>absurd z (by simp)
 .rw[ao (ne b o q)];exact F.un.free b o q n hx
 .have:=F.un.bI b xs q
  rw[ao (nt b _ this)];exact this
 .have:=F.un.iF b o u q
  rw[ao (nt b _ this)];exact this
 .obtain⟨m,e1⟩:=F.un.i6 b ps q
  exact⟨m,by rw[ao (nt b _ e1)];exact e1⟩
 .by_cases hb:b=e
  .subst hb
   rw[ae]at q;cases q;exact hx.ok
  .rw[ao hb]at q
   exact(F.bc b u q).jq (fun _ _ _ z=>z) (fun c z=>by rw[ao (nt c _ z)];exact z) fun c xs z=>by rw[ao (nt c _ z)];exact z
end
abbrev Xh(X:Cx)(e:MB):Cx:={X with A:=X.A.mark (some (.ref e)),calm:=false,xe:=fun _ _=>False}
section
variable{X:Cx}{pins:List (MB×Obj)}{σ:St}{H:Hp}{s:MC}{e:MB}{D:Ends}
theorem Inv.J7 (I:Inv X pins σ H s)(e:MB):Inv (Xh X e) pins σ H s:=
 ⟨⟨I.ok.mod,I.ok.kind,I.ok.glob,I.ok.blt,I.ok.above,I.ok.inj,I.ok.has,I.ok.CA,(fun h=>Bool.noConfusion h),I.ok.frames,I.ok.Av,I.ok.EV,I.ok.bs,I.ok.yZ,I.ok.pL,I.ok.qc,I.ok.iJ,I.ok.nS⟩,I.os,I.bare,I.base,I.loc,I.cell,I.free,I.fE,I.pin,I.bc,I.len⟩
theorem Inv.FX (I:Inv (Xh X e) pins σ H s)(ok:X.Ok):Inv X pins σ H s:=⟨ok,I.os,I.bare,I.base,I.loc,I.cell,I.free,I.fE,I.pin,I.bc,I.len⟩
theorem SP.FX {f:Flow}{s':MC}(h:SP (Xh X e) pins D f s')(ok:X.Ok):SP X pins D f s':=by
 cases f with
 |next=>obtain⟨σ',H',I,q⟩:=h;exact⟨σ',H',I.FX ok,q⟩
 |brk=>obtain⟨σ',H',I,q⟩:=h;exact⟨σ',H',I.FX ok,q⟩
 |cont=>obtain⟨σ',H',I,q⟩:=h;exact⟨σ',H',I.FX ok,q⟩
 |ret u=>obtain⟨v,σ',H',I,r,q⟩:=h;exact⟨v,σ',H',I.FX ok,r,q⟩
theorem n4{M:Model}{A:MF}{E:MA->MC->Prop}{i:Nat}{x:Str}{pos:Pos}{Q:Unit->MC->Prop}(I:Inv X pins σ H s)(hN:X.N.Nodup)(hi:X.N[i]?=some x)(hk:X.env.scope.names.lookup x=some .local)
  (h:∀s',Inv X pins (σ.set i none) H s'->Q () s'):MP M A (do bindName X.env x .none;unbindBehindTheSuite X.env x pos) Q E s:=by
 obtain⟨m,hn,hl⟩:=id I.loc;have hcls:(X.env.scope.kind== .class||(X.env.scope.kind== .module&&X.env.locals !=X.env.globals))=false:=by rw[I.ok.kind];rfl
 have hiσ:i<σ.length:=by rw[I.len];exact(List.getElem?_eq_some_iff.mp hi).1
 have B7:=I.B7;obtain⟨oL,_,_,hoL,_⟩:=id hn;refine wpAny_nameGoes_keeps hk hn hcls fun h' v hn' hs=>?_;refine h _ ⟨I.ok,I.os,I.bare,⟨fun b o e n hb hx=>?_,fun b o e n hb hx=>?_,I.base.free,fun b o e hx=>?_,I.base.bI,I.base.iF,I.base.i6⟩,⟨_,hn',fun j y v' e1 e2 e3=>?_⟩,fun y c e=>?_,I.free,I.fE,fun p hp=>?_,fun b ob e=>?_,by simpa using I.len⟩
 .exact(hs.2 b (Mu (Mt (MN.lt_size e) I.ok.above))).trans (I.base.keep b o e n hb hx)
 .obtain⟨sl,e1⟩:=I.base.slot b o e n hb hx
  exact⟨sl,(hs.2 b (Mu (Mt (MN.lt_size e) I.ok.above))).trans e1⟩
 .obtain⟨o',e1⟩:=I.base.there b o e hx
  exact⟨o',(hs.2 b (Mu (Mt (MN.lt_size e) I.ok.above))).trans e1⟩
 .by_cases hj:j=i
  .subst hj
   rw[List.getElem?_set_self hiσ]at e2;cases e2
  .rw[List.getElem?_set_ne (Ne.symm hj)]at e2
   obtain⟨u',r',q⟩:=hl j y v' e1 e2 e3;refine⟨u',r',?_⟩;rcases q with⟨k,e⟩|⟨k,c,e,z⟩
   .refine .inl ⟨k,?_⟩
    have:y≠x:=fun e=>hj (o5 hN e1 (e▸hi));simp[this,e]
   .exact .inr ⟨k,c,e,z.sameBut hs (B7 y c e)⟩
 .obtain⟨w',z⟩:=I.cell y c e
  exact⟨w',z.sameBut hs (B7 y c e)⟩
 .obtain⟨e,n,ne,nf,d⟩:=I.pin p hp
  exact⟨(hs.2 p.1 ne).trans e,n,ne,nf,d⟩
 .refine(I.bc b ob e).jq (fun c w' hc q=>(hs.2 c ?_).trans q) (fun _ q=>q) fun _ _ q=>q
  rintro rfl;rcases hc with rfl|hc
  .rw[I.free]at e;cases e
  .rw[I.free]at hc;cases hc
end
abbrev TH:=Ends->St->MA->MB->Hp->Prop
def PH(X:Cx)(hs:List ExceptHandler)(th:TH):Prop:=
 ∀(pins:List (MB×Obj))(s:MC)(σ:St)(H:Hp)(D:Ends)(e:MB)(cls:MA),kF X pins σ H s e cls->th D σ cls e H->MP (model X.prog X.w) X.A (handleBy (.ref e) X.env hs) (SP X pins D) X.xe s
def Fn:TH:=fun _ _ _ _ _=>False
def LI(K:Frag)(D:MB)(ts:TS)(th:TH):TH:=fun Dn σ cls e H=>∃C b,cls= .ref C/\DN K C D b/\if b=true then ts Dn σ H else th Dn σ cls e H
section
variable{X:Cx}{hs:List ExceptHandler}{th:TH}{ts:TS}{D:MB}{x n:Str}{np pos:Pos}{b₀:MQ}{suite:List MQ}{i:Nat}
theorem HG:PH X [] Fn:=fun _ _ _ _ _ _ _ _ h=>h.elim
theorem Ec(hg:Gl X x)(hm:X.mg x=some (.ref D))(hb:∀e,pX (Xh X e) (b₀::suite) ts)(hr:PH X hs th)(hdb:(x==("__debug__" :Str))=false:=by decide):
  PH X (.ExceptHandler (some (.Name x np)) none (b₀::suite) pos::hs) (LI X.K D ts th):=by
 intro pins s σ H Dn e cls hh h;obtain⟨C,b,rfl,m,h⟩:=h;have I:=hh.inv;refine wpAny_handleBy_cons (codeAny_handlers_test (iy (X:=Xh X e) (I.J7 e) hg hm ?_ hdb)) (by intro q;cases q);refine mZ m I.je hh.KP ?_
 cases b with
 |false=>exact hr pins s σ H Dn e _ hh (by rw[if_neg Mx]at h;exact h)
 |true=>
  rw[if_pos rfl]at h;refine codeAny_handlers_suite (hh.lands fun h' hh'=>?_);exact MK (hb e pins _ σ H Dn (hh'.inv.J7 e) h) (fun f s₂ z=>z.FX I.ok) fun _ _ z=>False.elim z
end
def Ls(X:Cx)(pins:List (MB×Obj))(Es:St->XK):MA->MC->Prop:=fun ev s'=>∃(σ:St)(H₁:Hp)(s₁:MC),Inv X pins σ H₁ s₁/\lW X.prog X.w X.stack H₁ s₁ (Es σ) ev s'
abbrev Xt(X:Cx)(pins:List (MB×Obj))(Es:St->XK):Cx:={X with pn:=X.pn++pins,xe:=Ls X pins Es}
def K0(tb:(St->XK)->TS)(th:TH):TS:=fun D σ H=>tb (fun σ' cls bb H'=>match bb with|none=>∀e,H' e=none->th D σ' cls e H'|some _=>False) D σ H
section
variable{X:Cx}{pins:List (MB×Obj)}{Es:St->XK}{σ:St}{H:Hp}{s:MC}
theorem Inv.toT (I:Inv X pins σ H s):Inv (Xt X pins Es) [] σ H s:=
 ⟨⟨I.ok.mod,I.ok.kind,I.ok.glob,I.ok.blt,I.ok.above,I.ok.inj,I.ok.has,I.ok.CA,I.ok.hd,I.ok.frames,I.ok.Av,I.ok.EV,I.ok.bs,I.ok.yZ,I.ok.pL,I.ok.qc,I.ok.iJ,I.ok.nS⟩,I.os,I.bare,I.base,I.loc,I.cell,I.free,I.fE,fun p hp=>I.pin p (by simpa using hp),I.bc,I.len⟩
theorem Inv.ofT {ps':List (MB×Obj)}(I:Inv (Xt X pins Es) ps' σ H s):Inv X pins σ H s:=
 ⟨⟨I.ok.mod,I.ok.kind,I.ok.glob,I.ok.blt,I.ok.above,I.ok.inj,I.ok.has,I.ok.CA,I.ok.hd,I.ok.frames,I.ok.Av,I.ok.EV,I.ok.bs,I.ok.yZ,I.ok.pL,I.ok.qc,I.ok.iJ,I.ok.nS⟩,I.os,I.bare,I.base,I.loc,I.cell,I.free,I.fE,fun p hp=>I.pin p (Ml _ hp),I.bc,I.len⟩
theorem SP.ofT {D:Ends}{f:Flow}{s':MC}(h:SP (Xt X pins Es) [] D f s'):SP X pins D f s':=by
 cases f with
 |next=>obtain⟨σ',H',I,q⟩:=h;exact⟨σ',H',I.ofT,q⟩
 |brk=>obtain⟨σ',H',I,q⟩:=h;exact⟨σ',H',I.ofT,q⟩
 |cont=>obtain⟨σ',H',I,q⟩:=h;exact⟨σ',H',I.ofT,q⟩
 |ret u=>obtain⟨v,σ',H',I,r,q⟩:=h;exact⟨v,σ',H',I.ofT,r,q⟩
theorem GK{body:List MQ}{h₀:ExceptHandler}{hs:List ExceptHandler}{pos:Pos}{tb:(St->XK)->TS}{th:TH}(hb:∀pins Es,pX (Xt X pins Es) body (tb Es))(hh:PH X (h₀::hs) th)
  (hst:X.stack=X.env::X.outer:=by rfl) (hfr:X.env.frame=some X.env.locals:=by rfl):PS X (.Try body (h₀::hs) [] [] pos) (K0 tb th):=by
 intro pins s σ H D I h;refine wpAny_Try_except (MK (hb pins _ [] s σ H D I.toT h) (fun f s₁ z=>?_) fun ev s₁ z=>?_)
 .have z:=z.ofT
  cases f with
  |next=>exact wpAny_execs_nil z
  |brk=>exact z
  |cont=>exact z
  |ret u=>exact z
 .obtain⟨σ',H₁,s₁',I',e,cls,a0,B,H',bb,rfl,os,bare,F,q⟩:=z
  cases bb with
  |some _=>exact False.elim q
  |none=>
  have ff:=I'.ok.frames;have fl:=F.fl;rw[hst]at ff fl;refine mD ff hfr fl F.lo fun h₄ held sm lo=>?_;refine iq (s:={s₁ with heap:=h₄}) held.1 held.2.1 held.2.2.1 held.2.2.2 lo fun h₅ fl5 sm5 lo5=>?_;have hd:kF X pins σ' H' {s₁ with heap:=h₅} e cls:=⟨H₁,s₁',B,a0,I',os,bare,F.move (by rw[hst];exact fl5) (sm.trans sm5) lo5⟩;exact hh pins _ σ' H' D e cls hd (q e hd.free)
end
structure kh(P:MD)(w:ME)(K:W.Frag)(mg:Str->Option MA)(base:MN)(x:Str)(k:Nat)(ps:List Str)(sp:Sp):Prop where
 ex:∃(f:MB)(fd:MM),aS P w K mg base (lW P w) k f fd ps sp/\mg x=some (.ref f)/\W.keepIn K (.ref f)=true/\Binds K fd ps []
section
variable{X:Cx}{x:Str}{k:Nat}{ps:List Str}{sp:Sp}{e:Expr}{es:List Expr}{t:TA}{p pos:Pos}
theorem iw{E:XK}(F:kh X.prog X.w X.K X.mg X.base x k ps sp)(hx:Passes (lW X.prog X.w) X E)(hr:cQ k X.A)(hg:Gl X x)(ha:PA X (e::es) t)(hdb:(x==("__debug__" :Str))=false:=by decide+kernel)(he:ML (e::es) X.env=(false,eval e X.env)::ML es X.env:=by rfl)(hpl:(MO pos (ML es X.env)).any (·.1)=false:=by rfl):
  PE X (.Call (.Name x p) (e::es) [] pos) (vE sp [] E t):=by
 obtain⟨f,fd,F,hm,hk,hb⟩:=F.ex;exact yJ F hr hg hm hk hb .nil hx ha hdb he hpl
end
open PySem PySem.Spec PyProof.Rows PySem.SeqAt
theorem fN{X:Cx}{x:Str}{C:MB}{pos:Pos}(hg:Gl X x)(hm:X.mg x=some (.ref C))(hd:(x==("__debug__" :Str))=false:=by decide):PE X (.Name x pos) (tC (.ref C)):=di (v:= .ref C) hg hm rfl hd
section
variable{X:Cx}{K:W.Frag}
def Dz(K:W.Frag):V->List V->Hp->VK->Prop:=fun x vs H Q=>∃(l:MB)(bs:List Bool)(b:Bool),x= .ref l/\vs=[.bl b]/\H l=some (.lst (bs.map V.bl))/\Q (.int (bs.count b:Nat)) H
theorem zP(hK:X.K=K):zW X "list.count" (Dz K):=by
 subst hK;intro pins s σ H x vs v us Q I rx rv h;obtain⟨l,bs,b,rfl,rfl,hH,q⟩:=h;cases rx;obtain⟨u,rfl,ru⟩:=rv.one;cases(show u=MA.bool b from ru);obtain⟨z,its,n,r,hl,e⟩:=I.qk hH;have eq:=iG r;subst eq;refine call_meets F.slot_list_count ⟨_,e,rfl⟩ F.entry_list_count (F.args_list_count_2 _ _) (list_countAt l _ n none #[] (.bool b) (fun y=>y== .bool b)) ⟨e,fun y hy=>?_,?_⟩
 .obtain⟨c,_,rfl⟩:=List.mem_map.mp (Array.mem_def.mp hy)
  have:((MA.bool c==MA.bool b):Bool)=(c==b):=by cases c<;>cases b<;>rfl
  rw[this];exact EqAt.bool_bool c b
 .refine⟨.int (bs.count b:Nat),H,I.tok _,⟨s.toks,?_⟩,q⟩
  have:∀l:List Bool,(l.map MA.bool).countP (fun y=>y== .bool b)=l.count b:=fun l=>by
   rw[List.countP_map,List.count];congr 1;funext c;cases c<;>cases b<;>rfl
  simp only[List.toList_toArray];rw[this]
end
section
variable{X:Cx}{K:W.Frag}
def Dt:V->List V->Hp->VK->Prop:=fun x vs H Q=>∃(l:MB)(xs:List V)(i:Int)(y:V),x= .ref l/\vs=[.int i,y]/\H l=some (.lst xs)/\0<=i/\i<=xs.length/\xs.length<=1000000/\Q .cE (upd H l (.lst (xs.take i.toNat++y::xs.drop i.toNat)))
theorem Hf(its:List MA)(k:Nat)(y:MA):(its.toArray.extract 0 k).push y++its.toArray.extract k=(its.take k++y::its.drop k).toArray:=by
 apply Array.toList_inj.mp;simp[Mi]
theorem Ag:zW X "list.insert" Dt:=by
 intro pins s σ H x vs v us Q I rx rv h;obtain⟨l,xs,i,y,rfl,rfl,hH,h0,h1,hz,q⟩:=h;cases rx;obtain⟨u,u',rfl,⟨t,rfl⟩,ru⟩:=vals2 rv;obtain⟨z,its,n,r,hl,e⟩:=I.qk hH;have big:(10000000:Nat)<=MG:=by decide
 refine call_meets F.slot_list_insert ⟨_,e,rfl⟩ F.entry_list_insert (F.args_list_insert_3 _ _ _) (PySem.AutoSeq1.list_insert_list_int_val_1 l its.toArray n i t u' (by rw[fitsIndex_both (by lia) (by lia)];simp) (by rw[Mm];lia)) ⟨e,?_⟩;refine⟨.cE,_,I.Dc (its':=its.take i.toNat++u'::its.drop i.toNat) hH e ?_ ((r.take _).append (.cons ru (r.drop _))) ?_,rfl,q⟩
 .dsimp only
  rw[if_neg (by lia)];have:min i.toNat its.toArray.size=i.toNat:=by rw[Mm];lia
  rw[this];exact Hf its _ u'
 .rw[LY,Ma,L8,List.length_drop]
  lia
end
theorem ju{c k p es env}:ML (.Constant c k p::es) env=(false,eval (.Constant c k p) env)::ML es env:=rfl
theorem aL{x p es env}:ML (.Name x p::es) env=(false,eval (.Name x p) env)::ML es env:=rfl
theorem mq{a o b p es env}:ML (.BinOp a o b p::es) env=(false,eval (.BinOp a o b p) env)::ML es env:=rfl
theorem Fi{o b p es env}:ML (.UnaryOp o b p::es) env=(false,eval (.UnaryOp o b p) env)::ML es env:=rfl
theorem cj{f a k p es env}:ML (.Call f a k p::es) env=(false,eval (.Call f a k p) env)::ML es env:=rfl
theorem kq{a b p es env}:ML (.Subscript a b p::es) env=(false,eval (.Subscript a b p) env)::ML es env:=rfl
def GS:Expr->Option V
 | .Constant (.int i) _ _=>some (.int i)
 | .Constant (.str s) _ _=>some (.str s)
 |_=>none
def yn:List Expr->Option (List V)
 |[]=>some []
 |e::es=>match GS e,yn es with
  |some v,some vs=>some (v::vs)
  |_,_=>none
def Dk(vs:List V):TA:=fun _ H Q=>Q vs H
theorem jN{X:Cx}:∀(es:List Expr)(vs:List V),yn es=some vs->PA X es (Dk vs)
 |[],vs,h=>by cases h;exact af
 |e::es,vs,h=>by
  unfold yn at h
  cases h1:GS e with
  |none=>rw[h1]at h;cases h
  |some v=>
   cases h2:yn es with
   |none=>rw[h1,h2]at h;cases h
   |some ws=>
    rw[h1,h2]at h;cases h;have ih:=jN (X:=X) es ws h2;unfold GS at h1
    split at h1
    .cases h1
     exact aa ai ih ju
    .cases h1
     exact aa az ih ju
    .cases h1
end L2
namespace Sw
open PySem L2
def top(i:Nat):MQ:=PySem.Challenge.pw_swapstars_k74_a_desk_told.main.body.getD i (.Pass ⟨0,0,0,0⟩)
theorem HV(b:Bool): -(2^64)<(if b=true then(1:Int)else 0)/\(if b=true then(1:Int)else 0)<2^64/\0<=(if b=true then(1:Int)else 0):=by cases b<;>decide
structure br(H:Hp)(p:MB)(c:Nat):Prop where
 ex:∃(a b d:Int),H p=some (.lst [.int a,.int b,.int d])/\0<=a/\0<=b/\b<2147483647/\0<=d/\d<=c/\c<=100000
def yV(K:W.Frag):Sp:=fun vs H Q _=>∃(a:MB)(ns:List Int)(i:Int),vs=[.ref a,.int i]/\aG K H a (ns.map V.int)/\0<=i/\i<=1000/\∀p H',H p=none->br H' p 0->ah H H'->Q (.ref p) H'
def jD:Sp:=fun vs H Q _=>∃(p:MB)(c:Nat)(m:Int),vs=[.ref p,.int m]/\br H p c/\c<100000/\0<m/\m<2^200/\∀r H',0<=r->r<m->br H' p (c+1)->aP p H H'->Q (.int r) H'
section
variable{P:MD}{w:ME}{K:W.Frag}{mg:Str->Option MA}{base:MN}
theorem eK:aF ["_law_purse_here","_law_many","_law_turn","_law_one","_law_other","_law_digit"] ["_law_purse_here","_law_many"] (au (top 117)):=⟨rfl,rfl,rfl,by decide+kernel,rfl,by decide+kernel,by decide+kernel⟩
theorem Dy{f:MB}{fd:MM}(F:dJ K "_law_take" "_law_take" (top 117) f fd):aS P w K mg base fQ 1 f fd ["_law_purse_here","_law_many"] jD:=by
 refine F.ok eK (fun vs H Q E h=>?_) (fun cdv A outer s H vs Q E hr h=>?_)
 .obtain⟨p,c,m,rfl,_⟩:=h
  rfl
 .obtain⟨p,c,m,rfl,⟨a,b,d,hp,ha,hb,hb2,hd,hdc,hc0⟩,hc,hm,hm2,k⟩:=h
  refine⟨_,(ag (aQ (aE mV (aO (ax (K:=K) rfl) (pv 0) ai (fun _ _=>rfl)) ai (aH _)) (ag (aw (i:=5) eK.nd rfl (Or.inl rfl) (av dU (aO (ax (K:=K) rfl) (pv 0) ai (fun _ _=>rfl)) (pv 1)))
   (ag (mB (av vn (aO (ax (K:=K) rfl) (pv 0) ai (fun _ _=>rfl)) (pv 1)) (oY (pv 0) ai set_list))
   (aj (aA (pv 5))))) aB)
   (ag (mB (av bp (aO (ax (K:=K) rfl) (pv 0) ai (fun _ _=>rfl)) ai) (oY (pv 0) ai set_list))
   (ag (aw (i:=2) eK.nd rfl (Or.inl rfl) (aO (ax (K:=K) rfl) (pv 0) ai (fun _ _=>rfl)))
   (ag (aw (i:=3) eK.nd rfl (Or.inl rfl) (av dU (av xB (av bp (av bp (aO (ax (K:=K) rfl) (pv 0) ai (fun _ _=>rfl)) (av jj (av jj ai (pv 2)) (pv 2))) ai) ai) ai))
   (ag (aw (i:=4) eK.nd rfl (Or.inl rfl) (av dU (av xB (av bp (av jj (pv 3) (av bp (av jj ai (pv 2)) ai)) (pv 2)) ai) ai))
   (aj (aA (av dU (av vn (av bp (av jj (pv 3) ai) (pv 4)) ai) (pv 1))))))))),?_⟩
  refine⟨_,rfl,p,_,_,_,rfl,rfl,aG.of hp,rfl,_,_,rfl,rfl,_,rfl,?_⟩;refine dD (fun _=>?_) (fun _=>?_)
  .refine⟨_,rfl,p,_,_,_,rfl,rfl,aG.of hp,rfl,_,rfl,_,_,rfl,rfl,hm,?_⟩
   refine⟨_,rfl,p,_,_,_,rfl,rfl,aG.of hp,rfl,_,rfl,_,_,rfl,rfl,⟨hm,hm2⟩,_,rfl,p,_,_,0,rfl,rfl,hp,rfl,?_⟩;refine⟨_,rfl,?_⟩;exact k _ _ (Int.emod_nonneg _ (by lia)) (Int.emod_lt_of_pos _ hm) ⟨_,_,_,ae,Int.ediv_nonneg ha (by lia),hb,hb2,hd,by lia,by lia⟩ aP.upd
  .refine⟨_,rfl,p,_,_,_,rfl,rfl,aG.of hp,rfl,_,_,rfl,rfl,_,rfl,p,_,_,2,rfl,rfl,hp,rfl,?_⟩
   have h1:upd H p (.lst [.int a,.int b,.int (d+1)]) p=some (.lst [.int a,.int b,.int (d+1)]):=ae;refine⟨_,rfl,p,_,_,_,rfl,rfl,aG.of h1,rfl,?_⟩;have posM:(0:Int)<2147483647:=by decide
   have posN:(0:Int)<998244353:=by decide
   have t0:0<=d+1:=by lia
   have t1:d+1<=200000:=by lia
   have t2:0<=48271*(d+1)*(d+1):=Int.mul_nonneg (by lia) t0;have t3:48271*(d+1)*(d+1)<=48271*200000*200000:=Int.mul_le_mul (by lia) t1 t0 (by lia);refine⟨_,rfl,p,_,_,_,rfl,rfl,aG.of h1,rfl,_,rfl,_,_,rfl,rfl,.inl ⟨by lia,by lia⟩,_,rfl,_,_,rfl,rfl,.inr ⟨by lia,by lia⟩,_,_,rfl,rfl,_,_,rfl,rfl,_,_,rfl,rfl,⟨by lia,by lia,by lia⟩,_,_,rfl,rfl,posM,?_⟩;have o0:0<=((b+48271*(d+1)*(d+1)+1)^Int.toNat 5%2147483647):=Int.emod_nonneg _ (by decide);have o1:((b+48271*(d+1)*(d+1)+1)^Int.toNat 5%2147483647)<2147483647:=Int.emod_lt_of_pos _ (by decide);have u0:0<=((b+48271*(d+1)*(d+1)+1)^Int.toNat 5%2147483647)*(2*(d+1)+30011):=Int.mul_nonneg o0 (by lia);have u1:((b+48271*(d+1)*(d+1)+1)^Int.toNat 5%2147483647)*(2*(d+1)+30011)<=2147483647*430011:=Int.mul_le_mul (by lia) (by lia) (by lia) (by lia);refine⟨_,rfl,_,rfl,_,_,rfl,rfl,.inl ⟨by lia,by lia⟩,_,_,rfl,rfl,_,_,rfl,rfl,.inl ⟨by lia,by lia⟩,_,rfl,_,_,rfl,rfl,_,_,rfl,rfl,⟨by lia,by lia,by lia⟩,_,_,rfl,rfl,posN,?_⟩;refine⟨_,rfl,_,_,rfl,rfl,.inl ⟨by lia,by lia⟩,_,rfl,_,_,rfl,rfl,_,_,rfl,rfl,⟨by decide,by decide⟩,_,rfl,_,_,rfl,rfl,hm,?_⟩;exact k _ _ (Int.emod_nonneg _ (by lia)) (Int.emod_lt_of_pos _ hm) ⟨_,_,_,h1,ha,hb,hb2,t0,by lia,by lia⟩ aP.upd
structure xG(mg:Str->Option MA):Prop where
 bP:mg "len" =none
 Jk:mg "abs" =none
 ua:mg "int" =none
theorem eZ:aF ["_law_script","_law_at","_law_cell","_law_far"] ["_law_script","_law_at"] (au (top 116)):=⟨rfl,rfl,rfl,by decide+kernel,rfl,by decide+kernel,by decide+kernel⟩
theorem BZ{f:MB}{fd:MM}(F:dJ K "_law_purse" "_law_purse" (top 116) f fd)(T:xG mg):aS P w K mg base fQ 1 f fd ["_law_script","_law_at"] (yV K):=by
 refine F.ok eZ (fun vs H Q E h=>?_) (fun cdv A outer s H vs Q E hr h=>?_)
 .obtain⟨a,ns,i,rfl,_⟩:=h
  rfl
 .obtain⟨a,ns,i,rfl,hs,hi,hi2,k⟩:=h
  refine⟨_,(ag (aw (i:=2) eZ.nd rfl (Or.inl rfl) ai)
   (ag (aQ (aE rQ (pv 1) (ar (aN (K:=K) rfl) rfl T.bP (by decide+kernel) (aa (pv 0) af)) (aH _)) (aj (aw (i:=2) eZ.nd rfl (Or.inl rfl) (aO (ax (K:=K) rfl) (pv 0) (pv 1) (fun _ _=>rfl)))) aB)
   (ag (aw (i:=3) eZ.nd rfl (Or.inl rfl) (ar AR rfl T.Jk (by decide+kernel) (aa (pv 2) af)))
   (aj (aA (bf (@aa _ _ _ _ _ (av jj (pv 3) (aY mH rfl T.ua (by decide+kernel) (aa (lM IL (pv 3) (av xB ai ai) (aH _)) af))) (@aa _ _ _ _ _ (av dU (av bp (av bp (av dU (pv 2) ai) (av jj ai (pv 1))) ai) ai) (@aa _ _ _ _ _ ai af ju) mq) mq))))))),?_⟩
  have posM:(0:Int)<2147483647:=by decide
  refine⟨_,rfl,_,rfl,a,_,rfl,.inl hs,_,_,rfl,rfl,_,rfl,?_⟩;refine dD (fun hlt=>?_) (fun _=>?_)
  .have hlt:i<((ns.map V.int).length:Int):=of_decide_eq_true hlt
   rw[LW]at hlt;have hx:∃x,ns[i.toNat]?=some x:=by
    rw[LZ (by lia)];exact⟨_,rfl⟩
   obtain⟨x,hx⟩:=hx;have ha:m9 (ns.map V.int) i=some (V.int x):=by
    have e:((i.toNat:Nat):Int)=i:=Int.toNat_of_nonneg hi;rw[←e];exact aR (by rw[LX,hx];rfl)
   refine⟨_,rfl,_,rfl,a,_,_,_,rfl,rfl,hs,ha,?_⟩;refine⟨_,rfl,x,rfl,?_⟩;refine⟨_,rfl,_,rfl,_,_,rfl,rfl,⟨by decide,by decide,by decide⟩,_,_,rfl,rfl,.inr ⟨_,rfl,_,_,rfl,rfl,.inr ⟨?b1,?b2⟩,_,rfl,_,_,rfl,rfl,posM,_,rfl,_,_,rfl,rfl,.inl ⟨by decide,by decide⟩,_,_,rfl,rfl,_,_,rfl,rfl,_,_,rfl,rfl,posM,(by show 3<=MG;decide),fun p hp=>?_⟩⟩
   (case b1=>exact(HV _).1)
   (case b2=>exact(HV _).2.1)
   refine k p _ hp ⟨⟨_,_,_,ae,?_,Int.emod_nonneg _ (by decide),Int.emod_lt_of_pos _ (by decide),Int.le_refl _,by decide,by decide⟩⟩ (ah.new hp);refine Int.mul_nonneg ?_ ?_
   .split<;>lia
   .exact(HV _).2.2
  .refine⟨_,rfl,0,rfl,?_⟩
   refine⟨_,rfl,_,rfl,_,_,rfl,rfl,⟨by decide,by decide,by decide⟩,_,_,rfl,rfl,.inr ⟨_,rfl,_,_,rfl,rfl,.inr ⟨?b1,?b2⟩,_,rfl,_,_,rfl,rfl,posM,_,rfl,_,_,rfl,rfl,.inl ⟨by decide,by decide⟩,_,_,rfl,rfl,_,_,rfl,rfl,_,_,rfl,rfl,posM,(by show 3<=MG;decide),fun p hp=>?_⟩⟩
   (case b1=>exact(HV _).1)
   (case b2=>exact(HV _).2.1)
   refine k p _ hp ⟨⟨_,_,_,ae,?_,Int.emod_nonneg _ (by decide),Int.emod_lt_of_pos _ (by decide),Int.le_refl _,by decide,by decide⟩⟩ (ah.new hp);refine Int.mul_nonneg ?_ ?_
   .split<;>lia
   .exact(HV _).2.2
end
end Sw
namespace L2
open PySem
theorem gU{X:Cx}{K:W.Frag}(h:X.K=K):bX X (.type "list") (fun xs H Q=>∃p ys,xs=[.ref p]/\(aG K H p ys\/dH K H p ys)/\∀l,H l=none->Q (.ref l) (upd H l (.lst ys))):=by subst h;exact sr
theorem cB{X:Cx}{K:W.Frag}(h:X.K=K):bX X (.type "tuple") (fun xs H Q=>∃p ys,xs=[.ref p]/\((aG K H p ys/\∀l,H l=none->Q (.ref l) (upd H l (.tup ys)))\/(dH K H p ys/\Q (.ref p) H))):=by subst h;exact qw
end L2
namespace Sw
open PySem L2
def yW:Sp:=fun vs H Q _=>∃(n:Int),vs=[.int n]/\0<=n/\n<=1000/\∀t H',H t=none->H' t=some (.tup ((eB 1 (n+1)).map V.int))->ah H H'->Q (.ref t) H'
def GO:Sp:=fun vs H Q _=>∃(t:MB)(a b x:Int),vs=[.ref t,.int x]/\H t=some (.tup [.int a,.int b])/\Q (.int (bw x (a,b))) H
structure T1(mg:Str->Option MA)(K:W.Frag):Prop extends xG mg where
 y8:mg "all" =none
 aJ:mg "isinstance" =none
 Ct:mg "bool" =none
 gj:mg "tuple" =none
 mL:mg "list" =none
 bL:mg "range" =none
 Ki:W.kitOne K (.type "int") (.type "bool")=some false
theorem aK{α β:Type}(f:α->β){l:List α}{i:Nat}{x:α}(h:l[i]?=some x):(l.take (i+1)).map f=(l.take i).map f++[f x]:=by
 rw[Mq,h,L7];rfl
theorem jm(a b x:Int)(hab:a≠b):(bV (dB [] [((Sum.inl a:Key),V.int b),(Sum.inl b,V.int a)]) (Sum.inl x)).getD (V.int x)=V.int (bw x (a,b)):=by
 show(bV (putK (putK [] (Sum.inl a:Key) (V.int b)) (Sum.inl b) (V.int a)) (Sum.inl x)).getD (V.int x)=V.int (bw x (a,b));rw[kO,kO,A9];unfold bw;have l:∀p q:Int,((Sum.inl p:Key)=Sum.inl q)=(p=q):=fun p q=>by simp
 simp only[l];by_cases h1:x=b
 .have h2:¬x=a:=by lia
  simp[h1,h2];intro z;lia
 .by_cases h2:x=a
  .simp[h1,h2,hab]
  .simp[h1,h2]
theorem br.mono {H:Hp}{p:MB}{c c':Nat}(h:br H p c)(a:c<=c')(b:c'<=100000):br H p c':=by
 obtain⟨x,y,z,e,h1,h2,h3,h4,h5,h6⟩:=h.ex;exact⟨x,y,z,e,h1,h2,h3,h4,by lia,b⟩
theorem br.keep {H H':Hp}{p:MB}{c:Nat}(h:br H p c)(k:ah H H'):br H' p c:=by
 obtain⟨x,y,z,e,r⟩:=h.ex;exact⟨x,y,z,k _ _ e,r⟩
theorem br.at {H:Hp}{p:MB}{c:Nat}(h:br H p c):∃xs,H p=some (.lst xs):=by
 obtain⟨x,y,z,e,r⟩:=h.ex;exact⟨_,e⟩
theorem br.upd {H:Hp}{p q:MB}{c:Nat}{o:HO}(h:br H p c)(n:p≠q):br (L2.upd H q o) p c:=by
 obtain⟨x,y,z,e,r⟩:=h.ex;exact⟨x,y,z,by rw[ao n];exact e,r⟩
theorem br.ne {H:Hp}{p q:MB}{c:Nat}(h:br H p c)(n:H q=none):p≠q:=by
 obtain⟨xs,e⟩:=h.at;exact aq e n
theorem aP.JZ {p:MB}{H H':Hp}{c:Nat}(s:aP p H H')(h:br H p c){vs:List V}{r:List (Int×Int)}(x:cP H vs r):cP H' vs r:=by
 obtain⟨xs,e⟩:=h.at;exact x.keep (aP.bI s e)
theorem aP.put {p l:MB}{H H':Hp}{o:HO}(s:aP p H H')(h:H l=none):aP p H (upd H' l o):=fun b o' hb e=>by
 rw[ao (aq e h)];exact s b o' hb e
theorem eJ{p l:MB}{H H':Hp}(s:aP p H H')(n:p≠l)(h:H' l=none):H l=none:=by
 cases e:H l with
 |none=>rfl
 |some o=>rw[s l o n.symm e]at h;cases h
theorem lE{ls:List Int}:∀{k:Nat},(ls.map V.int).eraseIdx k=(ls.eraseIdx k).map V.int:=by
 induction ls with
 |nil=>intro k;rfl
 |cons a t ih=>
  intro k
  cases k with
  |zero=>rfl
  |succ k=>
   rw[L9,List.eraseIdx_cons_succ,List.eraseIdx_cons_succ,L9,ih]
theorem fY{ns:List Int}{i:Nat}{x:V}(h:(ns.map V.int)[i]?=some x):∃z,x= .int z/\ns[i]?=some z:=by
 rw[LX]at h
 cases e:ns[i]? with
 |none=>rw[e]at h;cases h
 |some z=>rw[e]at h;exact⟨z,(My h).symm,rfl⟩
theorem fO{ns:List Int}{i:Int}{z:Int}(h0:0<=i)(h:ns[i.toNat]?=some z):m9 (ns.map V.int) i=some (V.int z):=by
 have e:((i.toNat:Nat):Int)=i:=Int.toNat_of_nonneg h0;rw[←e];exact aR (by rw[LX,h];rfl)
theorem me{ns:List Int}{k:Nat}(h:k<ns.length):∃z,ns[k]?=some z:=⟨_,LZ h⟩
theorem o4{n:Nat}{i:Int}(h0:0<=i)(h:i<n):CV n i=some i.toNat:=by
 unfold CV;rw[if_pos h0,if_pos h]
theorem yE{ns:List Int}{k:Nat}{z:Int}(h:ns[k]?=some z):(ns.map V.int)[k]?=some (V.int z):=by rw[LX,h];rfl
def ym:Sp:=fun vs H Q _=>∃(p:MB)(c:Nat)(n:Int),vs=[.ref p,.int n]/\br H p c/\c<=90000/\1<=n/\n<=100/\
 ∀t xs H',H t=none->H' t=some (.tup (xs.map V.int))->Ord n xs->br H' p (c+300)->aP p H H'->Q (.ref t) H'
inductive cW(H:Hp):List V->List (List Int)->Prop
 |nil:cW H [] []
 |cons {a:MB} {ns:List Int} {vs:List V} {r:List (List Int)}:H a=some (.lst (ns.map V.int))->cW H vs r->cW H (.ref a::vs) (ns::r)
theorem cW.length {H:Hp}:∀{vs:List V}{r:List (List Int)},cW H vs r->vs.length=r.length
 |_,_,.nil=>rfl
 |_,_,.cons _ x=>by rw[L8,L8,x.length]
theorem cW.keep {H H':Hp}(k:ah H H'):∀{vs:List V}{r:List (List Int)},cW H vs r->cW H' vs r
 |_,_,.nil=> .nil
 |_,_,.cons h x=> .cons (k _ _ h) (x.keep k)
theorem cW.append {H:Hp}:∀{vs ws:List V}{r q:List (List Int)},cW H vs r->cW H ws q->cW H (vs++ws) (r++q)
 |_,_,_,_,.nil,y=>y
 |_,_,_,_,.cons h x,y=> .cons h (x.append y)
theorem cW.snoc {H:Hp}{vs:List V}{r:List (List Int)}{a:MB}{ns:List Int}(x:cW H vs r)(h:H a=some (.lst (ns.map V.int))):cW H (vs++[.ref a]) (r++[ns]):=x.append (.cons h .nil)
theorem cW.get {H:Hp}:∀{vs:List V}{r:List (List Int)}{i:Nat}{x:V},cW H vs r->vs[i]?=some x->∃a ns,x= .ref a/\H a=some (.lst (ns.map V.int))/\r[i]?=some ns
 |_,_,_,_,.nil,e=>by simp at e
 |_,_,0,_,.cons h x,e=>by simp at e;subst e;exact⟨_,_,rfl,h,rfl⟩
 |_,_,i+1,_,.cons h x,e=>by
  obtain⟨t,a,e1,e2,e3⟩:=x.get (i:=i) (by simpa using e);exact⟨t,a,e1,e2,by simpa using e3⟩
theorem cW.mem {H:Hp}{vs:List V}{r:List (List Int)}(x:cW H vs r){a:MB}(h:V.ref a∈vs):∃ns,H a=some (.lst ns):=by
 obtain⟨i,hi,e⟩:=List.mem_iff_getElem.mp h;obtain⟨b,ns,e1,e2,_⟩:=x.get (i:=i) (by rw[LZ hi,e]);cases e1;exact⟨_,e2⟩
theorem cW.off {H:Hp}{a:MB}{o:HO}:∀{vs:List V}{r:List (List Int)},cW H vs r->V.ref a∉vs->cW (upd H a o) vs r
 |_,_,.nil,_=> .nil
 |_,_,.cons (a:=b) h x,n=>by
  refine .cons ?_ (x.off fun z=>n (Mh _ z));rw[ao (by intro z;subst z;exact n Mg)];exact h
def ij(H:Hp)(vs:List V):Prop:=vs.Nodup/\∀v∈vs,∃a,v= .ref a/\H a=none
theorem ij.nil {H:Hp}:ij H []:=⟨List.nodup_nil,fun v h=>by cases h⟩
theorem ij.snoc {H H':Hp}{vs:List V}{r:List (List Int)}{a:MB}(f:ij H vs)(x:cW H' vs r)(h':H' a=none)(h:H a=none):ij H (vs++[.ref a]):=by
 refine⟨List.nodup_append.mpr ⟨f.1,by simp,?_⟩,fun v hv=>?_⟩
 .intro y hy z hz e
  rw[List.mem_singleton.mp hz]at e;subst e;obtain⟨ns,e⟩:=x.mem hy;rw[h']at e;cases e
 .rcases List.mem_append.mp hv with z|z
  .exact f.2 v z
  .exact⟨a,List.mem_singleton.mp z,h⟩
theorem ij.sub {H:Hp}{vs ws:List V}(f:ij H vs)(s:ws.Sublist vs):ij H ws:=⟨f.1.sublist s,fun v h=>f.2 v (s.subset h)⟩
def Jl:Sp:=fun vs H Q _=>∃(t:MB)(n x:Int)(xs:List Int),vs=[.ref t,.int x]/\H t=some (.tup (xs.map V.int))/\Ord n xs/\n<=1000/\1<=x/\x<=n/\∀l H',H l=none->H' l=some (.lst ((gX xs x).map V.int))->ah H H'->Q (.ref l) H'
def fL:Sp:=fun vs H Q _=>∃(t:MB)(n:Int)(xs:List Int),vs=[.ref t]/\H t=some (.tup (xs.map V.int))/\Ord n xs/\n<=1000/\∀l ws H',H l=none->H' l=some (.lst ws)->cW H' ws (aX n xs)->ij H ws->V.ref l∉ws->ah H H'->Q (.ref l) H'
theorem Gp{A B:Prop}{b:Bool}(h:b=true)(x:A):if b=true then A else B:=by rw[if_pos h];exact x
theorem jW{A B:Prop}{b:Bool}(h:b=false)(x:B):if b=true then A else B:=by rw[h,if_neg Mx];exact x
def Cj:Sp:=fun vs H Q _=>∃(t:MB)(n:Int)(xs:List Int),vs=[.ref t]/\H t=some (.tup (xs.map V.int))/\Ord n xs/\n<=1000/\∀l es H',H l=none->H' l=some (.lst es)->cP H' es (ja xs)->ah H H'->Q (.ref l) H'
theorem cW.eraseIdx {H:Hp}:∀{vs:List V}{r:List (List Int)}(k:Nat),cW H vs r->cW H (vs.eraseIdx k) (r.eraseIdx k)
 |_,_,_,.nil=> .nil
 |_,_,0,.cons h x=>x
 |_,_,k+1,.cons h x=> .cons h (x.eraseIdx k)
def Hi:Sp:=fun vs H Q _=>∃x lo hi:Int,vs=[.int x,.int lo,.int hi]/\Q (.bl (decide (lo<=x/\x<=hi))) H
def yO:Sp:=fun vs H Q _=>∃(n:Int)(l:MB)(ws:List V)(rs:List (List Int)),vs=[.int n,.ref l]/\H l=some (.lst ws)/\cW H ws rs/\ws.length<=1000/\(∀r∈rs,r≠[]/\r.length<=1000/\∀x∈r,1<=x/\x<=n)/\rs.flatten.Nodup/\∀H',ah H H'->Q .cE H'
def AN:Sp:=fun vs H Q _=>∃(n:Int)(l:MB)(ws:List V)(rs:List (List Int))(xs:List Int),vs=[.int n,.ref l]/\0<=n/\n<=1000/\H l=some (.lst ws)/\cW H ws rs/\ws.length<=1000/\(∀r∈rs,r.length<=1000)/\xs.length=n.toNat/\Hv n xs rs/\∀t H',H t=none->H' t=some (.tup (xs.map V.int))->ah H H'->Q (.ref t) H'
theorem yA{n:Int}{xs:List Int}(h:n<=50):(aX n xs).length<=50:=by
 unfold aX;rw[LW];have:=List.length_filter_le (least xs) (eB 1 (n+1));rw[a8]at this;lia
theorem uG{n:Int}{xs r:List Int}(o:Ord n xs)(h:n<=50)(m:r∈aX n xs):r.length<=50:=by
 unfold aX at m;obtain⟨x,hx,rfl⟩:=List.mem_map.mp m;have hx:=cI.mp (List.mem_filter.mp hx).1;rw[iI];have:=xa o hx.1 (by lia);lia
def yR(K:W.Frag):Sp:=fun vs H Q _=>∃(a:MB)(ns:List Int),vs=[.ref a]/\aG K H a (ns.map V.int)/\ns.length<=63/\∀H',Q (.bl true) H'
theorem ah.of {p:MB}{H0 H H':Hp}(a:ah H0 H)(n:H0 p=none)(b:aP p H H'):ah H0 H':=fun c o e=>b c o (aq e n) (a c o e)
theorem ah.put {l:MB}{H H':Hp}{o:HO}(s:ah H H')(h:H l=none):ah H (upd H' l o):=fun b o' e=>by
 rw[ao (aq e h)];exact s b o' e
def LR:PyData->Bool
 | .int _=>true
 |_=>false
def wy(lo hi:Int):PyData->Bool
 | .int i=>decide (lo<=i/\i<=hi)
 |_=>false
def La:PyData->PyData->Bool
 | .int a,.int b=>decide (a<b)
 |_,_=>false
def sX(n:Int):PyData->Bool
 | .tuple [x,y]=>(wy 1 n x&&wy 1 n y)&&La x y
 |_=>false
def uH(n:Int):PyData->Bool
 | .list ds=>decide (ds.length<=60)&&ds.all (sX n)
 |_=>false
def E4:Sp:=fun vs H Q _=>∃(v:V)(P:MB->Prop)(d:PyData),vs=[v]/\DT H P v d/\Q (.bl (LR d)) H
def E1:Sp:=fun vs H Q _=>∃(v:V)(P:MB->Prop)(d:PyData)(lo hi:Int),vs=[v,.int lo,.int hi]/\DT H P v d/\Q (.bl (wy lo hi d)) H
def BM:Sp:=fun vs H Q _=>∃(v:V)(P:MB->Prop)(d:PyData)(n:Int),vs=[.int n,v]/\DT H P v d/\∀H',ah H H'->Q (.bl (sX n d)) H'
def sW:Sp:=fun vs H Q _=>∃(v:V)(P:MB->Prop)(d:PyData)(n:Int),vs=[.int n,v]/\DT H P v d/\(∀ds,d= .list ds->ds.length<=1000)/\∀H',ah H H'->Q (.bl (uH n d)) H'
theorem DT.same {H H':Hp}{P:MB->Prop}{v:V}{d:PyData}(h:DT H P v d)(s:ah H H'):DT H' P v d:=h.keep fun b o _ e=>s b o e
theorem vv{α:Type}{q:α->Bool}{l:List α}{i:Nat}{x:α}(h:l[i]?=some x):(l.take (i+1)).map q=(l.take i).map q++[q x]:=by
 rw[Mq,h,L7];rfl
structure TD(P:MD)(w:ME)(K:W.Frag)(mg:Str->Option MA)(base:MN):Prop extends T1 mg K where
 oO:FnAt P w K mg base "is_whole" 1 ["thing"] E4
structure K6(P:MD)(w:ME)(K:W.Frag)(mg:Str->Option MA)(base:MN):Prop extends T1 mg K where
 bU:FnAt P w K mg base "is_between" 2 ["thing","low","high"] E1
structure Lc(P:MD)(w:ME)(K:W.Frag)(mg:Str->Option MA)(base:MN)(u:MA):Prop extends T1 mg K where
 cC:mg "MOST_EXCHANGES" =some u
 cq:RelV (.int 60) u
 j7:FnAt P w K mg base "is_exchange" 4 ["n","thing"] BM
section
variable{P:MD}{w:ME}{K:W.Frag}{mg:Str->Option MA}{base:MN}
theorem vJ:aF ["thing"] ["thing"] (au (top 15)):=⟨rfl,rfl,rfl,by decide+kernel,rfl,by decide+kernel,by decide+kernel⟩
theorem Gk{f:MB}{fd:MM}(F:dJ K "is_whole" "is_whole" (top 15) f fd)(T:T1 mg K):aS P w K mg base fQ 1 f fd ["thing"] E4:=by
 refine F.ok vJ (fun vs H Q E h=>?_) (fun cdv A outer s H vs Q E hr h=>?_)
 .obtain⟨v,P,d,rfl,_⟩:=h
  rfl
 .obtain⟨v,P,d,rfl,hd,k⟩:=h
  refine⟨_,(aj (aA (w4 (ar (gu (K:=K) rfl) rfl T.aJ (by decide+kernel) (aa (pv 0) (aa (iP (v:= .ty "int") rfl T.ua (by decide+kernel) rfl) af))) (sZ (FL (ar (gu (K:=K) rfl) rfl T.aJ (by decide+kernel) (aa (pv 0) (aa (iP (v:= .ty "bool") rfl T.Ct (by decide+kernel) rfl) af)))))))),?_⟩;refine⟨_,rfl,_,_,"int",_,rfl,hd.ty,Ed K hd,_,rfl,dD (fun c=>?_) (fun c=>?_)⟩
  .refine⟨_,rfl,_,_,"bool",_,rfl,hd.ty,CF K hd,_,rfl,?_⟩
   cases hd<;>first|exact k|exact absurd c Mx
  .cases hd<;>first|exact k|exact absurd rfl c
theorem qt:aF ["thing","low","high"] ["thing","low","high"] (au (top 16)):=⟨rfl,rfl,rfl,by decide+kernel,rfl,by decide+kernel,by decide+kernel⟩
theorem Bw{f:MB}{fd:MM}(F:dJ K "is_between" "is_between" (top 16) f fd)(T:TD P w K mg base):aS P w K mg base fQ 2 f fd ["thing","low","high"] E1:=by
 refine F.ok qt (fun vs H Q E h=>?_) (fun cdv A outer s H vs Q E hr h=>?_)
 .obtain⟨v,P,d,lo,hi,rfl,_⟩:=h
  rfl
 .obtain⟨v,P,d,lo,hi,rfl,hd,k⟩:=h
  refine⟨_,(aj (aA (w4 (ak T.oO (hr.mono (by first|decide|lia)) rfl (aa (pv 0) af)) (sZ (Ck vS vS (pv 1) (pv 0) (pv 2)))))),?_⟩;refine⟨_,rfl,v,P,d,rfl,hd,_,rfl,?_⟩
  cases hd with
  |int x=>
   refine oU ?_;refine⟨_,rfl,_,rfl,_,_,rfl,rfl,_,rfl,dD (fun c=>?_) (fun c=>?_)⟩
   .have c:lo<=x:=of_decide_eq_true c
    have e:wy lo hi (.int x)=decide (x<=hi):=by show decide (lo<=x/\x<=hi)=_;rw[Bool.eq_iff_iff];simp[c]
    rw[e]at k;exact⟨_,rfl,_,_,rfl,rfl,k⟩
   .have c:¬lo<=x:=of_decide_eq_false (by simpa using c)
    have e:wy lo hi (.int x)=false:=by show decide (lo<=x/\x<=hi)=_;simp[c]
    rw[e]at k;exact k
  |_=>exact wI k
theorem pA:aF ["n","thing"] ["n","thing"] (au (top 30)):=⟨rfl,rfl,rfl,by decide+kernel,rfl,by decide+kernel,by decide+kernel⟩
theorem DK{f:MB}{fd:MM}(F:dJ K "is_exchange" "is_exchange" (top 30) f fd)(T:K6 P w K mg base):aS P w K mg base fQ 4 f fd ["n","thing"] BM:=by
 refine F.ok pA (fun vs H Q E h=>?_) (fun cdv A outer s H vs Q E hr h=>?_)
 .obtain⟨v,P,d,n,rfl,_⟩:=h
  rfl
 .obtain⟨v,P,d,n,rfl,hd,k⟩:=h
  refine⟨_,(ag (aQ (PW.pt (j5 (eL (eI (ar (gu (K:=K) rfl) rfl T.aJ (by decide+kernel) (aa (pv 1) (aa (iP (v:= .ty "tuple") rfl T.gj (by decide+kernel) rfl) af))))) (jz (aE gH (ar (aN (K:=K) rfl) rfl T.bP (by decide+kernel) (aa (pv 1) af)) ai (aH _))))) (aj (aA i3)) aB)
   (aj (aA (w4 (ar (mJ (K:=K) rfl rfl) rfl T.y8 (by decide+kernel) (aa (bJ (N:=(["number","n"]:List Str)) (ix:=([none,some 0]:List (Option Nat))) (aW rfl rfl) rfl (yk (K:=K) rfl (pv 1)) (fun _ _ _ _=>(aC (i:=0) (show List.Nodup (["number","n"]:List Str)from by decide+kernel) rfl (Or.inl rfl))) (fun _ _ _ _=>bg) (fun _ _ _ _=>(ak T.bU (hr.mono (by first|decide|lia)) rfl (@aa _ _ _ _ _ (pv 0) (@aa _ _ _ _ _ ai (@aa _ _ _ _ _ (pv 1) af aL) ju) aL)))) af)) (sZ (lM rQ (aO (jR (K:=K) rfl) (pv 1) ai (fun _ _=>rfl)) (aO (jR (K:=K) rfl) (pv 1) ai (fun _ _=>rfl)) (aH _))))))),?_⟩
  refine⟨_,rfl,_,_,"tuple",_,rfl,hd.ty,kit_tuple K hd,_,rfl,?_⟩
  cases hd with
  | @tup a us ds ha pa rs=>
   refine wI ?_;have ul:=rs.length;refine⟨_,rfl,a,_,rfl,.inr (dH.of ha),rfl,_,rfl,dD (fun c=>?_) (fun c=>?_)⟩
   .have c:ds.length≠2:=by
     intro z;rw[ul,z]at c;exact absurd c (by decide)
    have e:sX n (.tuple ds)=false:=by
     match ds,c with
     |[],_=>rfl
     |[_],_=>rfl
     |[_,_],c=>exact absurd rfl c
     |_::_::_::_,_=>rfl
    rw[e]at k;exact k H (ah.refl H)
   .have c:ds.length=2:=by
     apply Classical.byContradiction;intro z;have:decide (V.int (us.length:Int)=V.int 2)=false:=decide_eq_false (by intro q;have:=V.int.inj q;lia);rw[this]at c;exact absurd rfl c
    match ds,us,rs,c with
    |[x,y],[vx,vy],.cons hx (.cons hy .nil),_=>
     refine⟨_,rfl,a,rfl,⟨_,dH.of ha⟩,EZ (K:=K) (a:=a) (xs:=[vx,vy]) (k:=0) (fun i ys σ' H'=>ys=(([x,y].take i).map (wy 1 n)).map V.bl/\(∃v,σ'=[v,some (.int n)])/\H'=H) (by show 2<=1000000;decide) ⟨rfl,⟨none,rfl⟩,rfl⟩ (fun i ys σ' H' _ q=>by rw[q.2.2];exact dH.of ha) (fun i ys σ' H' q=>by rw[q.1,LW,LW,Ma];lia) ?_ ?_⟩
     .rintro i ys σ' H' z R hz ⟨rfl,⟨v,rfl⟩,rfl⟩ done
      obtain⟨d,hd,hdz⟩:=(wq.cons hx (wq.cons hy wq.nil)).get hz;refine⟨_,rfl,_,rfl,z,P,d,1,n,rfl,hdz,done _ _ _ ⟨?_,⟨_,rfl⟩,rfl⟩⟩;rw[vv hd,L7];rfl
     .rintro ys σ' H' q ⟨rfl,⟨v,rfl⟩,rfl⟩ fq
      have s1:ah H' (upd H' q (.lst (([x,y].map (wy 1 n)).map V.bl))):=ah.new fq;refine⟨q,[x,y].map (wy 1 n),rfl,aG.of ae,_,rfl,dD (fun c2=>?_) (fun c2=>?_)⟩
      .have c2:wy 1 n x=true/\wy 1 n y=true:=by simpa using c2
       refine⟨_,rfl,a,_,_,_,rfl,rfl,dH.of (s1 _ _ ha),rfl,_,rfl,a,_,_,_,rfl,rfl,dH.of (s1 _ _ ha),rfl,?_⟩
       cases hx with
       |int i=>
        cases hy with
        |int j=>
         have e:sX n (.tuple [.int i,.int j])=decide (i<j):=by show((wy 1 n (.int i)&&wy 1 n (.int j))&&decide (i<j))=_;rw[c2.1,c2.2];rfl
         rw[e]at k;exact⟨_,_,rfl,rfl,k _ s1⟩
        |_=>exact absurd c2.2 Mx
       |_=>exact absurd c2.1 Mx
      .have e:sX n (.tuple [x,y])=false:=by
        show((wy 1 n x&&wy 1 n y)&&La x y)=false;have:(wy 1 n x&&wy 1 n y)=false:=by simpa using c2
        rw[this];rfl
       rw[e]at k;exact k _ s1
  |_=>exact oU (k H (ah.refl H))
theorem Af:aF ["n","thing"] ["n","thing"] (au (top 31)):=⟨rfl,rfl,rfl,by decide+kernel,rfl,by decide+kernel,by decide+kernel⟩
theorem BW{u:MA}{f:MB}{fd:MM}(F:dJ K "is_row" "is_row" (top 31) f fd)(T:Lc P w K mg base u):aS P w K mg base fQ 6 f fd ["n","thing"] sW:=by
 refine F.ok Af (fun vs H Q E h=>?_) (fun cdv A outer s H vs Q E hr h=>?_)
 .obtain⟨v,P,d,n,rfl,_⟩:=h
  rfl
 .obtain⟨v,P,d,n,rfl,hd,hlen,k⟩:=h
  refine⟨_,(ag (aQ (PW.pt (j5 (eL (eI (ar (gu (K:=K) rfl) rfl T.aJ (by decide+kernel) (aa (pv 1) (aa (iP (v:= .ty "list") rfl T.mL (by decide+kernel) rfl) af))))) (jz (aE mV (ar (aN (K:=K) rfl) rfl T.bP (by decide+kernel) (aa (pv 1) af)) (di rfl T.cC T.cq) (aH _))))) (aj (aA i3)) aB)
   (aj (aA (ar (mJ (K:=K) rfl rfl) rfl T.y8 (by decide+kernel) (aa (bJ (N:=(["exchange","n"]:List Str)) (ix:=([none,some 0]:List (Option Nat))) (aW rfl rfl) rfl (aU (K:=K) rfl (pv 1)) (fun _ _ _ _=>(aC (i:=0) (show List.Nodup (["exchange","n"]:List Str)from by decide+kernel) rfl (Or.inl rfl))) (fun _ _ _ _=>bg) (fun _ _ _ _=>(ak T.j7 (hr.mono (by first|decide|lia)) rfl (aa (pv 1) (aa (pv 0) af))))) af))))),?_⟩
  refine⟨_,rfl,_,_,"list",_,rfl,hd.ty,BH K hd,_,rfl,?_⟩
  cases hd with
  | @lst a us ds ha pa rs=>
   refine wI ?_;have ul:=rs.length;have dl:=hlen ds rfl;refine⟨_,rfl,a,_,rfl,.inl (aG.of ha),_,_,rfl,rfl,_,rfl,dD (fun c=>?_) (fun c=>?_)⟩
   .have c:60<us.length:=by have:=of_decide_eq_true c;lia
    have e:uH n (.list ds)=false:=by
     show(decide (ds.length<=60)&&_)=false;rw[decide_eq_false (by lia)];rfl
    rw[e]at k;exact k H (ah.refl H)
   .have c:us.length<=60:=by
     apply Classical.byContradiction;intro z;have:decide ((60:Int)<(us.length:Int))=true:=decide_eq_true (by lia);exact c this
    refine⟨_,rfl,a,rfl,⟨_,aG.of ha⟩,gI (K:=K) (a:=a) (xs:=us) (k:=0) (fun i ys σ' H'=>ys=((ds.take i).map (sX n)).map V.bl/\(∃v,σ'=[v,some (.int n)])/\ah H H') (by lia) ⟨rfl,⟨none,rfl⟩,ah.refl _⟩ (fun i ys σ' H' _ q=>aG.of (q.2.2 _ _ ha)) (fun i ys σ' H' q=>by rw[q.1,LW,LW,Ma];lia) ?_ ?_⟩
    .rintro i ys σ' H' z R hz ⟨rfl,⟨v,rfl⟩,s1⟩ done
     obtain⟨d,hd,hdz⟩:=rs.get hz;refine⟨_,rfl,_,rfl,z,P,d,n,rfl,DT.same hdz s1,fun H2 s2=>done _ _ _ ⟨?_,⟨_,rfl⟩,s1.trans s2⟩⟩;rw[vv hd,L7];rfl
    .rintro ys σ' H' q ⟨rfl,⟨v,rfl⟩,s1⟩ fq
     rw[Mi (by lia)];refine⟨q,ds.map (sX n),rfl,aG.of ae,?_⟩;have e:uH n (.list ds)=(ds.map (sX n)).all id:=by
      show(decide (ds.length<=60)&&ds.all (sX n))=_;rw[decide_eq_true (by lia),List.all_map];rfl
     rw[e]at k;exact k _ (s1.trans (ah.new fq))
  |_=>exact oU (k H (ah.refl H))
end
end Sw
namespace L2
open PySem PySem.Spec PyProof.Rows
section
variable{prog:MD}{w:ME}{A:MF}{R:Result->MC->Prop}{s:MC}
theorem w6{elt t1 i1 t2 i2:Expr}{scope:Scope}{pos:Pos}{it acc:MA}{env:Env}
  (h1:codeAny (model prog w) A (.compLoop (.ListComp elt [⟨t1,i1,[],0⟩,⟨t2,i2,[],0⟩] scope pos) 1 it acc env) R s)
  (h2:MP (model prog w) A (pyIter it) (fun it' s'=>codeAny (model prog w) A (.compLoop (.ListComp elt [⟨t1,i1,[],0⟩,⟨t2,i2,[],0⟩] scope pos) 1 it' acc env) R s') (fun _ _=>False) s):
  codeAny (model prog w) A (.compStart (.ListComp elt [⟨t1,i1,[],0⟩,⟨t2,i2,[],0⟩] scope pos) 1 it acc env) R s:=by
 refine codeAny_of_tree ?_;show MP _ A ((compStart (.ListComp elt [⟨t1,i1,[],0⟩,⟨t2,i2,[],0⟩] scope pos) 1 it acc env).onRaise (fun x=>do noteFrame x env;standAt theWindowsPlace)) _ _ s;refine wpAny_onRaise ?_;show MP _ A (ask>>=fun st=>if st.params.followText "comprehension-iter-twice" =true then again (.compLoop (.ListComp elt [⟨t1,i1,[],0⟩,⟨t2,i2,[],0⟩] scope pos) 1 it acc env)else do
  rule "comprehension.iter-twice"
  standAt i2.pos
  let it'←pyIter it
  again (.compLoop (.ListComp elt [⟨t1,i1,[],0⟩,⟨t2,i2,[],0⟩] scope pos) 1 it' acc env)) _ _ s
 refine MI (wpAny_askSetting ?_)
 split
 .exact MJ ⟨rfl,h1⟩
 .refine MI (wpAny_rule (MI (wpAny_standAt (MI (MK h2 (fun it' s' h'=>?_) fun _ _ z=>z.elim)))))
  exact MJ ⟨rfl,h'⟩
theorem p6{elt t1 i1 t2 i2:Expr}{scope:Scope}{pos:Pos}{it acc:MA}{env:Env}(I:Nat->MC->Prop)
  (turn:∀n s,I n s->MP (model prog w) A (pyNext it) (fun r s₁=>match r with
   |none=>R (.ok .next) s₁
   |some v=>MP (model prog w) A (letOwnedTupleGo t2 it v) (fun _ s₁=>MP (model prog w) A (assign t2 env v) (fun _ s₂=>
     MP (model prog w) A (eval elt env) (fun x s₄=>
      MP (model prog w) A (call (.builtin "list.append") [acc,x]) (fun _ s₅=>∃m,m<n/\I m s₅) (fun _ _=>False) s₄) (fun _ _=>False) s₂) (fun _ _=>False) s₁) (fun _ _=>False) s₁) (fun _ _=>False) s)
  (n:Nat) (h:I n s):
  codeAny (model prog w) A (.compLoop (.ListComp elt [⟨t1,i1,[],0⟩,⟨t2,i2,[],0⟩] scope pos) 1 it acc env) R s:=by
 refine codeAny_loop rfl I (fun n s hI=>?_) n h;show MP _ A ((compTurn (.ListComp elt [⟨t1,i1,[],0⟩,⟨t2,i2,[],0⟩] scope pos) 1 it acc env).onRaise (fun x=>do noteFrame x env;theTreesLotGoes x)) _ _ s;refine wpAny_noted ?_;show MP _ A (do
  standAt i2.pos
  let r←pyNext it
  match r with
  |none=>pure (Fin.done Flow.next)
  |some v=>do
   letOwnedTupleGo t2 it v
   assign t2 env v
   let ok←forIn ([]:List Expr) true fun c r=>if r=true then do let ok←isTrue c env (eval c env);pure (ForInStep.yield ok)else pure (ForInStep.yield r)
   if ok=true then do
    let _←(do
     let x←eval elt env
     let _←call (.builtin "list.append") [acc,x]
     pure ())
    again (.compLoop (.ListComp elt [⟨t1,i1,[],0⟩,⟨t2,i2,[],0⟩] scope pos) 1 it acc env)
   else again (.compLoop (.ListComp elt [⟨t1,i1,[],0⟩,⟨t2,i2,[],0⟩] scope pos) 1 it acc env)) _ _ s
 refine MI (wpAny_standAt (MI (MK (turn n s hI) (fun r s₁ h₁=>?_) fun _ _ h'=>h'.elim)))
 cases r with
 |none=>exact MJ h₁
 |some v=>
  refine MI (MK h₁ (fun _ s₁ h₁=>?_) fun _ _ h'=>h'.elim);refine MI (MK h₁ (fun _ s₂ h₂=>MI (wpAny_tests_nil ?_)) fun _ _ h'=>h'.elim);rw[if_pos rfl];refine MI (MI (MK h₂ (fun x s₄ h₄=>MI (MK h₄ (fun _ s₅ h₅=>?_) fun _ _ h'=>h'.elim)) fun _ _ h'=>h'.elim));exact MJ (MJ ⟨rfl,h₅⟩)
theorem ql{elt t1 i1 t2 i2:Expr}{scope:Scope}{pos:Pos}{it acc:MA}{env:Env}(hs:∀x,foldedSetIterable i2 env x=pure x)(I:Nat->MC->Prop)
  (turn:∀n s,I n s->MP (model prog w) A (pyNext it) (fun r s₁=>match r with
   |none=>R (.ok .next) s₁
   |some v=>MP (model prog w) A (letOwnedTupleGo t1 it v) (fun _ s₁=>MP (model prog w) A (assign t1 env v) (fun _ s₂=>
     MP (model prog w) A (eval i2 env) (fun x s₃=>MP (model prog w) A (pyIter x) (fun it2 s₄=>
      codeAny (model prog w) A (.compStart (.ListComp elt [⟨t1,i1,[],0⟩,⟨t2,i2,[],0⟩] scope pos) 1 it2 acc env) (fun r s₅=>r= .ok .next/\∃m,m<n/\I m s₅) s₄) (fun _ _=>False) s₃) (fun _ _=>False) s₂) (fun _ _=>False) s₁) (fun _ _=>False) s₁) (fun _ _=>False) s)
  (n:Nat) (h:I n s):
  codeAny (model prog w) A (.compLoop (.ListComp elt [⟨t1,i1,[],0⟩,⟨t2,i2,[],0⟩] scope pos) 0 it acc env) R s:=by
 refine codeAny_loop rfl I (fun n s hI=>?_) n h;show MP _ A ((compTurn (.ListComp elt [⟨t1,i1,[],0⟩,⟨t2,i2,[],0⟩] scope pos) 0 it acc env).onRaise (fun x=>do noteFrame x env;theTreesLotGoes x)) _ _ s;refine wpAny_noted ?_;show MP _ A (do
  standAt i1.pos
  let r←pyNext it
  match r with
  |none=>pure (Fin.done Flow.next)
  |some v=>do
   letOwnedTupleGo t1 it v
   assign t1 env v
   let ok←forIn ([]:List Expr) true fun c r=>if r=true then do let ok←isTrue c env (eval c env);pure (ForInStep.yield ok)else pure (ForInStep.yield r)
   if ok=true then do
    let x←eval i2 env
    standAt i2.pos
    let x←foldedSetIterable i2 env x
    let it2←holding [x] (pyIter x)
    let _←runOwn (.compStart (.ListComp elt [⟨t1,i1,[],0⟩,⟨t2,i2,[],0⟩] scope pos) 1 it2 acc env) env
    again (.compLoop (.ListComp elt [⟨t1,i1,[],0⟩,⟨t2,i2,[],0⟩] scope pos) 0 it acc env)
   else again (.compLoop (.ListComp elt [⟨t1,i1,[],0⟩,⟨t2,i2,[],0⟩] scope pos) 0 it acc env)) _ _ s
 refine MI (wpAny_standAt (MI (MK (turn n s hI) (fun r s₁ h₁=>?_) fun _ _ h'=>h'.elim)))
 cases r with
 |none=>exact MJ h₁
 |some v=>
  refine MI (MK h₁ (fun _ s₁ h₁=>?_) fun _ _ h'=>h'.elim);refine MI (MK h₁ (fun _ s₂ h₂=>MI (wpAny_tests_nil ?_)) fun _ _ h'=>h'.elim);rw[if_pos rfl];refine MI (MK h₂ (fun x s₃ h₃=>MI (wpAny_standAt (MI (wpAny_of_eq (hs x) (MI (wpAny_holding (MK h₃ (fun it2 s₄ h₄=>?_) fun _ _ h'=>h'.elim))))))) fun _ _ h'=>h'.elim);refine MI (wpAny_runOwn (codeAny_mono h₄ fun r s₅ h₅=>?_));obtain⟨rfl,h₅⟩:=h₅;exact MJ ⟨rfl,h₅⟩
end
def xP(ix:List (Option Nat))(g:TG)(wi2:TI)(g2:TG)(te:TE)(σ:St)(Q:VK)(J:It)(H1:Hp):Prop:=
 ∃W:WC,(∃m,W 0 m [] (dA ix σ) H1)/\∀i m ys σ' H',W i m ys σ' H'->
  (J.stop i H'/\ys.length<=MG/\∀p,H' p=none->Q (.ref p) (upd H' p (.lst ys)))\/
  (J.go i H'/\∀x H2,J.Aw i H' x H2->g x σ' H2 fun σ2 H3=>wi2 σ2 H3 fun J2 H4=>
   ∃W2:WC,(∃m2,W2 0 m2 ys σ2 H4)/\∀j m2 ys' σ3 H5,W2 j m2 ys' σ3 H5->
    (J2.stop j H5/\∃m',m'<m/\W (i+1) m' ys' σ3 H5)\/
    (J2.go j H5/\ys'.length<MG/\∀y H6,J2.Aw j H5 y H6->g2 y σ3 H6 fun σ4 H7=>te σ4 H7 fun v H8=>∃m3,m3<m2/\W2 (j+1) m3 (ys'++[v]) σ4 H8))
def Ga(ix:List (Option Nat))(wi:TI)(g:TG)(wi2:TI)(g2:TG)(te:TE):TE:=fun σ H Q=>wi σ H (xP ix g wi2 g2 te σ Q)
section
variable{X:Cx}{scope:Scope}{N:List Str}{ix:List (Option Nat)}{elt tg iter tg2 iter2:Expr}{g g2:TG}{wi2:TI}{te:TE}{pos:Pos}
theorem vF{pins:List (MB×Obj)}{σ:St}{s2:MC}{Q:VK}{itv:MA}{RR:MA->MB->Result->MC->Prop}{E:MA->MC->Prop}(c:eF X scope N ix)(hc:X.calm=true)
  (hg:∀C fp s H,PG (gc X N scope C fp s H) tg g) (hi2:∀C fp s H,PI (gc X N scope C fp s H) tg2 iter2 wi2) (hg2:∀C fp s H,PG (gc X N scope C fp s H) tg2 g2) (he:∀C fp s H,PE (gc X N scope C fp s H) elt te)
  (hs2:∀C fp s H x,foldedSetIterable iter2 (gc X N scope C fp s H).env x=pure x)
  (h2:HQ X pins σ tg (xP ix g wi2 g2 te σ Q) itv s2)
  (hR:∀(D C:MB)(s':MC)(H':Hp)(m:Str->Option MA),Inv X pins σ H' s'->s'.heap.Ns C m->H' C=none->X.s₀.heap.objs.size<=C->(∀p∈X.pn++pins,p.1≠C)->C≠X.env.locals->(∀x c,X.env.cells.lookup x=some c->c≠C)->Q (.ref D) H'->RR (.ref D) C (.ok .next) s'):
  MP (model X.prog X.w) X.A (newList []) (fun acc s₃=>MP (model X.prog X.w) X.A (newFunctionEnv scope X.env.globals (dI X.env.cells scope.names []) [] X.env.qual none .none (some X.env)) (fun cenv s₄=>
   codeAny (model X.prog X.w) X.A (.compStart (.ListComp elt [⟨tg,iter,[],0⟩,⟨tg2,iter2,[],0⟩] scope pos) 0 itv acc {cenv with scope:=relabel scope X.env}) (RR acc cenv.locals) s₄) E s₃) E s2:=by
 obtain⟨it,fp,tn,J,H2,rfl,I2,T,st2,f2,W,⟨m0,w0⟩,turn⟩:=h2;refine wpAny_newObj_type (wpAny_newFunctionEnv c.oJ (by intro y hy;simp at hy) (fun h₁ hns₁ hsb₁=>?_) c.kind);dsimp only at hns₁ hsb₁⊢;generalize hH2:s2.heap.push {cls:= .type "list",dict:=none,data:= .seq ([]:List MA).toArray}=G2 at hns₁ hsb₁⊢;have hCs:G2.objs.size=s2.heap.objs.size+1:=by rw[←hH2,MN.size_push]
 generalize hCe:G2.objs.size=C at hns₁ hsb₁ hCs⊢;generalize hDe:s2.heap.objs.size=D at hCs⊢;have ltC:∀b,@LT.lt Nat _ b D->b≠C:=fun b hb=>Mu (by rw[hCs];exact Nat.lt_succ_of_lt hb);have ltS:∀b o,s2.heap.get? b=some o->@LT.lt Nat _ b D:=fun b o e=>by rw[←hDe];exact MN.lt_size e
 have hDC:D≠C:=Mu (by rw[hCs];exact Nat.lt_succ_self _);have old:∀b o,s2.heap.get? b=some o->h₁.get? b=some o:=fun b o e=>hsb₁.extBut b o (ltC b (ltS b o e)) (MN.get?_push_of_some _ (hH2▸MN.get?_push_of_some _ e));have hoD:h₁.get? D=some {cls:= .type "list",dict:=none,data:= .seq ([]:List MA).toArray}:=by
  refine hsb₁.extBut _ _ hDC (MN.get?_push_of_some _ ?_);rw[←hH2,←hDe];exact MN.get?_push_size _ rfl
 have I4:Inv (gc X N scope C fp s2 H2) (pins++[(D,{cls:= .type "list",data:= .seq ([]:List MA).toArray})]) (dA ix σ) H2 {s2 with heap:=h₁,toks:=s2.toks+([]:List (Str×MA)).length}:=
  c.enter I2 f2 (T.obj _ _ st2) (by rw[hCs,hDe]) hDe.symm old hns₁ hoD fun v z=>by cases z
 have st4:tn 0 h₁:=T.keep _ _ _ st2 fun b _ o e=>old b o e;have pinD:∀p∈X.pn++pins,p.1≠D:=fun p hp=>Mu (ltS _ _ (I2.pin p hp).1);have pinC:∀p∈X.pn++pins,p.1≠C:=fun p hp=>ltC _ (ltS _ _ (I2.pin p hp).1);have celD:∀x d,X.env.cells.lookup x=some d->@LT.lt Nat _ d D:=fun x d e=>by
  obtain⟨v,o,ho,_⟩:=I2.cell x d e;exact ltS d o ho
 have fpD:∀b∈fp,@LT.lt Nat _ b D:=fun b hb=>by
  obtain⟨o,e,_⟩:=T.obj _ _ st2 b hb;exact ltS b o e
 have sub:∀x d,(dI X.env.cells scope.names []).lookup x=some d->X.env.cells.lookup x=some d:=fun x d e=>by
  rcases cM e with z|z
  .simp at z
  .exact z
 have stat:∀{H':Hp}{oD:Obj},(∀b∈fp,H' b=none)->∀b∈fp,ik (gc X N scope C fp s2 H2) (pins++[(D,oD)]) H' b:=fun{H' oD} hn b hb=>by
  obtain⟨f0,f1,f2,f3,f4,f5⟩:=f2 b hb;refine⟨hn b hb,ltC b (fpD b hb),fun z=>?_,.inl hb,fun x d e=>f4 x d (sub x d e),fun p hp=>?_⟩
  .rcases List.mem_cons.mp (I2.iO b z)with e|e
   .exact f1 e
   .exact f2 e
  .have hp:p∈X.pn++(pins++[(D,oD)]):=hp
   rw[←Mp]at hp;rcases List.mem_append.mp hp with z|z
   .exact f5 p z
   .have e:p=(D,oD):=by simpa using z
    subst e;exact Nat.ne_of_gt (fpD b hb)
 have loop:∀s3:MC,s3={s2 with heap:=h₁,toks:=s2.toks+([]:List (Str×MA)).length}->
   codeAny (model X.prog X.w) X.A (.compLoop (.ListComp elt [⟨tg,iter,[],0⟩,⟨tg2,iter2,[],0⟩] scope pos) 0 (.ref it) (.ref D) (gc X N scope C fp s2 H2).env) (RR (.ref D) C) s3:=by
  rintro s3 rfl;refine ql (hs2 C fp s2 H2) (fun n s'=>∃i σ' H' ys its k,Inv (gc X N scope C fp s2 H2) (pins++[(D,{cls:= .type "list",data:= .seq (List.toArray its) k})]) σ' H' s'/\tn i s'.heap/\(∀b∈fp,H' b=none)/\Vals ys its/\W i n ys σ' H') ?_ m0
   ⟨0,_,H2,[],[],_,I4,st4,fun b hb=>(f2 b hb).1,.nil,w0⟩
  rintro n s3 ⟨i,σ3,H3,ys,its,k,I3,st3,fr3,rv,w3⟩;rcases turn i n ys σ3 H3 w3 with⟨stop,hz,qn⟩|⟨go,step⟩
  .refine aV (T.done (gc X N scope C fp s2 H2) rfl rfl rfl hc i _ s3 σ3 H3 _ I3 (stat fr3) st3 stop) fun r s4 ⟨hr,I4⟩=>?_
   subst hr;have hDn:H3 D=none:=(I3.pin (D,_) (Mj _ (Mj _ Mg))).2.1;obtain⟨m4,hn4,_⟩:=id I4.loc;refine hR D C s4 _ m4 (c.leave I2 f2 (by rw[hCs,hDe]) hDe.symm I4 rv hz) hn4 ?_ ?_ pinC ?_ (fun x d e=>ltC d (celD x d e)) (qn D hDn)
   .rw[ao hDC.symm];exact I4.free
   .refine Mv I2.sz ?_
    rw[hDe,hCs];exact Nat.le_succ _
   .refine Nat.ne_of_gt (Mt I2.lt ?_)
    rw[hDe,hCs];exact Nat.le_succ _
  .refine aV (T.item (gc X N scope C fp s2 H2) rfl rfl rfl hc i _ s3 σ3 H3 _ I3 (stat fr3) st3 go) fun r s4 ⟨u,hr,h4⟩=>?_
   subst hr;refine aV h4 fun _ s5 ⟨x,H5,I5,r5,y5,st5,fr5⟩=>?_;have I5':=I5.pinned (stat fr5) (T.obj _ _ st5);refine aV (hg C fp s2 H2 _ s5 σ3 H5 x u _ I5' r5 (step x H5 y5)) fun _ s6 ⟨σ6,H6,I6,q6⟩=>?_;refine aV (hi2 C fp s2 H2 _ s6 σ6 H6 _ I6 q6) fun v s7 h7=>aV h7 fun itv2 s8 h8=>?_;obtain⟨it2,fp2,tn2,J2,H8,rfl,I8,T2,st8,f8,W2,⟨m20,w20⟩,turn2⟩:=h8;have keep:∀{s':MC}{σ':St}{H':Hp}{oD:Obj},Inv (gc X N scope C fp s2 H2) ((pins++[(D,oD)])++gQ fp s5.heap) σ' H' s'->tn (i+1) s'.heap/\∀b∈fp,H' b=none:=fun{s' σ' H' oD} I'=>by
    refine⟨T.keep _ _ _ st5 fun b hb o e=>(I'.pin (b,o) (Mj _ (Mj _ (bW hb e)))).1,fun b hb=>?_⟩;obtain⟨o,e,d⟩:=T.obj _ _ st5 b hb;exact(I'.pin (b,o) (Mj _ (Mj _ (bW hb e)))).2.1
   have n2D:∀b∈fp2,b≠D:=fun b hb z=>by
    obtain⟨f0,f1,f2',f3,f4,f5⟩:=f8 b hb;exact f5 (D,_) (Mj _ (Ml _ (Mj _ Mg))) z.symm
   have stat2:∀{H':Hp}{oD:Obj},(∀b∈fp2,H' b=none)->∀b∈fp2,ik (gc X N scope C fp s2 H2) ((pins++[(D,oD)])++gQ fp s5.heap) H' b:=fun{H' oD} hn b hb=>by
    obtain⟨f0,f1,f2',f3,f4,f5⟩:=f8 b hb;refine⟨hn b hb,f1,f2',f3,f4,fun p hp=>?_⟩;have hp:p∈X.pn++((pins++[(D,oD)])++gQ fp s5.heap):=hp;rcases List.mem_append.mp hp with z|z
    .exact f5 p (Ml _ z)
    .rcases List.mem_append.mp z with z|z
     .rcases List.mem_append.mp z with z|z
      .exact f5 p (Mj _ (Ml _ (Ml _ z)))
      .have e:p=(D,oD):=by simpa using z
       subst e;exact(n2D b hb).symm
     .exact f5 p (Mj _ (Mj _ z))
   have loop2:∀s9:MC,s9=s8->codeAny (model X.prog X.w) X.A (.compLoop (.ListComp elt [⟨tg,iter,[],0⟩,⟨tg2,iter2,[],0⟩] scope pos) 1 (.ref it2) (.ref D) (gc X N scope C fp s2 H2).env)
     (fun r s₅=>r= .ok .next/\∃m,m<n/\∃i σ' H' ys its k,Inv (gc X N scope C fp s2 H2) (pins++[(D,{cls:= .type "list",data:= .seq (List.toArray its) k})]) σ' H' s₅/\tn i s₅.heap/\(∀b∈fp,H' b=none)/\Vals ys its/\W i m ys σ' H') s9:=by
    rintro s9 rfl;refine p6 (fun n' s'=>∃j σ' H' ys' its' k',Inv (gc X N scope C fp s2 H2) ((pins++[(D,{cls:= .type "list",data:= .seq (List.toArray its') k'})])++gQ fp s5.heap) σ' H' s'/\tn2 j s'.heap/\(∀b∈fp2,H' b=none)/\Vals ys' its'/\W2 j n' ys' σ' H') ?_ m20
     ⟨0,σ6,H8,ys,its,k,I8,st8,fun b hb=>(f8 b hb).1,rv,w20⟩
    rintro n' s' ⟨j,σj,Hj,ysj,itsj,kj,Ij,stj,frj,rvj,wj⟩;rcases turn2 j n' ysj σj Hj wj with⟨stop2,m',hm',w'⟩|⟨go2,hz2,step2⟩
    .refine aV (T2.done (gc X N scope C fp s2 H2) rfl rfl rfl hc j _ s' σj Hj _ Ij (stat2 frj) stj stop2) fun r s10 ⟨hr,I10⟩=>?_
     subst hr;obtain⟨k1,k2⟩:=keep I10;exact⟨rfl,m',hm',i+1,σj,Hj,ysj,itsj,kj,I10.cD,k1,k2,rvj,w'⟩
    .refine aV (T2.item (gc X N scope C fp s2 H2) rfl rfl rfl hc j _ s' σj Hj _ Ij (stat2 frj) stj go2) fun r s10 ⟨u2,hr,h10⟩=>?_
     subst hr;refine aV h10 fun _ s11 ⟨y,H11,I11,r11,y11,st11,fr11⟩=>?_;have I11':=I11.pinned (stat2 fr11) (T2.obj _ _ st11);refine aV (hg2 C fp s2 H2 _ s11 σj H11 y u2 _ I11' r11 (step2 y H11 y11)) fun _ s12 ⟨σ12,H12,I12,q12⟩=>?_;refine aV (he C fp s2 H2 _ s12 σ12 H12 _ I12 q12) fun z s13 ⟨v13,H13,I13,r13,m3,hm3,w13⟩=>?_;have pD:=I13.pin (D,_) (Mj _ (Ml _ (Ml _ (Mj _ Mg))));have I13v:Inv (gc X N scope C fp s2 H2) pins σ12 H13 s13:=I13.cD.cD.cD;have len:=rvj.length;have k12:∀b∈fp2,H13 b=none:=fun b hb=>by
      obtain⟨o,e,d⟩:=T2.obj _ _ st11 b hb;exact(I13.pin (b,o) (Mj _ (Mj _ (bW hb e)))).2.1
     have k11:tn2 (j+1) s13.heap:=T2.keep _ _ _ st11 fun b hb o e=>(I13.pin (b,o) (Mj _ (Mj _ (bW hb e)))).1;refine wpAny_list_append_plain (items:=itsj.toArray) (hsz:=by simp;lia) ⟨kj,pD.1⟩ fun h9 hl9 hs9=>?_;obtain⟨k9,e9⟩:=hl9;have I9:Inv (gc X N scope C fp s2 H2) pins σ12 H13 {s13 with heap:=h9}:=by
      refine I13v.turned (t':=s13.toks) (it:=D) (fun b o hb e=>hs9.extBut b o hb e) pD.2.1 hDC (.inr ?_) (fun x d e=>Mu (celD x d (sub x d e))) fun p hp=>?_
      .show s2.heap.objs.size<=D
       rw[hDe];exact Ms _
      .exact pinD p hp
     have e9':h9.get? D=some {cls:= .type "list",data:= .seq (itsj++[z]).toArray k9}:=by
      rw[e9];simp
     refine⟨m3,hm3,j+1,σ12,H13,ysj++[v13],itsj++[z],k9,I9.kX fun p hp=>?_,T2.keep _ _ _ k11 fun b hb o e=>hs9.extBut b o (n2D b hb) e,k12,rvj.append (.cons r13 .nil),w13⟩;rcases List.mem_append.mp hp with q|q
     .rcases List.mem_append.mp q with q|q
      .exact I9.pin p (Mj _ q)
      .have e:p=(D,{cls:= .type "list",data:= .seq (itsj++[z]).toArray k9}):=by simpa using q
       subst e;exact⟨e9',pD.2.1,pD.2.2.1,pD.2.2.2.1,fun v z=>by cases z⟩
     .obtain⟨hb,_⟩:=rS q
      obtain⟨a1,a2,a3,a4,a5⟩:=I13.pin p (Mj _ (Ml _ (Mj _ q)));exact⟨hs9.extBut p.1 p.2 (Mu (fpD p.1 hb)) a1,a2,a3,a4,a5⟩
   exact w6 (loop2 _ rfl) (T2.self _ 0 _ _ _ st8 (loop2 _ rfl))
 exact codeAny_compStart_list (loop _ rfl) (T.self _ 0 _ _ _ st4 (loop _ rfl))
variable{wi:TI}
theorem Bm(c:eF X scope N ix)(hc:X.calm=true)(hi:PI X tg iter wi)(hg:∀C fp s H,PG (gc X N scope C fp s H) tg g)(hi2:∀C fp s H,PI (gc X N scope C fp s H) tg2 iter2 wi2)(hg2:∀C fp s H,PG (gc X N scope C fp s H) tg2 g2)(he:∀C fp s H,PE (gc X N scope C fp s H) elt te)
  (hs:∀x,foldedSetIterable iter X.env x=pure x:=by intro _;rfl) (hs2:∀C fp s H x,foldedSetIterable iter2 (gc X N scope C fp s H).env x=pure x:=by intro _ _ _ _ _;rfl):PE X (.ListComp elt [⟨tg,iter,[],0⟩,⟨tg2,iter2,[],0⟩] scope pos) (Ga ix wi g wi2 g2 te):=by
 intro pins s σ H Q I h;rw[eval_ListComp];have hcl:∀y∈scope.names,y.2=MR.free->∃d,X.env.cells.lookup y.1=some d:=fun y hy e=>I.ok.has _ (c.fr y hy e);refine wpAny_comprehension_free (use:=none) rfl hs (fm hcl) c.kind c.names (aV (hi pins s σ H _ I h) fun v s1 h1=>aV h1 fun itv s2 h2=>?_);refine vF (RR:=fun acc C=>compPost (model X.prog X.w) X.A X.xe none (EP X pins σ Q) acc C) c hc hg hi2 hg2 he hs2 h2 ?_;intro D C s' H' m I' hn hC hz hp hL hcells q;exact⟨m,hn,fun h' hs'=>⟨.ref D,H',I'.turned (t':=s'.toks) (fun b o hb e=>hs'.extBut b o hb e) hC hL (.inr hz) hcells hp,rfl,q⟩⟩
end
theorem Eg{K:W.Frag}{a:MB}{xs:List V}{k:Nat}{te:TE}{ys:List V}{σ:St}{H:Hp}{R:List V->St->Hp->Prop}(Pw:Nat->List V->St->Hp->Prop)(h0:Pw 0 ys σ H)
  (hl:∀j ys σ H,j<=xs.length->Pw j ys σ H->aG K H a xs) (hz:∀j ys σ H,Pw j ys σ H->ys.length<1000000)
  (hs:∀j ys σ H x(S:List V->St->Hp->Prop),xs[j]?=some x->Pw j ys σ H->(∀ys' σ' H',Pw (j+1) ys' σ' H'->S ys' σ' H')->te (σ.set k (some x)) H fun v H5=>S (ys++[v]) (σ.set k (some x)) H5)
  (hd:∀ys σ H,Pw xs.length ys σ H->R ys σ H):
  ∃W2:WC,(∃m2,W2 0 m2 ys σ H)/\∀j m2 ys' σ3 H5,W2 j m2 ys' σ3 H5->
   ((Ay K a).stop j H5/\R ys' σ3 H5)\/
   ((Ay K a).go j H5/\ys'.length<MG/\∀y H6,(Ay K a).Aw j H5 y H6->cu k y σ3 H6 fun σ4 H7=>te σ4 H7 fun v H8=>∃m3,m3<m2/\W2 (j+1) m3 (ys'++[v]) σ4 H8):=by
 have big:(1000000:Nat)<MG:=by decide
 refine⟨fun j m ys σ H=>m=xs.length-j/\j<=xs.length/\Pw j ys σ H,⟨xs.length,by simp,Mw _,h0⟩,?_⟩;rintro j m ys' σ3 H5 ⟨rfl,hj,p⟩;have hy:=hz j ys' σ3 H5 p;by_cases hlt:j<xs.length
 .refine .inr ⟨⟨xs,xs[j],hl j ys' σ3 H5 hj p,by simp[hlt]⟩,by lia,fun y H6 yy=>?_⟩
  obtain⟨rfl,yy⟩:=yy;unfold cu;exact hs j ys' σ3 _ y (fun ys2 σ2 H2=>∃m3,m3<xs.length-j/\(m3=xs.length-(j+1)/\j+1<=xs.length/\Pw (j+1) ys2 σ2 H2)) (yy xs (hl j ys' σ3 _ hj p)) p fun ys2 σ2 H2 q=>⟨xs.length-(j+1),by lia,rfl,hlt,q⟩
 .have e:j=xs.length:=by lia
  subst e;exact .inl ⟨⟨xs,hl _ ys' σ3 H5 (Ms _) p,Ms _⟩,hd ys' σ3 H5 p⟩
theorem Gr{K:W.Frag}{ix:List (Option Nat)}{wi2:TI}{g2:TG}{te:TE}{σ:St}{Q:VK}{H:Hp}{a:MB}{xs:List V}{k:Nat}(Pv:Nat->List V->St->Hp->Prop)(h0:Pv 0 [] (dA ix σ) H)
  (hl:∀i ys σ H,i<=xs.length->Pv i ys σ H->aG K H a xs) (hz:∀i ys σ H,Pv i ys σ H->ys.length<1000000)
  (hs:∀i ys σ H x(R:List V->St->Hp->Prop),xs[i]?=some x->Pv i ys σ H->(∀ys' σ' H',Pv (i+1) ys' σ' H'->R ys' σ' H')->wi2 (σ.set k (some x)) H fun J2 H4=>
   ∃W2:WC,(∃m2,W2 0 m2 ys (σ.set k (some x)) H4)/\∀j m2 ys' σ3 H5,W2 j m2 ys' σ3 H5->
    (J2.stop j H5/\R ys' σ3 H5)\/
    (J2.go j H5/\ys'.length<MG/\∀y H6,J2.Aw j H5 y H6->g2 y σ3 H6 fun σ4 H7=>te σ4 H7 fun v H8=>∃m3,m3<m2/\W2 (j+1) m3 (ys'++[v]) σ4 H8))
  (hd:∀ys σ' H' p,Pv xs.length ys σ' H'->H' p=none->Q (.ref p) (upd H' p (.lst ys))):xP ix (cu k) wi2 g2 te σ Q (Ay K a) H:=by
 have big:(1000000:Nat)<MG:=by decide
 refine⟨fun i m ys σ H=>m=xs.length-i/\i<=xs.length/\Pv i ys σ H,⟨xs.length,by simp,Mw _,h0⟩,?_⟩;rintro i m ys σ' H' ⟨rfl,hi,p⟩;have hy:=hz i ys σ' H' p;by_cases hlt:i<xs.length
 .refine .inr ⟨⟨xs,xs[i],hl i ys σ' H' hi p,by simp[hlt]⟩,fun x H2 yy=>?_⟩
  obtain⟨rfl,yy⟩:=yy;unfold cu;exact hs i ys σ' _ x (fun ys2 σ2 H2=>∃m3,m3<xs.length-i/\(m3=xs.length-(i+1)/\i+1<=xs.length/\Pv (i+1) ys2 σ2 H2)) (yy xs (hl i ys σ' _ hi p)) p fun ys2 σ2 H2 q=>⟨xs.length-(i+1),by lia,rfl,hlt,q⟩
 .have e:i=xs.length:=by lia
  subst e;exact .inl ⟨⟨xs,hl _ ys σ' H' (Ms _) p,Ms _⟩,by lia,fun q hq=>hd ys σ' H' q p hq⟩
end L2
namespace Sw
open PySem L2
def fW(r:List Int):List (Int×Int):=r.tail.map fun y=>(r.headD 0,y)
def jh(n:Int)(xs:List Int):List (Int×Int):=((aX n xs).map fW).flatten
theorem An{n:Int}{xs:List Int}(o:Ord n xs):Good n (jh n xs):=by
 intro e he;unfold jh at he;obtain⟨l,hl,hel⟩:=List.mem_flatten.mp he;obtain⟨r,hr,rfl⟩:=List.mem_map.mp hl;unfold aX at hr;obtain⟨m,hm,rfl⟩:=List.mem_map.mp hr;obtain⟨hm1,hm2⟩:=List.mem_filter.mp hm;have hm1:=cI.mp hm1;have eo:gX xs m=m::(gX xs m).tail:=by
  unfold gX;have:gC xs m=gC xs m-1+1:=by unfold gC;lia
  rw[this,List.range_succ_eq_map,L9];rfl
 unfold fW at hel;obtain⟨y,hy,rfl⟩:=List.mem_map.mp hel;have hh:(gX xs m).headD 0=m:=by rw[eo];rfl
 rw[hh];have hyo:y∈gX xs m:=by rw[eo];exact Mh _ hy
 have nd:=qG o hm1.1 (by lia);rw[eo]at nd;have ne:y≠m:=fun z=>(List.nodup_cons.mp nd).1 (by have q:=hy;rw[z]at q;exact q);unfold least at hm2;have le:=of_decide_eq_true (List.all_eq_true.mp hm2 y hyo);have yi:=xO o hm1.1 (by lia) hyo;exact⟨hm1.1,by show m<y;lia,yi.2⟩
theorem qL:∀{rs:List (List Int)},(∀r∈rs,r≠[])->((rs.map fW).flatten).length+rs.length=rs.flatten.length
 |[],_=>rfl
 |r::rs,h=>by
  have ih:=qL (rs:=rs) fun q hq=>h q (Mh _ hq);have rp:0<r.length:=List.length_pos_iff.mpr (h r Mg);rw[L9,List.flatten_cons,List.flatten_cons,LY,LY,L8];have:(fW r).length=r.length-1:=by unfold fW;rw[LW,List.length_tail]
  lia
theorem AK{n:Int}{xs:List Int}(o:Ord n xs)(hn:0<=n):(jh n xs).length+cnt n xs=n.toNat:=by
 have h:=qL (rs:=aX n xs) fun r hr=>(jM o hr).1;have pm:(aX n xs).flatten.Perm (eB 1 (n+1)):=(List.perm_ext_iff_of_nodup (lZ o) (gk _ _)).mpr fun x=>by
  rw[cI];constructor
  .intro hx
   obtain⟨r,hr,hxr⟩:=List.mem_flatten.mp hx;obtain⟨i,hi,e⟩:=List.mem_iff_getElem.mp hxr;have:=(jM o hr).2 i x (by rw[LZ hi,e]);lia
  .intro hx
   exact nP o hx.1 (by lia)
 have l:=pm.length_eq;rw[a8]at l;have c:(aX n xs).length=cnt n xs:=by unfold aX cnt;rw[LW]
 unfold jh;lia
end Sw
namespace L2
open PySem PySem.Spec PyProof.Rows PySem.SeqAt
inductive nB(pr:Params):List DictEntry->List (Str×Str)->Prop
 |nil:nB pr [] []
 |cons {x y:Str} {t u:Tok} {es:List DictEntry} {ps:List (Str×Str)}:nB pr es ps->nB pr ({hash:=PyData.keyHash pr x,key:= .str x t,val:= .str y u}::es) ((x,y)::ps)
structure BS(K:W.Frag)(pr:Params)(a:MB)(ps:List (Str×Str)):Prop where
 sys:(a==sysModules)=false
 nd:(ps.map (·.1)).Nodup
 ex:∃(es:List DictEntry)(ep:Nat),K.lookup a=some {cls:= .type "dict",data:= .dict es.toArray ep}/\nB pr es ps
def CY(ps:List (Str×Str)):List (Key×V):=ps.map fun p=>(Sum.inr p.1,V.str p.2)
section
variable{X:Cx}{K:W.Frag}
theorem nB.go {pr:Params}{P:MD}{w:ME}(hp:w.params=pr):∀{es:List DictEntry}{ps:List (Str×Str)},nB pr es ps->∃vs:List (Key×MA),KV (CY ps) vs/\(∀e∈es,∃k,(a6 P w).is k e.key=true/\e.hash=(a6 P w).hash k)/\Pairs (a6 P w) es vs/\vs.map (·.1)=ps.map fun p=>Sum.inr p.1
 |_,_,.nil=>⟨[],.nil,by simp,.nil,rfl⟩
 |_,_,.cons (x:=x) (y:=y) (t:=t) (u:=u) r=>by
  obtain⟨vs,h1,h2,h3,h4⟩:=nB.go (P:=P) hp r;have hi:(a6 P w).is (Sum.inr x) (MA.str x t)=true:=by
   show MA.isStrOf x (MA.str x t)=true;simp[MA.isStrOf]
  refine⟨(Sum.inr x,.str y u)::vs,?_,?_,.cons hi rfl h3,by rw[L9,h4];rfl⟩
  .exact Paired.cons ⟨rfl,⟨u,rfl⟩⟩ h1
  .intro e he
   rcases List.mem_cons.mp he with rfl|he
   .refine⟨Sum.inr x,hi,?_⟩
    subst hp;rfl
   .exact h2 e he
theorem BS.dict {pins:List (MB×Obj)}{σ:St}{H:Hp}{s:MC}{a:MB}{ps:List (Str×Str)}(k:BS X.K X.w.params a ps)(I:Inv X pins σ H s):∃vs:List (Key×MA),KV (CY ps) vs/\s.heap.DictOf (a6 X.prog X.w) a vs:=by
 obtain⟨es,ep,hl,ht⟩:=k.ex;obtain⟨vs,h1,h2,h3,h4⟩:=nB.go (P:=X.prog) (w:=X.w) rfl ht;refine⟨vs,h1,_,es.toArray,ep,I.je a _ hl,⟨rfl,rfl,rfl⟩,rfl,fun e he=>h2 e (by simpa using he),by simpa using h3,?_⟩;rw[h4];have:=k.nd;rw[show(ps.map fun p=>(Sum.inr p.1:Key))=(ps.map (·.1)).map Sum.inr by rw[Md];rfl];exact this.map _ fun x y h e=>h (Sum.inr.inj e)
theorem DY(ps:List (Str×Str))(k:Str):(bV (CY ps) (Sum.inr k:Key)).isSome=decide (k∈ps.map (·.1)):=by
 unfold CY bV
 induction ps with
 |nil=>rfl
 |cons p t ih=>
  rw[L9,List.find?_cons];by_cases h:p.1=k
  .have:decide ((Sum.inr p.1:Key)=Sum.inr k)=true:=decide_eq_true (by rw[h])
   simp only[this];simp[h]
  .have:decide ((Sum.inr p.1:Key)=Sum.inr k)=false:=decide_eq_false fun z=>h (Sum.inr.inj z)
   simp only[this];rw[ih,L9,Bool.eq_iff_iff,decide_eq_true_eq,decide_eq_true_eq,Mb];exact⟨.inr,fun z=>z.resolve_left fun z=>h z.symm⟩
def DM(a:MB)(ps:List (Str×Str))(ty td:TE):TE:=fun σ H Q=>ty σ H fun y H1=>td σ H1 fun x H2=>∃k,x= .ref a/\y= .str k/\Q (.bl (!decide (k∈ps.map (·.1)))) H2
theorem z7{i o:Expr}{ty td:TE}{a:MB}{ps:List (Str×Str)}(kt:BS X.K X.w.params a ps)(hi:PE X i ty)(ho:PE X o td):PC X .NotIn i o (DM a ps ty td):=by
 intro pins s σ H Q I h;refine aV (hi pins s σ H _ I h) fun iv s1 ⟨y,H1,I1,ry,q1⟩=>aV (ho pins s1 σ H1 _ I1 q1) fun u s2 ⟨x,H2,I2,rx,k,ex,ey,q2⟩=>?_;subst ex;subst ey;obtain rfl:u=MA.ref a:=rx;obtain⟨vs,rel,dd⟩:=kt.dict I2;refine wpAny_notIn_of (hV (k:=Sum.inr k) ry) kt.sys dd.mapOf ?_;rw[←(rel.val (Sum.inr k)).dm,DY];exact⟨.bl _,H2,I2.tok _,rfl,q2⟩
end
section
variable{X:Cx}{K:W.Frag}
def E2(f:Str->Bool):V->List V->Hp->VK->Prop:=fun x vs H Q=>∃z,x= .str z/\vs=[]/\Q (.bl (f z)) H
theorem wV:zW X "str.isascii" (E2 Txt.isascii):=by
 intro pins s σ H x vs v us Q I rx rv h;obtain⟨z,rfl,rfl,q⟩:=h;obtain⟨t,rfl⟩:=rx;cases rv;exact SC.isascii ⟨.bl _,H,I,rfl,q⟩
theorem wQ:zW X "str.isdigit" (E2 Txt.isdigit):=by
 intro pins s σ H x vs v us Q I rx rv h;obtain⟨z,rfl,rfl,q⟩:=h;obtain⟨t,rfl⟩:=rx;cases rv;exact SC.isdigit ⟨.bl _,H,I,rfl,q⟩
def EM:V->List V->Hp->VK->Prop:=fun x vs H Q=>∃z y,x= .str z/\vs=[.str y]/\Q (.bl (Txt.startswith z y)) H
theorem Ab:zW X "str.startswith" EM:=by
 intro pins s σ H x vs v us Q I rx rv h;obtain⟨z,y,rfl,rfl,q⟩:=h;obtain⟨t,rfl⟩:=rx;obtain⟨u,rfl,t',rfl⟩:=rv.one;exact SC.startswith ⟨.bl _,H,I,rfl,q⟩
theorem qF:∀{ts:List Str}{us:List MA},Vals (ts.map V.str) us->∃l:List (Str×Tok),us=strValues l/\l.map (·.1)=ts
 |[],_,.nil=>⟨[],rfl,rfl⟩
 |x::r,_,.cons h t=>by
  obtain⟨tk,rfl⟩:=h;obtain⟨l,e1,e2⟩:=qF t;exact⟨(x,tk)::l,by rw[e1];rfl,by rw[L9,e2]⟩
theorem rC:∀(l:List (Str×Tok)),Vals ((l.map (·.1)).map V.str) (strValues l)
 |[]=> .nil
 |(x,t)::l=> .cons ⟨t,rfl⟩ (rC l)
def rJoin(K:W.Frag):V->List V->Hp->VK->Prop:=fun x vs H Q=>∃(z:Str)(p:MB)(ts:List Str),x= .str z/\vs=[.ref p]/\aG K H p (ts.map V.str)/\JoinOk z ts=true/\Q (.str (Str.join z ts)) H
theorem gb(hK:X.K=K):zW X "str.join" (rJoin K):=by
 subst hK;intro pins s σ H x vs v us Q I rx rv h;obtain⟨z,p,ts,rfl,rfl,hp,hj,q⟩:=h;obtain⟨t,rfl⟩:=rx;obtain⟨u,rfl,ru⟩:=rv.one;cases ru;obtain⟨its,r,pl,_⟩:=I.list hp;obtain⟨l,rfl,e⟩:=qF r;refine SC.join pl.isList e hj fun t' k=>⟨.str _,H,I.tok _,⟨t',rfl⟩,?_⟩;rw[show Txt.join z ts=Str.join z ts from StrLaws.glued_eq_join z ts];exact q
theorem Ac(x y:Str):(MS.Str.partsBetween x (MS.Str.occurrences x y 0 x.length (x.length+1)) y.length).length<=x.length+2:=by
 have h:=StrLaws.occ_length_le x y 0 x.length (x.length+1);unfold MS.Str.partsBetween;rw[LW,List.length_zip,L8,LW,LY,List.length_singleton];lia
def GH:V->List V->Hp->VK->Prop:=fun x vs H Q=>∃(z y:Str),x= .str z/\vs=[.str y]/\(y.length==0)=false/\z.length<=1000000/\∀l,H l=none->Q (.ref l) (upd H l (.lst ((Txt.split z y).map V.str)))
theorem jx:zW X "str.split" GH:=by
 intro pins s σ H x vs v us Q I rx rv h;obtain⟨z,y,rfl,rfl,hy,hz,q⟩:=h;obtain⟨t,rfl⟩:=rx;obtain⟨u,rfl,t',rfl⟩:=rv.one;have big:(10000000:Nat)<=MG:=by decide
 have one:1<=MG:=by decide
 have key:∀(l:List (Str×Tok))(tk:Nat),l.map (·.1)=Txt.split z y->l.length<=MG->EP X pins σ Q (.ref s.heap.objs.size) {s with toks:=tk,heap:=s.heap.push {cls:= .type "list",data:= .seq (strValues l).toArray}}:=fun l tk e hl=>by
  have v:=rC l;rw[e]at v;have vl:=v.length;refine⟨.ref s.heap.objs.size,_,I.laid (o:= .lst ((Txt.split z y).map V.str)) (fun b o e=>MN.get?_push_of_some _ e) (Ms _) ⟨?_,strValues l,0,v,MN.get?_push_size _ rfl⟩,rfl,q _ (I.bc.fresh (Ms _))⟩;rw[vl];unfold strValues;rw[LW];exact hl
 cases h1:(decide (z.length<y.length)||decide (MS.Str.strKind z<MS.Str.strKind y))with
 |true=>
  refine call_meets F.slot_str_split (typeIs_str _ _ _) F.entry_str_split (F.args_str_split_2 _ _) (meets_str_split_cannot_occur z y t t' h1) ?_;exact key [(z,t)] s.toks (by unfold Txt.split;rw[if_pos h1];rfl) one
 |false=>
  cases hf:(MS.Str.occurrences z y 0 z.length (z.length+1)).isEmpty with
  |true=>
   refine call_meets F.slot_str_split (typeIs_str _ _ _) F.entry_str_split (F.args_str_split_2 _ _) (meets_str_split_not_found z y t t' h1 hy hf) ?_;exact key [(z,t)] s.toks (by unfold Txt.split;rw[if_neg (by rw[h1];exact Mx),if_pos hf];rfl) one
  |false=>
   have Jp:=Ac z y;refine call_meets F.slot_str_split (typeIs_str _ _ _) F.entry_str_split (F.args_str_split_2 _ _) (meets_str_split_sep z y t t' h1 hy hf (by lia) (by lia)) ?_;have k:=key (numbered s.toks (MS.Str.partsBetween z (MS.Str.occurrences z y 0 z.length (z.length+1)) y.length)) (s.toks+(MS.Str.partsBetween z (MS.Str.occurrences z y 0 z.length (z.length+1)) y.length).length)
    ((numbered_texts _ _).trans (by unfold Txt.split;rw[if_neg (by rw[h1];exact Mx),if_neg (by rw[hf];exact Mx)])) (by
     have:=congrArg List.length (numbered_texts s.toks (MS.Str.partsBetween z (MS.Str.occurrences z y 0 z.length (z.length+1)) y.length));rw[LW]at this;lia)
   rw[←strsFrom_eq]at k;exact k
def Fp:List V->Hp->VK->Prop:=fun xs H Q=>∃z n,xs=[.str z]/\PySem.intText? z=some n/\z.length<=640/\Q (.int n) H
theorem qq:bX X (.type "int") Fp:=by
 intro pins s σ H xs us Q I r h;obtain⟨z,n,rfl,hn,hl,q⟩:=h;obtain⟨u,rfl,t,rfl⟩:=vals1 r;exact W.KIN.call_text hn hl ⟨.int n,H,I.tok _,⟨_,rfl⟩,q⟩
def Ka(te:TE):TE:=fun σ H Q=>te σ H fun x H1=>∃i,x= .int i/\i.natAbs.log2<1920/\Q (.str (toString i)) H1
theorem Bp{e:Expr}{te:TE}{pos:Pos}(h:PE X e te):PE X (.FormattedValue e (-1) none pos) (Ka te):=by
 intro pins s σ H Q I q;refine wpAny_FormattedValue_plain (aV (h pins s σ H _ I q) fun v s1 ⟨x,H1,I1,r1,i,e1,hi,q1⟩=>?_);subst e1;obtain⟨t,rfl⟩:=r1;exact wpAny_formatField_int hi ⟨.str _,H1,I1.tok _,⟨_,rfl⟩,q1⟩
def KS(ta tb tc:TE):TE:=fun σ H Q=>ta σ H fun x H1=>∃p,x= .str p/\p.length<=1000000/\tb σ H1 fun y H2=>∃q,y= .str q/\q.length<=1000000/\tc σ H2 fun z H3=>∃r,z= .str r/\r.length<=1000000/\Q (.str (p++q++r)) H3
theorem Gz{a b c:Expr}{ta tb tc:TE}{pos:Pos}(ha:PE X a ta)(hb:PE X b tb)(hc:PE X c tc):PE X (.JoinedStr [a,b,c] pos) (KS ta tb tc):=by
 intro pins s σ H Q I h;have big:(10000000:Nat)<=MG:=by decide
 refine wpAny_JoinedStr ?_;refine aV (ha pins s σ H _ I h) fun v s1 ⟨x,H1,I1,r1,p,e1,hp,q1⟩=>?_;subst e1;obtain⟨t1,rfl⟩:=r1;refine⟨p,t1,rfl,by rw[Str.empty_append];lia,?_⟩;refine aV (hb pins s1 σ H1 _ I1 q1) fun v s2 ⟨x,H2,I2,r2,q,e2,hq,q2⟩=>?_;subst e2;obtain⟨t2,rfl⟩:=r2;refine⟨q,t2,rfl,by rw[Str.empty_append,Str.length_append];lia,?_⟩;refine aV (hc pins s2 σ H2 _ I2 q2) fun v s3 ⟨x,H3,I3,r3,r,e3,hr,q3⟩=>?_;subst e3;obtain⟨t3,rfl⟩:=r3;refine⟨r,t3,rfl,by rw[Str.empty_append,Str.length_append,Str.length_append];lia,?_,?_⟩
 .rw[Str.empty_append,Str.length_append,Str.length_append];lia
 .rw[Str.empty_append]
  exact⟨.str _,H3,I3.tok _,⟨_,rfl⟩,q3⟩
end
end L2
namespace Sw
open PySem L2
def DX(e o:Int×Int):Int×Int:=(min (bw e.1 o) (bw e.2 o),max (bw e.1 o) (bw e.2 o))
theorem AO{x y:Int}{e:Int×Int}(h:bw x e=bw y e):x=y:=by rw[←nV x e,h,nV]
theorem ug{n:Int}{s t:Int×Int}(hs:1<=s.1/\s.1<s.2/\s.2<=n)(ht:1<=t.1/\t.1<t.2/\t.2<=n):1<=(DX s t).1/\(DX s t).1<(DX s t).2/\(DX s t).2<=n:=by
 have a:=sJ ht (x:=s.1) (by lia) (by lia);have b:=sJ ht (x:=s.2) (by lia) (by lia);have ne:bw s.1 t≠bw s.2 t:=fun z=>by have:=AO z;lia
 unfold DX;simp only;lia
def Et(s t:Int×Int)(f:Bool):List (Int×Int):=if f=true then [t,DX s t]else [DX t s,s]
theorem EK(s t:Int×Int)(f:Bool):(Et s t f).length=2:=by unfold Et;split<;>rfl
def t7(row:List (Int×Int))(i:Nat)(f:Bool):List (Int×Int):=row.take i++Et (row.getD i (0,0)) (row.getD (i+1) (0,0)) f++row.drop (i+2)
theorem rH{row:List (Int×Int)}{i:Nat}(h:i+1<row.length):∃A s t B,row=A++s::t::B/\A.length=i:=by
 refine⟨row.take i,row[i],row[i+1],row.drop (i+2),?_,by rw[Ma];lia⟩;rw[List.getElem_cons_drop,List.getElem_cons_drop,List.take_append_drop]
theorem E7(A B:List (Int×Int))(s t:Int×Int)(f:Bool):t7 (A++s::t::B) A.length f=A++Et s t f++B:=by
 unfold t7;rw[List.take_left];have e1:(A++s::t::B).getD A.length (0,0)=s:=by
  rw[Me,List.getElem?_append_right (Ms _),Nat.sub_self];rfl
 have e2:(A++s::t::B).getD (A.length+1) (0,0)=t:=by
  rw[Me,List.getElem?_append_right (by lia),show A.length+1-A.length=1 by lia];rfl
 have e3:(A++s::t::B).drop (A.length+2)=B:=by
  rw[List.drop_append,List.drop_eq_nil_of_le (by lia),show A.length+2-A.length=2 by lia];rfl
 rw[e1,e2,e3]
theorem Cc{row:List (Int×Int)}{i:Nat}(h:i+1<row.length)(f:Bool):(t7 row i f).length=row.length:=by
 obtain⟨A,s,t,B,rfl,rfl⟩:=rH h;rw[E7,LY,LY,EK,LY,L8,L8];lia
theorem yD{n:Int}{row:List (Int×Int)}{i:Nat}(g:Good n row)(h:i+1<row.length)(f:Bool):Good n (t7 row i f):=by
 obtain⟨A,s,t,B,rfl,rfl⟩:=rH h;have gs:=g s (by simp);have gt:=g t (by simp);rw[E7];intro e he;rcases List.mem_append.mp he with he|he
 .rcases List.mem_append.mp he with he|he
  .exact g e (by simp[he])
  .unfold Et at he
   split at he
   .rcases List.mem_cons.mp he with rfl|he
    .exact gt
    .rw[List.mem_singleton.mp he];exact ug gs gt
   .rcases List.mem_cons.mp he with rfl|he
    .exact ug gt gs
    .rw[List.mem_singleton.mp he];exact gs
 .exact g e (by simp[he])
def eW(f:Bool):Str:=if f=true then LV "forth"else LV "back"
theorem Bh{f g:Bool}(h:eW f=eW g):f=g:=by
 cases f<;>cases g<;>first|rfl|exact absurd h (by decide)
def signs(x:Str):List Nat:=x.cps.toList
theorem bT{x y:Str}(h:signs x=signs y):x=y:=Str.ext' (Array.toList_inj.mp h)
theorem aZ(x y:Str):signs (x++y)=signs x++signs y:=by
 show(x.cps++y.cps).toList=_;rw[Array.toList_append];rfl
theorem bB(x:Str):(signs x).length=x.length:=Array.length_toList
def glue(c:Nat):List (List Nat)->List Nat
 |[]=>[]
 |[x]=>x
 |x::y::r=>x++c::glue c (y::r)
theorem cG(c:Nat):∀ts:List Str,signs (Str.join ⟨#[c]⟩ ts)=glue c (ts.map signs)
 |[]=>rfl
 |[x]=>rfl
 |x::y::r=>by
  show signs (x++(⟨#[c]⟩:Str)++Str.join ⟨#[c]⟩ (y::r))=signs x++c::glue c ((y::r).map signs);rw[aZ,aZ,cG c (y::r),Mp];rfl
theorem sk{c:Nat}:∀{p q r s:List Nat},c∉p->c∉q->p++c::r=q++c::s->p=q/\r=s
 |[],[],r,s,_,_,h=>by
  injection h with _ h
  exact⟨rfl,h⟩
 |[],b::q,r,s,_,hq,h=>by
  injection h with h _
  exact absurd Mg (h▸hq)
 |a::p,[],r,s,hp,_,h=>by
  injection h with h _
  exact absurd Mg (h▸hp)
 |a::p,b::q,r,s,hp,hq,h=>by
  injection h with h1 h2
  obtain⟨e1,e2⟩:=sk (fun z=>hp (Mh _ z)) (fun z=>hq (Mh _ z)) h2;exact⟨by rw[h1,e1],e2⟩
theorem vg{c:Nat}:∀{ps qs:List (List Nat)},ps≠[]->qs≠[]->(∀p∈ps,c∉p)->(∀q∈qs,c∉q)->glue c ps=glue c qs->ps=qs
 |[],_,h,_,_,_,_=>absurd rfl h
 |_,[],_,h,_,_,_=>absurd rfl h
 |[x],[y],_,_,_,_,h=>by rw[show x=y from h]
 |[x],y::z::r,_,_,h1,_,h=>by
  have h:x=y++c::glue c (z::r):=h;exact absurd (by rw[h];exact Mj _ Mg) (h1 x Mg)
 |x::z::r,[y],_,_,_,h2,h=>by
  have h:x++c::glue c (z::r)=y:=h;exact absurd (by rw[←h];exact Mj _ Mg) (h2 y Mg)
 |x::y::r,z::w::s,_,_,h1,h2,h=>by
  obtain⟨e1,e2⟩:=sk (h1 x Mg) (h2 z Mg) (show x++c::glue c (y::r)=z++c::glue c (w::s)from h);rw[e1,vg (by simp) (by simp) (fun p hp=>h1 p (Mh _ hp)) (fun p hp=>h2 p (Mh _ hp)) e2]
theorem oZ(x y:Str):Txt.split x y≠[]:=by
 unfold Txt.split
 split
 .simp
 .split
  .simp
  .rw[StrLaws.partsBetween_eq]
   obtain⟨p,r,e⟩:=StrLaws.partsFrom_ne x y.length 0 (MS.Str.occurrences x y 0 x.length (x.length+1));rw[e];simp
theorem gT:∀{a b:List Str},a.map signs=b.map signs->a=b
 |[],[],_=>rfl
 |[],_::_,h=>by simp at h
 |_::_,[],h=>by simp at h
 |x::a,y::b,h=>by
  rw[L9,L9]at h;injection h with h1 h2
  rw[bT h1,gT h2]
theorem fF{c:Nat}{ts:List Str}(ne:ts≠[])(free:∀p∈ts,c∉signs p):Txt.split (Str.join ⟨#[c]⟩ ts) ⟨#[c]⟩=ts:=by
 have e:=StrLaws.join_split (Str.join ⟨#[c]⟩ ts) ⟨#[c]⟩;have f:=StrLaws.split_free (Str.join ⟨#[c]⟩ ts) c;have e2:glue c ((Txt.split (Str.join ⟨#[c]⟩ ts) ⟨#[c]⟩).map signs)=glue c (ts.map signs):=by
  rw[←cG,←cG,e]
 refine gT (vg (by simpa using oZ _ _) (by simpa using ne) ?_ ?_ e2)
 .intro p hp
  obtain⟨q,hq,rfl⟩:=List.mem_map.mp hp;exact f q hq
 .intro p hp
  obtain⟨q,hq,rfl⟩:=List.mem_map.mp hp;exact free q hq
def aM(i:Int):Str:=LV (toString i)
theorem mv(m:Nat):signs (aM (m:Int))=(Nat.toDigits 10 m).map Char.toNat:=W.KIN.signs_num m
theorem eR{i:Int}(h:0<=i):∀c∈signs (aM i),48<=c/\c<=57:=by
 obtain⟨m,rfl⟩:=Int.eq_ofNat_of_zero_le h;intro c hc;rw[mv]at hc;obtain⟨ch,hch,e⟩:=List.mem_map.mp hc;rw[←e];exact PyProof.Rows.digit_range (Nat.isDigit_of_mem_toDigits (by decide) (by decide) hch)
theorem ic{i:Int}(h:0<=i){c:Nat}(hc:c<48\/57<c):c∉signs (aM i):=fun z=>by
 have:=eR h c z;lia
theorem yo{i:Int}(h:0<=i):0<(aM i).length:=by
 obtain⟨m,rfl⟩:=Int.eq_ofNat_of_zero_le h;rw[←bB,mv,LW];exact PySem.toDigits_len_ge 10 m
theorem zK{i:Int}(h:0<=i):Txt.isascii (aM i)=true:=by
 unfold Txt.isascii;rw[Array.all_eq_true'];intro c hc;have:=eR h c (by simpa [signs]using hc);exact decide_eq_true (by lia)
theorem EG:∀c,48<=c->c<=57->Unicode.isDigit c=true:=by
 intro c h1 h2;have:c=48\/c=49\/c=50\/c=51\/c=52\/c=53\/c=54\/c=55\/c=56\/c=57:=by lia
 rcases this with rfl|rfl|rfl|rfl|rfl|rfl|rfl|rfl|rfl|rfl<;>decide+kernel
theorem u9{i:Int}(h:0<=i):Txt.isdigit (aM i)=true:=by
 unfold Txt.isdigit;rw[Bool.and_eq_true];refine⟨decide_eq_true (yo h),?_⟩;rw[Array.all_eq_true'];intro c hc;have:=eR h c (by simpa [signs]using hc);exact EG c this.1 this.2
theorem fB{i:Int}(h:0<=i)(h9:i<10^9):(aM i).length<=9:=PyProof.Rows.toString_length_le h (by decide) h9
theorem sN{i:Int}(h:0<=i)(h9:i<10^10):PySem.intText? (aM i)=some i:=W.KIN.num_reads h h9
theorem Be(m:Nat)(hm:0<m):∃d r,(Nat.toDigits 10 m).map Char.toNat=d::r/\d≠48:=by
 induction m using Nat.strongRecOn with
 |_ m ih=>
  by_cases h:m<10
  .rw[Nat.toDigits_of_lt_base h]
   have:m=1\/m=2\/m=3\/m=4\/m=5\/m=6\/m=7\/m=8\/m=9:=by lia
   rcases this with rfl|rfl|rfl|rfl|rfl|rfl|rfl|rfl|rfl<;>exact⟨_,_,rfl,by decide⟩
  .have hm:m%10<10:=Nat.mod_lt m (by decide)
   have t:Nat.toDigits 10 (m/10)++Nat.toDigits 10 (m%10)=Nat.toDigits 10 (10*(m/10)+m%10):=Nat.toDigits_append_toDigits (by decide) (by lia) hm;rw[Nat.div_add_mod]at t;obtain⟨d,r,e,hd⟩:=ih (m/10) (by lia) (by lia);rw[←t,L7,e];exact⟨d,_,rfl,hd⟩
theorem xK(x:Str)(c:Nat):Txt.startswith x ⟨#[c]⟩=true↔∃r,signs x=c::r:=by
 have h:=StrLaws.subAt_one x c 0;unfold Txt.startswith;rw[Bool.and_eq_true,decide_eq_true_eq];rw[h];show(signs x)[0]?=some c↔_
 cases e:signs x with
 |nil=>simp
 |cons a r=>simp[eq_comm]
theorem xR{i:Int}(h:0<i):Txt.startswith (aM i) ⟨#[48]⟩=false:=by
 rw[Bool.eq_false_iff];intro z;obtain⟨r,e⟩:=(xK _ _).mp z;obtain⟨m,rfl⟩:=Int.eq_ofNat_of_zero_le (Int.le_of_lt h);obtain⟨d,r',e',hd⟩:=Be m (by lia);rw[mv,e']at e;injection e with e _
 exact hd e
def iE(e:Int×Int):Str:=aM e.1++LV "-" ++aM e.2
def jX(row:List (Int×Int)):Str:=if row.length=0 then LV "none"else Str.join (LV " ") (row.map iE)
theorem AS(a b:Int):iE (a,b)=Str.join ⟨#[45]⟩ [aM a,aM b]:=rfl
theorem Cm{a b:Int}(ha:0<=a)(hb:0<=b):Txt.split (iE (a,b)) (LV "-")=[aM a,aM b]:=by
 rw[AS];refine fF (c:=45) (by simp) fun p hp=>?_;rcases List.mem_cons.mp hp with rfl|hp
 .exact ic ha (by lia)
 .rw[List.mem_singleton.mp hp]
  exact ic hb (by lia)
theorem ex_free{a b:Int}(ha:0<=a)(hb:0<=b):∀c∈signs (iE (a,b)),c=45\/(48<=c/\c<=57):=by
 intro c hc;unfold iE at hc;rw[aZ,aZ]at hc;rcases List.mem_append.mp hc with hc|hc
 .rcases List.mem_append.mp hc with hc|hc
  .exact .inr (eR ha c hc)
  .left
   have:signs (LV "-")=[45]:=by decide+kernel
   rw[this]at hc;exact List.mem_singleton.mp hc
 .exact .inr (eR hb c hc)
theorem iQ{row:List (Int×Int)}(ne:row≠[])(h:∀e∈row,0<=e.1/\0<=e.2):Txt.split (jX row) (LV " ")=row.map iE:=by
 unfold jX;rw[if_neg (by intro z;exact ne (List.length_eq_zero_iff.mp z))];refine fF (c:=32) (by simpa using ne) fun p hp=>?_;obtain⟨e,he,rfl⟩:=List.mem_map.mp hp;obtain⟨a,b⟩:=e;have:=h _ he;intro z;have:=ex_free this.1 this.2 32 z;lia
theorem jB{row:List (Int×Int)}(ne:row≠[])(h:∀e∈row,0<=e.1/\0<=e.2):jX row≠LV "none" :=by
 intro z;have s:=iQ ne h;rw[z]at s;have e1:Txt.split (LV "none") (LV " ")=[LV "none"]:=by
  have:=fF (c:=32) (ts:=[LV "none"]) (by simp) (by decide+kernel);exact this
 rw[e1]at s
 cases row with
 |nil=>exact ne rfl
 |cons e r=>
  rw[L9]at s;injection s with s _
  have:=ex_free (h e Mg).1 (h e Mg).2 110 (by rw[←s];decide+kernel);lia
theorem nZ{a b:Int}(ha:0<=a)(hb:0<=b)(ha9:a<10^9)(hb9:b<10^9):(iE (a,b)).length<=19:=by
 unfold iE;rw[Str.length_append,Str.length_append];have:=fB ha ha9;have:=fB hb hb9;show(aM a).length+(LV "-").length+(aM b).length<=19;have:(LV "-").length=1:=by decide+kernel
 lia
theorem bK{z:Str}{ts:List Str}{B:Nat}(hz:z.length<=10)(hB:∀y∈ts,y.length<=B)(hb:B<=10000)(h:ts.length<=100):JoinOk z ts=true:=by
 unfold JoinOk;rw[Bool.not_eq_true'];refine StrLaws.joinFits hB ?_;have h1:ts.length*B<=100*10000:=Nat.mul_le_mul h hb;have h2:ts.length*z.length<=100*10:=Nat.mul_le_mul h hz;lia
theorem vA{row:List (Int×Int)}(h60:row.length<=60)(h:∀e∈row,0<=e.1/\0<=e.2/\e.1<10^9/\e.2<10^9):(jX row).length<=2000:=by
 unfold jX
 split
 .decide+kernel
 .have h1:=StrLaws.join_length_le (LV " ") (row.map iE)
  have h2:=StrLaws.sumLen_le (B:=19) (row.map iE) (fun y hy=>by
   obtain⟨⟨a,b⟩,he,rfl⟩:=List.mem_map.mp hy;obtain⟨a0,b0,a9,b9⟩:=h _ he;exact nZ a0 b0 a9 b9)
  have h3:(LV " ").length=1:=by decide+kernel
  rw[LW]at h1 h2;rw[h3]at h1;lia
end Sw
namespace L2
open PySem PySem.Spec PyProof.Rows
theorem Ca{K:W.Frag}{ix:List (Option Nat)}{g:TG}{te:TE}{σ:St}{Q:VK}{H:Hp}{a:MB}{xs:List V}(Pv:Nat->List V->St->Hp->Prop)(hn:xs.length<=1000000)(h0:Pv 0 [] (dA ix σ) H)
  (hl:∀i ys σ H,i<=xs.length->Pv i ys σ H->aG K H a xs) (hlen:∀i ys σ H,Pv i ys σ H->ys.length<=i)
  (hs:∀i ys σ H x(R:St->List V->Hp->Prop),xs[i]?=some x->Pv i ys σ H->(∀σ2 ys2 H5,Pv (i+1) ys2 σ2 H5->R σ2 ys2 H5)->g x σ H fun σ2 H3=>te σ2 H3 fun v H5=>R σ2 (ys++[v]) H5)
  (hd:∀ys σ' H' p,Pv xs.length ys σ' H'->H' p=none->Q (.ref p) (upd H' p (.lst ys))):iW ix g gZ te σ Q (Ay K a) H:=by
 refine iD Pv hn h0 (fun i ys σ H hi p=>⟨xs,xs[i],hl i ys σ H (Nat.le_of_lt hi) p,by simp[hi]⟩) (fun ys σ H p=>⟨xs,hl _ ys σ H (Ms _) p,Ms _⟩) hlen (fun i ys σ H x H2 R hi p y r=>?_) hd;obtain⟨rfl,y⟩:=y;unfold gZ;simp only[if_true];exact hs i ys σ _ x R (y xs (hl i ys σ _ (Nat.le_of_lt hi) p)) p r
end L2
namespace Sw
open PySem L2
theorem eT{i:Int}(h0:0<=i)(h9:i<10^9):i.natAbs.log2<1920:=by
 by_cases hz:i.natAbs=0
 .rw[hz];decide
 .rw[Nat.log2_lt hz]
  have h1:i.natAbs<2^30:=by lia
  exact Mt h1 (Nat.pow_le_pow_right (by decide) (by decide))
theorem cP.ID {H:Hp}:∀{vs:List V}{r:List (Int×Int)},cP H vs r->wq H (fun _=>True) vs (r.map fun e=>PyData.tuple [.int e.1,.int e.2])
 |_,_,.nil=> .nil
 |_,_,.cons h x=> .cons (.tup h trivial (.cons (.int _) (.cons (.int _) .nil))) x.ID
theorem xo{n:Int}{row:List (Int×Int)}(hg:Good n row)(h60:row.length<=60):uH n (.list (row.map fun e=>PyData.tuple [.int e.1,.int e.2]))=true:=by
 unfold uH;rw[Bool.and_eq_true,LW,List.all_map,List.all_eq_true];refine⟨decide_eq_true h60,fun e he=>?_⟩;have g:=hg e he;show((decide (1<=e.1/\e.1<=n)&&decide (1<=e.2/\e.2<=n))&&decide (e.1<e.2))=true;rw[decide_eq_true (by lia),decide_eq_true (by lia),decide_eq_true (by lia)];rfl
def sT:Sp:=fun vs H Q _=>∃(i:Int),vs=[.str (aM i)]/\0<=i/\i<10^9/\Q (.int i) H
def xt:Sp:=fun vs H Q _=>∃(x:Str),vs=[.str x]/\Q .cE H
structure Jr(mg:Str->Option MA)(K:W.Frag)(u:MA):Prop extends T1 mg K where
 eQ:mg "str" =none
 jG:mg "MOST_FIGURES" =some u
 jA:RelV (.int 9) u
section
variable{P:MD}{w:ME}{K:W.Frag}{mg:Str->Option MA}{base:MN}{u:MA}
theorem o8:aF ["word"] ["word"] (au (top 81)):=⟨rfl,rfl,rfl,by decide+kernel,rfl,by decide+kernel,by decide+kernel⟩
theorem xk{f:MB}{fd:MM}(F:dJ K "read_number" "read_number" (top 81) f fd)(T:Jr mg K u):aS P w K mg base fQ 1 f fd ["word"] sT:=by
 refine F.ok o8 (fun vs H Q E h=>?_) (fun cdv A outer s H vs Q E hr h=>?_)
 .obtain⟨i,rfl,_⟩:=h
  rfl
 .obtain⟨i,rfl,i0,i9,k⟩:=h
  refine⟨_,(ag (aQ (PW.pt (j5 (eL (eI (yU (K:=K) rfl PySem.F.plainAttrs_str PySem.F.slot_str_isascii PySem.F.type_str_isascii wV (pv 0)))) (j5 (eL (eI (yU (K:=K) rfl PySem.F.plainAttrs_str PySem.F.slot_str_isdigit PySem.F.type_str_isdigit wQ (pv 0)))) (jz (aE mV (ar fZ rfl T.bP (by decide+kernel) (aa (pv 0) af)) (di rfl T.jG T.jA) (aH _)))))) (aj dF) aB)
   (ag (aQ (PW.pt (F7 (aE gH (pv 0) az (aH _)) (Dj (eI (bD (K:=K) rfl PySem.F.plainAttrs_str PySem.F.slot_str_startswith PySem.F.type_str_startswith Ab (pv 0) (aa az af)))))) (aj dF) aB)
   (aj (aA (aY qq rfl T.ua (by decide+kernel) (aa (pv 0) af)))))),?_⟩
  have big:(10000000:Nat)<=MG:=by decide
  have nl:=fB i0 i9;refine⟨_,rfl,rfl,_,rfl,rfl,_,rfl,jW (by rw[zK i0];rfl) ?_⟩;refine⟨_,rfl,rfl,_,rfl,rfl,_,rfl,jW (by rw[u9 i0];rfl) ?_⟩;refine⟨_,rfl,_,rfl,by lia,_,_,rfl,rfl,_,rfl,jW (decide_eq_false (by lia)) ?_⟩;refine⟨_,rfl,rfl,_,rfl,?_⟩;have fin:Ds (Kx Fp (qU (zH 0) AM)) {nx:=fun x H'=>Q V.cE H',rt:=Q} (L2.start [LV "word"] [V.str (aM i)]) H:=⟨_,rfl,_,i,rfl,sN i0 (by lia),by lia,k⟩;by_cases hz:i=0
  .subst hz
   refine jW (by decide+kernel) ?_;exact fin
  .have nz:Txt.startswith (aM i) (LV "0")=false:=xR (by lia)
   refine dD (fun _=>?_) (fun _=>?_)
   .exact⟨_,rfl,rfl,_,_,rfl,rfl,_,rfl,jW nz fin⟩
   .exact fin
theorem qo:aF ["thing"] ["thing"] (au (top 80)):=⟨rfl,rfl,rfl,by decide+kernel,rfl,by decide+kernel,by decide+kernel⟩
theorem yp{f:MB}{fd:MM}(F:dJ K "check_text" "check_text" (top 80) f fd)(T:Jr mg K u):aS P w K mg base fQ 1 f fd ["thing"] xt:=by
 refine F.ok qo (fun vs H Q E h=>?_) (fun cdv A outer s H vs Q E hr h=>?_)
 .obtain⟨x,rfl,_⟩:=h
  rfl
 .obtain⟨x,rfl,k⟩:=h
  refine⟨_,(aj (aQ (eL (eI (ar (gu (K:=K) rfl) rfl T.aJ (by decide+kernel) (aa (pv 0) (aa (iP (v:= .ty "str") rfl T.eQ (by decide+kernel) rfl) af))))) (aj dF) aB)),?_⟩;refine⟨_,rfl,_,_,"str",_,rfl,ko.str x,vW _ _,true,rfl,wI ?_⟩;exact k
def qY:Sp:=fun vs H Q _=>∃(l:MB)(es:List V)(row:List (Int×Int)),vs=[.ref l]/\H l=some (.lst es)/\cP H es row/\row.length<=60/\(∀e∈row,0<=e.1/\0<=e.2/\e.1<10^9/\e.2<10^9)/\∀H',ah H H'->Q (.str (jX row)) H'
theorem vk:aF ["row"] ["row"] (au (top 78)):=⟨rfl,rfl,rfl,by decide+kernel,rfl,by decide+kernel,by decide+kernel⟩
theorem xT{f:MB}{fd:MM}(F:dJ K "show_row" "show_row" (top 78) f fd)(T:Jr mg K u):aS P w K mg base fQ 1 f fd ["row"] qY:=by
 refine F.ok vk (fun vs H Q E h=>?_) (fun cdv A outer s H vs Q E hr h=>?_)
 .obtain⟨l,es,row,rfl,_⟩:=h
  rfl
 .obtain⟨l,es,row,rfl,hl,hx,h60,hs,k⟩:=h
  refine⟨_,(ag (aQ (aE bY (ar (aN (K:=K) rfl) rfl T.bP (by decide+kernel) (aa (pv 0) af)) ai (aH _)) (aj (aA az)) aB)
   (aj (aA (bD (K:=K) rfl PySem.F.plainAttrs_str PySem.F.slot_str_join PySem.F.type_str_join (gb (K:=K) rfl) az (aa (bJ (N:=(["a","b"]:List Str)) (ix:=([none,none]:List (Option Nat))) (aW rfl rfl) rfl (aU (K:=K) rfl (pv 0)) (fun _ _ _ _=>(eG (K:=K) (n:=2) rfl rfl (bh (aC (i:=0) (show List.Nodup (["a","b"]:List Str)from by decide+kernel) rfl (Or.inl rfl)) (bh (aC (i:=1) (show List.Nodup (["a","b"]:List Str)from by decide+kernel) rfl (Or.inl rfl)) eC)))) (fun _ _ _ _=>bg) (fun _ _ _ _=>(Gz (Bp (pv 0)) az (Bp (pv 1))))) af))))),?_⟩
  have big:(10000000:Nat)<=MG:=by decide
  have el:=hx.length;refine⟨_,rfl,l,_,rfl,.inl (aG.of hl),rfl,_,rfl,?_⟩;by_cases hz:row=[]
  .subst hz
   exact Gp (decide_eq_true (by rw[el];rfl)) (k H (ah.refl _))
  .have rl:0<row.length:=by
    cases row with
    |nil=>exact absurd rfl hz
    |cons _ _=>exact Nat.succ_pos _
   refine jW (decide_eq_false (by intro z;injection z with z;lia)) ?_;refine⟨rfl,_,rfl,l,rfl,⟨_,aG.of hl⟩,Ca (K:=K) (a:=l) (xs:=es) (fun i ys σ' H'=>ys=((row.take i).map iE).map V.str/\(∃v0 v1,σ'=[v0,v1])/\H'=H) (by lia) ⟨rfl,⟨none,none,rfl⟩,rfl⟩ (fun i ys σ' H' _ q=>by rw[q.2.2];exact aG.of hl) (fun i ys σ' H' q=>by rw[q.1,LW,LW,Ma];lia) ?_ ?_⟩
   .rintro i ys σ' H' x R hx' ⟨rfl,⟨v0,v1,rfl⟩,rfl⟩ done
    obtain⟨t,a,b,rfl,ht,hr'⟩:=hx.get hx';obtain⟨a0,b0,a9,b9⟩:=hs (a,b) (Mf hr');dsimp only at a0 b0 a9 b9;have al:=fB a0 a9;have bl:=fB b0 b9;refine⟨t,_,rfl,dH.of ht,rfl,_,_,rfl,_,_,rfl,rfl,?_⟩;refine⟨_,rfl,a,rfl,eT a0 a9,_,rfl,(by show(aM a).length<=1000000;lia),_,rfl,by decide+kernel,_,rfl,b,rfl,eT b0 b9,_,rfl,(by show(aM b).length<=1000000;lia),?_⟩;refine done _ _ _ ⟨?_,⟨_,_,rfl⟩,rfl⟩;rw[aK iE hr',L7];rfl
   .rintro ys σ' H' q ⟨rfl,⟨v0,v1,rfl⟩,e0⟩ fq
    have e0:=e0.symm;subst e0;rw[Mi (by lia)];refine⟨_,q,row.map iE,rfl,rfl,aG.of ae,bK (B:=19) (by decide+kernel) (fun y hy=>?_) (by decide) (by rw[LW];lia),?_⟩
    .obtain⟨⟨a,b⟩,he,rfl⟩:=List.mem_map.mp hy
     obtain⟨a0,b0,a9,b9⟩:=hs _ he;exact nZ a0 b0 a9 b9
    .have kk:=k _ (ah.new (o:= .lst ((row.map iE).map V.str)) fq)
     unfold jX at kk;rw[if_neg (by lia)]at kk;exact kk
def rJ:Sp:=fun vs H Q _=>∃(n:Int)(row:List (Int×Int)),vs=[.int n,.str (jX row)]/\Good n row/\n<10^9/\row.length<=60/\∀l es H',H l=none->H' l=some (.lst es)->cP H' es row->ah H H'->Q (.ref l) H'
structure Lj(P:MD)(w:ME)(K:W.Frag)(mg:Str->Option MA)(base:MN):Prop extends T1 mg K where
 eN:FnAt P w K mg base "check_text" 1 ["thing"] xt
 bM:FnAt P w K mg base "read_number" 1 ["word"] sT
 vh:FnAt P w K mg base "is_row" 6 ["n","thing"] sW
theorem nu:aF ["n","text","row"] ["n","text"] (au (top 85)):=⟨rfl,rfl,rfl,by decide+kernel,rfl,by decide+kernel,by decide+kernel⟩
theorem xQ{f:MB}{fd:MM}(F:dJ K "read_row" "read_row" (top 85) f fd)(T:Lj P w K mg base):aS P w K mg base fQ 7 f fd ["n","text"] rJ:=by
 refine F.ok nu (fun vs H Q E h=>?_) (fun cdv A outer s H vs Q E hr h=>?_)
 .obtain⟨n,row,rfl,_⟩:=h
  rfl
 .obtain⟨n,row,rfl,hg,n9,h60,k⟩:=h
  refine⟨_,(ag (dh (ak T.eN (hr.mono (by first|decide|lia)) rfl (aa (pv 1) af)))
   (ag (aQ (aE bY (pv 1) az (aH _)) (aj (aA (bf af))) aB)
   (ag (fu (i:=2) nu.nd rfl rfl (N:=(["pair"]:List Str)) (ix:=([none]:List (Option Nat))) (aW rfl rfl) rfl (aU (K:=K) rfl (bD (K:=K) rfl PySem.F.plainAttrs_str PySem.F.slot_str_split PySem.F.type_str_split jx (pv 1) (aa az af))) (fun _ _ _ _=>(aC (i:=0) (show List.Nodup (["pair"]:List Str)from by decide+kernel) rfl (Or.inl rfl))) (fun _ _ _ _=>bg) (fun _ _ _ _=>(aY (cB (K:=K) rfl) rfl T.gj (by decide+kernel) (aa (bJ (N:=(["word"]:List Str)) (ix:=([none]:List (Option Nat))) (aW rfl rfl) rfl (aU (K:=K) rfl (bD (K:=K) rfl PySem.F.plainAttrs_str PySem.F.slot_str_split PySem.F.type_str_split jx (pv 0) (aa az af))) (fun _ _ _ _=>(aC (i:=0) (show List.Nodup (["word"]:List Str)from by decide+kernel) rfl (Or.inl rfl))) (fun _ _ _ _=>bg) (fun _ _ _ _=>(ak T.bM (hr.mono (by first|decide|lia)) rfl (aa (pv 0) af)))) af))))
   (ag (aQ (eL (eI (ak T.vh (hr.mono (by first|decide|lia)) rfl (aa (pv 0) (aa (pv 2) af))))) (aj dF) aB)
   (aj (aA (pv 2))))))),?_⟩
  have big:(10000000:Nat)<=MG:=by decide
  have hs:∀e∈row,0<=e.1/\0<=e.2:=fun e he=>by have:=hg e he;lia
  refine⟨_,rfl,_,rfl,?_⟩;refine⟨_,rfl,rfl,_,rfl,?_⟩;by_cases hz:row=[]
  .subst hz
   refine Gp (by decide+kernel) ?_;exact⟨Mw _,fun l hl=>k l [] _ hl ae .nil (ah.new hl)⟩
  .have ne:=jB hz hs
   refine jW (decide_eq_false (by intro z;injection z with z;exact ne z)) ?_;have rl:=vA h60 fun e he=>by have:=hg e he;lia
   refine⟨_,rfl,rfl,_,_,rfl,rfl,by decide+kernel,by lia,fun l1 f1=>⟨l1,rfl,⟨_,aG.of ae⟩,?_⟩⟩;rw[iQ hz hs];have s1:ah H (upd H l1 (.lst ((row.map iE).map V.str))):=ah.new f1;have h1:upd H l1 (.lst ((row.map iE).map V.str)) l1=some (.lst ((row.map iE).map V.str)):=ae;generalize upd H l1 (.lst ((row.map iE).map V.str))=H1 at s1 h1⊢;have ll:((row.map iE).map V.str).length=row.length:=by rw[LW,LW]
   refine gI (K:=K) (a:=l1) (xs:=(row.map iE).map V.str) (k:=0) (fun i ys σ' H'=>(∃v0,σ'=[v0])/\ah H1 H'/\cP H' ys (row.take i)) (by lia) ⟨⟨none,rfl⟩,ah.refl _,.nil⟩ (fun i ys σ' H' _ q=>aG.of (q.2.1 _ _ h1)) (fun i ys σ' H' q=>by have:=q.2.2.length;rw[Ma]at this;lia) ?_ ?_
   .rintro i ys σ' H2 x R hx ⟨⟨v0,rfl⟩,s2,x2⟩ done
    obtain⟨⟨a,b⟩,hab,rfl⟩:∃e,row[i]?=some e/\V.str (iE e)=x:=by
     rw[LX,LX]at hx
     cases e:row[i]? with
     |none=>rw[e]at hx;cases hx
     |some e'=>rw[e]at hx;exact⟨e',rfl,My hx⟩
    have g:=hg (a,b) (Mf hab);dsimp only at g;have el:=nZ (a:=a) (b:=b) (by lia) (by lia) (by lia) (by lia);refine⟨_,rfl,rfl,_,_,rfl,rfl,by decide+kernel,by lia,fun l2 f2=>⟨l2,rfl,⟨_,aG.of ae⟩,?_⟩⟩;rw[Cm (by lia) (by lia)];have s3:ah H2 (upd H2 l2 (.lst ([aM a,aM b].map V.str))):=ah.new f2;have h3:upd H2 l2 (.lst ([aM a,aM b].map V.str)) l2=some (.lst ([aM a,aM b].map V.str)):=ae;generalize upd H2 l2 (.lst ([aM a,aM b].map V.str))=H3 at s3 h3⊢;refine gI (K:=K) (a:=l2) (xs:=[aM a,aM b].map V.str) (k:=0) (fun j ys' σ'' H'=>(∃v0,σ''=[v0])/\H'=H3/\ys'=([a,b].take j).map V.int) (by show 2<=1000000;decide) ⟨⟨none,rfl⟩,rfl,rfl⟩ (fun j ys' σ'' H' _ q=>by rw[q.2.1];exact aG.of h3) (fun j ys' σ'' H' q=>by rw[q.2.2,LW,Ma];lia) ?_ ?_
    .rintro j ys' σ'' H' x' R' hx' ⟨⟨v0,rfl⟩,rfl,rfl⟩ done'
     obtain⟨z,hz',rfl⟩:∃z,[a,b][j]?=some z/\V.str (aM z)=x':=by
      match j,hx' with
      |0,h=>exact⟨a,rfl,My h⟩
      |1,h=>exact⟨b,rfl,My h⟩
      |j+2,h=>simp at h
     have zb:0<=z/\z<10^9:=by
      have:z∈[a,b]:=Mf hz';rcases List.mem_cons.mp this with rfl|this
      .lia
      .rw[List.mem_singleton.mp this];lia
     refine⟨_,rfl,z,rfl,zb.1,zb.2,done' _ _ _ ⟨⟨_,rfl⟩,rfl,?_⟩⟩;rw[aK V.int hz']
    .rintro ys' σ'' H' q ⟨⟨v0,rfl⟩,e0,rfl⟩ fq
     have e0:=e0.symm;subst e0;refine⟨q,_,rfl,.inl ⟨aG.of ae,fun t ft=>?_⟩⟩;have s4:ah H3 (upd H3 q (.lst [V.int a,V.int b])):=ah.new fq;have s5:ah (upd H3 q (.lst [V.int a,V.int b])) (upd (upd H3 q (.lst [V.int a,V.int b])) t (.tup [V.int a,V.int b])):=ah.new ft;have s6:=s3.trans (s4.trans s5);refine done _ _ _ ⟨⟨_,rfl⟩,s2.trans s6,?_⟩;rw[Mq,hab];exact(x2.keep (ah.bI s6)).snoc ae
   .rintro ys σ' H2 q ⟨⟨v0,rfl⟩,s2,x2⟩ fq
    rw[Mi (by lia)]at x2;have s3:ah H2 (upd H2 q (.lst ys)):=ah.new fq;have x3:=x2.keep (ah.bI s3);have s13:=s1.trans (s2.trans s3);have h3:upd H2 q (.lst ys) q=some (.lst ys):=ae;have fq0:H q=none:=(s1.trans s2).free fq;generalize upd H2 q (.lst ys)=H3 at s3 x3 s13 h3⊢;refine⟨_,rfl,_,rfl,.ref q,(fun _=>True),.list (row.map fun e=>PyData.tuple [.int e.1,.int e.2]),n,rfl,.lst h3 trivial x3.ID,fun ds e=>?_,fun H4 s4=>⟨_,rfl,jW ?_ ?_⟩⟩
    .injection e with e
     rw[←e,LW];lia
    .rw[xo hg h60];rfl
    .exact⟨_,rfl,k q ys H4 fq0 (s4 _ _ h3) (x3.keep (ah.bI s4)) (s13.trans s4)⟩
end
end Sw
namespace L2
open PySem PySem.Spec PyProof.Rows
section
variable{X:Cx}{K:W.Frag}
def J8:V->Option Int->Option Int->Hp->VK->Prop:=fun x lo hi H Q=>∃z,x= .str z/\z.length<=MG/\Q (.str (Txt.slice z lo hi)) H
theorem mP:J6 X J8:=by
 intro pins s σ H x v vl vu lo hi sl Q I rx hs pl pu h;obtain⟨z,rfl,hz,q⟩:=h;obtain⟨t,rfl⟩:=rx;refine⟨"str",_,F.slot_str_getitem.lookup,typeIs_str _ _ _,?_⟩;have fin:∀lo hi,Q (.str (Txt.slice z lo hi)) H->(Txt.slice z lo hi).length<=MG/\∀t' k,EP X pins σ Q (.str (Txt.slice z lo hi) t') {s with toks:=k}:=fun lo hi q=>⟨Mv (Txt.slice_le z lo hi) hz,fun t' k=>⟨.str _,H,I.tok _,⟨_,rfl⟩,q⟩⟩
 cases pl with
 |none=>
  cases pu with
  |none=>exact wpAny_getItem_str_slice (l:=none) (u:=none) (st:=none) hs rfl (post_val_or_str (fin none none q))
  |int j uj=>exact wpAny_getItem_str_slice (l:=none) (u:=some (j,uj)) (st:=none) hs rfl (post_val_or_str (fin none (some j) q))
 |int i ui=>
  cases pu with
  |none=>exact wpAny_getItem_str_slice (l:=some (i,ui)) (u:=none) (st:=none) hs rfl (post_val_or_str (fin (some i) none q))
  |int j uj=>exact wpAny_getItem_str_slice (l:=some (i,ui)) (u:=some (j,uj)) (st:=none) hs rfl (post_val_or_str (fin (some i) (some j) q))
theorem uX{x:Str}(h:2<=x.length):Txt.slice x (some 1) (some (-1))=⟨((x.cps.toList.drop 1).take (x.length-2)).toArray⟩:=by
 show StrLaws.sliceText x (some 1) (some (-1))=_;rw[StrLaws.sliceText_neg_hi x (some 1) (by decide) (by lia)];have:=StrLaws.sliceText_nat x (a:=1) (b:=x.length-1) (by lia) (by lia);rw[show((-1:Int)+x.length)=((x.length-1:Nat):Int) by lia];rw[show x.length-1-1=x.length-2 by lia]at this;exact this
def KN(K:W.Frag):List V->Hp->VK->Prop:=fun xs H Q=>∃(p:MB)(ns:List Int),xs=[.ref p]/\aG K H p (ns.map V.int)/\Q (.int ns.sum) H
theorem BC(hK:X.K=K)(hc:X.calm=true):bX X (.builtin "sum") (KN K):=by
 subst hK;intro pins s σ H xs us Q I r h;obtain⟨p,ns,rfl,hp,q⟩:=h;obtain⟨u,rfl,ru⟩:=vals1 r;cases ru;obtain⟨its,rv,pl,_⟩:=I.list hp;have hi:=o9 rv;obtain⟨zs,hx⟩:=hi.allInts.items;have hl:s.heap.IsList p (intItems zs):=hx▸pl.isList;refine sum_intListG (I.ok.hd hc) hl fun h' tk t' hk=>?_;have e1:ns=zs.toList.map (·.1):=by
  rw[←nums_intItems,←hx];exact(show numsOf its.toArray.toList=ns from hi.numsOf).symm
 have e2:preSum (numAt zs) zs.size=ns.sum:=by
  rw[preSum_eq,Mi (by simp),e1]
 rw[e2];exact⟨.int _,H,I.kept hk,⟨_,rfl⟩,q⟩
end
end L2
namespace Sw
open PySem L2
def lX(r:List Int):Str:=Str.join (LV " ") (r.map aM)
def DI(r:List Int):Str:=LV "(" ++lX r++LV ")"
def jo(rs:List (List Int)):Str:=Str.join (LV "") (rs.map DI)
theorem hJ:∀ts:List Str,signs (Str.join (LV "") ts)=(ts.map signs).flatten
 |[]=>rfl
 |[x]=>by show signs x=(signs x::[]).flatten;simp
 |x::y::r=>by
  show signs (x++LV "" ++Str.join (LV "") (y::r))=(signs x::(y::r).map signs).flatten;rw[aZ,aZ,hJ (y::r),List.flatten_cons];rw[show signs (LV "")=[] by decide+kernel,Mo]
def dz(c d:Nat):List (List Nat)->List Nat
 |[]=>[]
 |[x]=>x
 |x::y::r=>x++c::d::dz c d (y::r)
theorem eu(c d:Nat):∀ts:List Str,signs (Str.join ⟨#[c,d]⟩ ts)=dz c d (ts.map signs)
 |[]=>rfl
 |[x]=>rfl
 |x::y::r=>by
  show signs (x++(⟨#[c,d]⟩:Str)++Str.join ⟨#[c,d]⟩ (y::r))=signs x++c::d::dz c d ((y::r).map signs);rw[aZ,aZ,eu c d (y::r),Mp];rfl
theorem rN{c d:Nat}:∀{ps qs:List (List Nat)},ps≠[]->qs≠[]->(∀p∈ps,c∉p)->(∀q∈qs,c∉q)->dz c d ps=dz c d qs->ps=qs
 |[],_,h,_,_,_,_=>absurd rfl h
 |_,[],_,h,_,_,_=>absurd rfl h
 |[x],[y],_,_,_,_,h=>by rw[show x=y from h]
 |[x],y::z::r,_,_,h1,_,h=>by
  have h:x=y++c::d::dz c d (z::r):=h;exact absurd (by rw[h];exact Mj _ Mg) (h1 x Mg)
 |x::z::r,[y],_,_,_,h2,h=>by
  have h:x++c::d::dz c d (z::r)=y:=h;exact absurd (by rw[←h];exact Mj _ Mg) (h2 y Mg)
 |x::y::r,z::w::s,_,_,h1,h2,h=>by
  obtain⟨e1,e2⟩:=sk (h1 x Mg) (h2 z Mg) (show x++c::(d::dz c d (y::r))=z++c::(d::dz c d (w::s))from h);injection e2 with _ e2
  rw[e1,rN (by simp) (by simp) (fun p hp=>h1 p (Mh _ hp)) (fun p hp=>h2 p (Mh _ hp)) e2]
theorem pE{c d:Nat}:∀{ts:List (List Nat)},(∀t∈ts,c∉t)->∀k,(dz c d ts)[k]?=some c->c≠d->(dz c d ts)[k+1]?=some d
 |[],_,k,h,_=>by simp[dz]at h
 |[x],hf,k,h,_=>absurd (Mf (show x[k]?=some c from h)) (hf x Mg)
 |x::y::r,hf,k,h,hcd=>by
  have h:(x++c::d::dz c d (y::r))[k]?=some c:=h;show(x++c::d::dz c d (y::r))[k+1]?=some d;by_cases h1:k<x.length
  .rw[List.getElem?_append_left h1]at h
   exact absurd (Mf h) (hf x Mg)
  .rw[List.getElem?_append_right (by lia)]at h⊢
   rcases Nat.lt_or_ge k (x.length+2)with h2|h2
   .rcases Nat.lt_or_ge k (x.length+1)with h3|h3
    .rw[show k+1-x.length=1 by lia];rfl
    .rw[show k-x.length=1 by lia]at h
     have h:some d=some c:=h;exact absurd (My h).symm hcd
   .obtain⟨j,hj⟩:∃j,k-x.length=j+2:=⟨k-x.length-2,by lia⟩
    rw[hj]at h;rw[show k+1-x.length=(j+1)+2 by lia];exact pE (fun t ht=>hf t (Mh _ ht)) j h hcd
theorem qM{x y:Str}{c a b:Nat}(hb:b<=x.length)(hf:∀k,(signs x)[k]?=some c->StrLaws.At x y x.length k)(hn:∀k,a<=k->k<b->¬StrLaws.At x y x.length k):c∉signs (MS.Str.strSub x a b):=by
 intro hm;unfold signs at hm;rw[StrLaws.strSub_toList]at hm;obtain⟨j,hj⟩:=List.getElem?_of_mem hm;have hlt:j<b-a:=by
  have h1:=(List.getElem?_eq_some_iff.mp hj).1;rw[Ma]at h1;lia
 rw[List.getElem?_take_of_lt hlt,List.getElem?_drop]at hj;exact hn (a+j) (by lia) (by lia) (hf _ hj)
theorem oK{x y:Str}{c:Nat}(hf:∀k,(signs x)[k]?=some c->StrLaws.At x y x.length k):∀(cuts:List Nat)(a f:Nat),StrLaws.ChainG x y x.length a cuts f->(∀k,f<=k->¬StrLaws.At x y x.length k)->∀p∈StrLaws.partsFrom x y.length a cuts,c∉signs p
 |[],a,f,h,hn,p,hp=>by
  have e:f=a:=h;subst e;rw[List.mem_singleton.mp hp];exact qM (Ms _) hf fun k h1 _=>hn k h1
 |d::r,a,f,h,hn,p,hp=>by
  rcases List.mem_cons.mp hp with rfl|hp'
  .exact qM (by have:=h.2.1.1;lia) hf h.2.2.1
  .exact oK hf r _ f h.2.2.2 hn p hp'
theorem xN{x y:Str}{c:Nat}(hw:1<=y.length)(hy:MS.Str.strKind y=1)(hf:∀k,(signs x)[k]?=some c->StrLaws.At x y x.length k):∀p∈Txt.split x y,c∉signs p:=by
 obtain⟨f,hG,hn⟩:=StrLaws.occ_tight x y hw;have whole:(∀k,¬StrLaws.At x y x.length k)->c∉signs x:=fun h hm=>by
  obtain⟨j,hj⟩:=List.getElem?_of_mem hm;exact h j (hf j hj)
 unfold Txt.split
 split
 .rename_i hc
  intro p hp;rw[List.mem_singleton.mp hp];refine whole fun k hA=>?_;rw[Bool.or_eq_true,decide_eq_true_eq,decide_eq_true_eq]at hc;rcases hc with h|h
  .have:=hA.1;lia
  .rw[hy]at h
   unfold MS.Str.strKind at h
   split at h
   .lia
   .split at h<;>lia
 .split
  .rename_i he
   intro p hp;rw[List.mem_singleton.mp hp];rw[List.isEmpty_iff.mp he]at hG;have e:f=0:=hG;exact whole fun k=>hn k (by lia)
  .rw[StrLaws.partsBetween_eq]
   exact oK hf _ 0 f hG hn
theorem su{ts:List Str}(ne:ts≠[])(free:∀p∈ts,41∉signs p):Txt.split (Str.join ⟨#[41,40]⟩ ts) ⟨#[41,40]⟩=ts:=by
 have e:=StrLaws.join_split (Str.join ⟨#[41,40]⟩ ts) ⟨#[41,40]⟩;have fr:∀q∈ts.map signs,41∉q:=fun p hp=>by
  obtain⟨q,hq,rfl⟩:=List.mem_map.mp hp;exact free q hq
 have f:=xN (x:=Str.join ⟨#[41,40]⟩ ts) (y:=⟨#[41,40]⟩) (c:=41) (by decide) (by decide+kernel) fun k hk=>by
  rw[eu]at hk;have hk2:=pE fr k hk (by decide);rw[←eu]at hk hk2;have l2:=(List.getElem?_eq_some_iff.mp hk2).1;rw[bB]at l2;refine⟨by show k+2<=_;lia,?_⟩;rw[StrLaws.subAt_eq];show(((signs (Str.join ⟨#[41,40]⟩ ts)).drop k).take 2==[41,40])=true;have d1:(signs (Str.join ⟨#[41,40]⟩ ts)).drop k=41::(signs (Str.join ⟨#[41,40]⟩ ts)).drop (k+1):=by
   obtain⟨h1,h2⟩:=List.getElem?_eq_some_iff.mp hk;rw[List.drop_eq_getElem_cons h1,h2]
  have d2:(signs (Str.join ⟨#[41,40]⟩ ts)).drop (k+1)=40::(signs (Str.join ⟨#[41,40]⟩ ts)).drop (k+2):=by
   obtain⟨h1,h2⟩:=List.getElem?_eq_some_iff.mp hk2;rw[List.drop_eq_getElem_cons h1,h2]
  rw[d1,d2];rfl
 have e2:dz 41 40 ((Txt.split (Str.join ⟨#[41,40]⟩ ts) ⟨#[41,40]⟩).map signs)=dz 41 40 (ts.map signs):=by
  rw[←eu,←eu,e]
 refine gT (rN (by simpa using oZ _ _) (by simpa using ne) ?_ fr e2);intro p hp;obtain⟨q,hq,rfl⟩:=List.mem_map.mp hp;exact f q hq
theorem rV:∀{ts:List (List Nat)},ts≠[]->(ts.map fun t=>40::(t++[41])).flatten=40::(dz 41 40 ts++[41])
 |[],h=>absurd rfl h
 |[x],_=>by simp[dz]
 |x::y::r,_=>by
  rw[L9,List.flatten_cons,rV (ts:=y::r) (by simp)];show 40::(x++[41])++40::(dz 41 40 (y::r)++[41])=40::(x++41::40::dz 41 40 (y::r)++[41]);simp
theorem lC(r:List Int):signs (DI r)=40::(signs (lX r)++[41]):=by
 unfold DI;rw[aZ,aZ];rw[show signs (LV "(")=[40] by decide+kernel,show signs (LV ")")=[41] by decide+kernel];rfl
theorem zl{rs:List (List Int)}(h:rs≠[]):signs (jo rs)=40::(dz 41 40 ((rs.map lX).map signs)++[41]):=by
 unfold jo;rw[hJ,Md];rw[show(signs∘DI)=(fun r=>40::(signs (lX r)++[41]))from funext lC];rw[←rV (by simpa using h),Md,Md];rfl
theorem zI{rs:List (List Int)}(h:rs≠[]):Txt.slice (jo rs) (some 1) (some (-1))=Str.join ⟨#[41,40]⟩ (rs.map lX):=by
 have e:=zl h;have l:(jo rs).length=(dz 41 40 ((rs.map lX).map signs)).length+2:=by rw[←bB,e];simp
 rw[uX (by lia)];apply bT;show(((signs (jo rs)).drop 1).take ((jo rs).length-2)).toArray.toList=_;rw[eu,e,l];simp
theorem yB{r:List Int}(h:∀x∈r,0<=x):∀c∈signs (lX r),c=32\/(48<=c/\c<=57):=by
 unfold lX;rw[show(LV " ")=(⟨#[32]⟩:Str)from rfl,cG]
 induction r with
 |nil=>intro c hc;simp[glue]at hc
 |cons x r ih=>
  intro c hc
  cases r with
  |nil=>exact .inr (eR (h x Mg) c hc)
  |cons y r=>
   have hc:c∈signs (aM x)++32::glue 32 (((y::r).map aM).map signs):=hc;rcases List.mem_append.mp hc with hc|hc
   .exact .inr (eR (h x Mg) c hc)
   .rcases List.mem_cons.mp hc with rfl|hc
    .exact .inl rfl
    .exact ih (fun z hz=>h z (Mh _ hz)) c hc
theorem rF{rs:List (List Int)}(h:rs≠[])(hp:∀r∈rs,∀x∈r,0<=x):Txt.split (Txt.slice (jo rs) (some 1) (some (-1))) (LV ")(")=rs.map lX:=by
 rw[zI h];refine su (by simpa using h) fun p hpm=>?_;obtain⟨r,hr,rfl⟩:=List.mem_map.mp hpm;intro z;have:=yB (hp r hr) 41 z;lia
theorem uu{r:List Int}(h:r≠[])(hp:∀x∈r,0<=x):Txt.split (lX r) (LV " ")=r.map aM:=by
 refine fF (c:=32) (by simpa using h) fun p hpm=>?_;obtain⟨x,hx,rfl⟩:=List.mem_map.mp hpm;exact ic (hp x hx) (by lia)
theorem nQ{r:List Int}(hp:∀x∈r,0<=x/\x<10^9):(lX r).length<=r.length*10:=by
 have h1:=StrLaws.join_length_le (LV " ") (r.map aM);have h2:=StrLaws.sumLen_le (B:=9) (r.map aM) (fun y hy=>by
  obtain⟨x,hx,rfl⟩:=List.mem_map.mp hy;exact fB (hp x hx).1 (hp x hx).2)
 rw[LW]at h1 h2;have h3:(LV " ").length=1:=by decide+kernel
 rw[h3]at h1;unfold lX;lia
theorem Br{rs:List (List Int)}(hp:∀r∈rs,r.length<=20/\∀x∈r,0<=x/\x<10^9):(jo rs).length<=rs.length*202:=by
 have h1:=StrLaws.join_length_le (LV "") (rs.map DI);have h2:=StrLaws.sumLen_le (B:=202) (rs.map DI) (fun y hy=>by
  obtain⟨r,hr,rfl⟩:=List.mem_map.mp hy;have:=nQ (hp r hr).2;have:=(hp r hr).1;rw[←bB,lC,L8,LY,bB,List.length_singleton];lia)
 rw[LW]at h1 h2;have h3:(LV "").length=0:=by decide+kernel
 rw[h3]at h1;unfold jo;lia
theorem vQ{rs:List (List Int)}{r:List Int}(h:r∈rs):r.length<=rs.flatten.length:=by
 induction rs with
 |nil=>cases h
 |cons a rs ih=>
  rw[List.flatten_cons,LY];rcases List.mem_cons.mp h with rfl|h
  .lia
  .have:=ih h;lia
theorem nh{rs:List (List Int)}(h:∀r∈rs,r≠[]):rs.length<=rs.flatten.length:=by
 induction rs with
 |nil=>exact Ms _
 |cons a rs ih=>
  rw[List.flatten_cons,LY,L8];have:=ih fun r hr=>h r (Mh _ hr);have:=List.length_pos_iff.mpr (h a Mg);lia
theorem jU{n:Int}{xs:List Int}(o:Ord n xs):(aX n xs).flatten.length=n.toNat/\(∀r∈aX n xs,r≠[]/\r.length<=n.toNat/\∀x∈r,1<=x/\x<=n)/\(aX n xs).length<=n.toNat:=by
 have c:∀r∈aX n xs,r≠[]/\∀x∈r,1<=x/\x<=n:=fun r hr=>by
  obtain⟨c1,c2⟩:=jM o hr;refine⟨c1,fun x hx=>?_⟩;obtain⟨i,hi⟩:=List.getElem?_of_mem hx;obtain⟨a,b,_⟩:=c2 i x hi;exact⟨a,b⟩
 have fl:(aX n xs).flatten.length=n.toNat:=by
  have pm:(aX n xs).flatten.Perm (eB 1 (n+1)):=by
   refine(List.perm_ext_iff_of_nodup (lZ o) (gk _ _)).mpr fun x=>?_;rw[cI];constructor
   .intro h
    obtain⟨r,hr,hx⟩:=List.mem_flatten.mp h;have:=(c r hr).2 x hx;lia
   .intro h
    exact nP o (by lia) (by lia)
  rw[pm.length_eq,a8];congr 1;lia
 refine⟨fl,fun r hr=>⟨(c r hr).1,?_,(c r hr).2⟩,?_⟩
 .rw[←fl];exact vQ hr
 .rw[←fl];exact nh fun r hr=>(c r hr).1
section
open PySem L2 PyProof.Rows
theorem nO{a b:Int}(ha:0<=a)(hb:0<=b)(ha9:a<10^10)(hb9:b<10^10)(h:aM a=aM b):a=b:=by
 have h1:=sN ha ha9;rw[h,sN hb hb9]at h1;injection h1 with h1
 exact h1.symm
theorem split_le(x y:Str):(Txt.split x y).length<=x.length+2:=by
 unfold Txt.split
 split
 .simp
 .split
  .simp
  .have h:=StrLaws.occ_length_le x y 0 x.length (x.length+1)
   unfold MS.Str.partsBetween;rw[LW,List.length_zip,L8,LW,LY,List.length_singleton];lia
theorem tG{z:Str}:∀{ts:List Str}{t:Str},t∈ts->t.length<=(Str.join z ts).length:=by
 intro ts t h;have key:∀{ts:List Str},t∈ts->t.length<=(Str.join z ts).length:=by
  intro ts
  induction ts with
  |nil=>intro h;cases h
  |cons a r ih=>
   intro h
   cases r with
   |nil=>
    rcases List.mem_cons.mp h with rfl|h
    .exact Ms _
    .cases h
   |cons b r=>
    have e:Str.join z (a::b::r)=a++z++Str.join z (b::r):=rfl;rw[e,Str.length_append,Str.length_append];rcases List.mem_cons.mp h with rfl|h
    .lia
    .have:=ih h;lia
 exact key h
theorem qg{x y t:Str}(h:t∈Txt.split x y):t.length<=x.length:=by
 have:=tG (z:=y) h;rwa [StrLaws.join_split]at this
theorem jQ(x:Str)(a b:Nat)(hb:b<=x.length):signs (MS.Str.strSub x a b)=((signs x).drop a).take (b-a):=by
 unfold MS.Str.strSub signs;rw[Array.toList_extract,List.extract_eq_take_drop]
theorem nK{x:Str}{c i:Nat}:StrLaws.At x ⟨#[c]⟩ x.length i↔(signs x)[i]?=some c:=by
 have h:=StrLaws.subAt_one x c i;unfold StrLaws.At;rw[h];exact Iff.rfl
theorem J3{w:Str}{a b:Int}(ha:0<=a)(hb:0<=b)(h1:(Txt.partition w (LV "-")).1=aM a)(h2:(Txt.partition w (LV "-")).2.2=aM b):w=iE (a,b):=by
 have dash:LV "-" =⟨#[45]⟩:=by decide+kernel
 rw[dash]at h1 h2;rcases partition_whole w ⟨#[45]⟩with⟨e,_⟩|⟨i,e,hat,_⟩
 .rw[e]at h2
  have:=yo hb;rw[←h2]at this;exact absurd this (Nat.lt_irrefl 0)
 .rw[e]at h1 h2
  have hi:=nK.mp hat;have il:=(List.getElem?_eq_some_iff.mp hi).1;have wl:=bB w;apply bT;unfold iE;rw[aZ,aZ,←h1,←h2,dash];dsimp only;rw[jQ w 0 i (by lia),jQ w _ w.length (Ms _)];show signs w=(((signs w).drop 0).take (i-0)++[45])++((signs w).drop (i+1)).take (w.length-(i+1));rw[List.drop_zero,Nat.sub_zero,Mi (l:=(signs w).drop (i+1)) (by rw[List.length_drop];lia)];have e3:[45]++(signs w).drop (i+1)=(signs w).drop i:=by
   rw[List.drop_eq_getElem_cons il];have:=(List.getElem?_eq_some_iff.mp hi).2;rw[this];rfl
  rw[Mp,e3,List.take_append_drop]
theorem y3{a b:Int}(ha:0<=a)(hb:0<=b):Txt.partition (iE (a,b)) (LV "-")=(aM a,LV "-",aM b):=by
 have dash:LV "-" =⟨#[45]⟩:=by decide+kernel
 have se:signs (iE (a,b))=signs (aM a)++45::signs (aM b):=by
  unfold iE;rw[aZ,aZ,dash,Mp];rfl
 have here:(signs (iE (a,b)))[(signs (aM a)).length]?=some 45:=by rw[se];simp
 have sl:=bB (iE (a,b));rw[dash];rcases partition_whole (iE (a,b)) ⟨#[45]⟩with⟨e,no⟩|⟨i,e,hat,no⟩
 .exact absurd (nK.mpr here) (no _)
 .have hi:=nK.mp hat
  have ii:i=(signs (aM a)).length:=by
   rcases Nat.lt_trichotomy i (signs (aM a)).length with c|c|c
   .exfalso
    rw[se,List.getElem?_append_left c]at hi;exact ic ha (c:=45) (by lia) (Mf hi)
   .exact c
   .exact absurd (nK.mpr here) (no _ c)
  rw[e];refine Prod.ext (bT ?_) (Prod.ext rfl (bT ?_))
  .dsimp only
   rw[jQ _ 0 i (by rw[se]at sl;rw[LY,L8]at sl;lia),se,ii];simp
  .dsimp only
   rw[jQ _ _ _ (Ms _),←sl,se,ii];have d:(signs (aM a)++45::signs (aM b)).drop ((signs (aM a)).length+1)=signs (aM b):=by
    rw[show signs (aM a)++45::signs (aM b)=(signs (aM a)++[45])++signs (aM b) by simp];exact List.drop_left' (by simp)
   show(List.drop ((signs (aM a)).length+1) _).take _=_;rw[d];refine Mi ?_;rw[LY,L8];show _<=_-((signs (aM a)).length+1);lia
end
end Sw
namespace L2
open PySem PySem.Spec PyProof.Rows
structure gF(P:MD)(w:ME)(fr:List Env)(ch:List MB)(H:Hp)(h:MN)(e:MB)(cls a0 fl:MA)(B:MN)(H':Hp)(h':MN)(bb:Option MB):Prop where
 un:Un (gw fr) ch H H' h h'
 bc:jV P w H' h'
 kb:B.StaysIn h'
 en:B.get? e=none
 ff:h'.FunFrames B fr
 tr:h'.TracedAtW B e cls a0 fl
 old:∀b o o',h.get? b=some o->b∉ch->b∉gw fr->h'.get? b=some o'->B.get? b=some o'
 t8:∀b u o',H' b=some u->h'.get? b=some o'->B.get? b=some o'
 nS:∀b∈gw fr,H' b=none
 lo:kH h' e bb
section
variable{P:MD}{w:ME}{fr:List Env}{ch:List MB}{H H':Hp}{h h' h'':MN}{e:MB}{cls a0 fl fl':MA}{B:MN}{bb:Option MB}
theorem va.LD (F:va P w fr H h e cls a0 B H' h' bb):gF P w fr [] H h e cls a0 .none B H' h' bb:=
 ⟨F.un,F.bc,F.fl.1,F.fl.2.1,F.fl.2.2.1,F.fl.2.2.2,fun b o o' q _=>F.old b o o' q,F.t8,F.nS,F.lo⟩
theorem gF.back (F:gF P w fr [] H h e cls a0 .none B H' h' bb):va P w fr H h e cls a0 B H' h' bb:=
 ⟨F.un,F.bc,⟨F.kb,F.en,F.ff,F.tr⟩,fun b o o' q=>F.old b o o' q (by simp),F.t8,F.nS,F.lo⟩
theorem gF.move (F:gF P w fr ch H h e cls a0 fl B H' h' bb)(kb:B.StaysIn h'')(ff:h''.FunFrames B fr)(tr:h''.TracedAtW B e cls a0 fl')(sm:h'.UpToSlots h'')(lo:kH h'' e bb):gF P w fr ch H h e cls a0 fl' B H' h'' bb where
 un:=by
  refine⟨fun b o q n hb hx=>?_,fun b o q n hb hx=>?_,F.un.free,fun b o q hx=>?_,F.un.bI,F.un.iF,F.un.i6⟩
  .have e1:=F.un.keep b o q n hb hx
   exact kb b o (F.old b o o q hx hb e1)
  .obtain⟨sl,e1⟩:=F.un.slot b o q n hb hx
   obtain⟨_,o1,e2,nf⟩:=F.ff.mem hb;rw[e1]at e2;cases e2;obtain⟨sl',e3⟩:=sm b _ e1 nf;exact⟨sl',e3⟩
  .obtain⟨o1,e1⟩:=F.un.there b o q hx
   by_cases hb:b∈gw fr
   .obtain⟨_,o2,e2,nf⟩:=F.ff.mem hb
    rw[e1]at e2;cases e2;obtain⟨sl',e3⟩:=sm b _ e1 nf;exact⟨_,e3⟩
   .exact⟨o1,kb b o1 (F.old b o o1 q hx hb e1)⟩
 bc:=fun a o q=>(F.bc a o q).jq (fun b u hb z=>by
   rcases hb with rfl|hb
   .exact kb b u (F.t8 b _ u q z)
   .exact kb b u (F.t8 b _ u hb z)) (fun _ z=>z) fun _ _ z=>z
 kb:=kb
 en:=F.en
 ff:=ff
 tr:=tr
 old:=fun b o o' q hx hb z=>by
  obtain⟨o1,e1⟩:=F.un.there b o q hx;have e2:=F.old b o o1 q hx hb e1;have e3:=kb b o1 e2;rw[z]at e3;cases e3;exact e2
 t8:=fun b u o' q z=>by
  obtain⟨o1,e1⟩:=(F.bc b u q).here;have e2:=F.t8 b u o1 q e1;have e3:=kb b o1 e2;rw[z]at e3;cases e3;exact e2
 nS:=F.nS
 lo:=lo
theorem gF.out {X:Cx}{pins:List (MB×Obj)}{σ:St}{s:MC}(I:Inv X pins σ H s)(hch:∀b∈ch,b∈X.ex\/X.s₀.heap.objs.size<=b)(F:gF P w X.stack ch H s.heap e cls a0 fl B H' h' bb):gF P w X.outer X.ex X.H₀ X.s₀.heap e cls a0 fl B H' h' bb:=by
 have nch:∀b o,X.s₀.heap.get? b=some o->b∉X.ex->b∉ch:=fun b o q hx hc=>(hch b hc).elim hx fun z=>absurd (Mt (MN.lt_size q) z) (Nat.lt_irrefl _);have ns:∀b o,X.s₀.heap.get? b=some o->b∉gw X.outer->b∉gw X.stack:=fun b o q hb z=>by
  rcases List.mem_cons.mp (I.iO b z)with r|r
  .subst r
   exact absurd (Mt (MN.lt_size q) I.ok.above) (Nat.lt_irrefl _)
  .exact hb r
 have so:∀b∈gw X.outer,b∈gw X.stack:=fun b z=>by
  rcases I.ok.Av with hst|⟨hst,_⟩
  .rw[hst];exact z
  .rw[hst]
   unfold gw at z⊢;rw[List.filterMap_cons]
   split
   .exact z
   .exact Mh _ z
 refine⟨⟨fun b o q n hb hx=>?_,fun b o q n hb hx=>?_,fun b o q n hx=>?_,fun b o q hx=>?_,fun b xs q=>F.un.bI b xs (I.base.bI b xs q),fun b o u q=>F.un.iF b o u (I.base.iF b o u q),fun b ps q=>?_⟩,F.bc,F.kb,F.en,?_,F.tr,fun b o o' q hx hb z=>?_,F.t8,fun b hb=>F.nS b (so b hb),F.lo⟩
 .exact F.un.keep b o (I.base.keep b o q n hb hx) (I.base.free b o q n hx) (ns b o q hb) (nch b o q hx)
 .obtain⟨sl,e1⟩:=I.base.slot b o q n hb hx
  obtain⟨sl',e2⟩:=F.un.any e1 (I.base.free b o q n hx) (nch b o q hx);exact⟨sl',e2⟩
 .obtain⟨o1,e1⟩:=I.base.there b o q hx
  exact F.un.free b o1 e1 (I.base.free b o q n hx) (nch b o q hx)
 .obtain⟨o1,e1⟩:=I.base.there b o q hx
  exact F.un.there b o1 e1 (nch b o q hx)
 .obtain⟨m1,e1⟩:=I.base.i6 b ps q
  obtain⟨m2,e2⟩:=F.un.i6 b _ e1;exact⟨m1++m2,by rw[e2,Array.append_assoc]⟩
 .have f:=F.ff
  rcases I.ok.Av with hst|⟨hst,_⟩
  .rw[hst]at f;exact f
  .rw[hst]at f;exact f.2.2
 .obtain⟨o1,e1⟩:=I.base.there b o q hx
  exact F.old b o1 o' e1 (nch b o q hx) (ns b o q hb) z
theorem mW{B':MN}(k:∀b,B.get? b=none->B'.get? b=none):∀{l:List Env},h.FunFrames B l->h.FunFrames B' l
 |[],_=>trivial
 |env::l,x=>by
  obtain⟨hk,⟨L,o,hf,hn,ho,hd⟩,hr⟩:=x;exact⟨hk,⟨L,o,hf,k L hn,ho,hd⟩,mW k hr⟩
theorem oP{C:MB}(gt:∀b,b≠C->h''.get? b=h'.get? b):∀{l:List Env},C∉gw l->h'.FunFrames B l->h''.FunFrames B l
 |[],_,_=>trivial
 |env::l,nC,x=>by
  obtain⟨hk,⟨L,o,hf,hn,ho,hd⟩,hr⟩:=x;have nL:L≠C/\C∉gw l:=by
   unfold gw at nC⊢;rw[List.filterMap_cons,hf]at nC;exact⟨fun z=>nC (by rw[z];exact Mg),fun z=>nC (Mh _ z)⟩
  exact⟨hk,⟨L,o,hf,hn,(gt L nL.1).trans ho,hd⟩,oP gt nL.2 hr⟩
theorem gF.but {C:MB}(F:gF P w fr ch H h e cls a0 fl B H' h' bb)(hs:MN.SameBut C h' h'')(hC:h.objs.size<=C)(hH:H' C=none)(nC:C∉gw fr)(oC:∃o,h'.get? C=some o/\∀vs,o.data≠.fields vs):gF P w fr ch H h e cls a0 fl (W.hideAll B [C]) H' h'' bb:=by
 have ne:∀b o,h.get? b=some o->b≠C:=fun b o q z=>by subst z;exact absurd (Mt (MN.lt_size q) hC) (Nat.lt_irrefl _)
 have nt:∀b u,H' b=some u->b≠C:=fun b u q z=>by rw[z,hH]at q;cases q
 have nn:∀b,B.get? b=none->(W.hideAll B [C]).get? b=none:=fun b z=>by
  cases q:(W.hideAll B [C]).get? b with
  |none=>rfl
  |some o=>rw[W.of_hideAll _ q]at z;cases z
 have nf:∀b o,(∃vs,o.data= .fields vs)->h'.get? b=some o->b≠C:=fun b o ⟨vs,hv⟩ q z=>by
  obtain⟨o',h1,h2⟩:=oC;rw[z,h1]at q;cases q;exact h2 vs hv
 have gt:∀b,b≠C->h''.get? b=h'.get? b:=hs.2;refine⟨⟨fun b o q n hb hx=>?_,fun b o q n hb hx=>?_,F.un.free,fun b o q hx=>?_,F.un.bI,F.un.iF,F.un.i6⟩,fun a o q=>(F.bc a o q).jq (fun b u hb z=>?_) (fun _ z=>z) fun _ _ z=>z,fun b o q=>?_,nn e F.en,?_,?_,fun b o o' q hx hb z=>?_,fun b u o' q z=>?_,F.nS,?_⟩
 .rw[gt b (ne b o q)];exact F.un.keep b o q n hb hx
 .rw[gt b (ne b o q)];exact F.un.slot b o q n hb hx
 .rw[gt b (ne b o q)];exact F.un.there b o q hx
 .have:b≠C:=by
   rcases hb with rfl|hb
   .exact nt b _ q
   .exact nt b _ hb
  rw[gt b this];exact z
 .have hb:b≠C:=fun z=>by rw[z,W.hideAll_none [C] (List.mem_singleton.mpr rfl)]at q;cases q
  rw[gt b hb];exact F.kb b o (W.of_hideAll _ q)
 .have f1:=oP gt nC F.ff
  exact mW nn f1
 .obtain⟨oe,ws,T,oT,ts,g1,g2,g4,g5,g6,g7,g8,g9,g10⟩:=F.tr
  exact⟨oe,ws,T,oT,ts,(gt e (nf e oe ⟨_,g4⟩ g1)).trans g1,g2,g4,g5,nn T g6,g7,(gt T (nf T oT ⟨_,g9⟩ g8)).trans g8,g9,g10⟩
 .rw[gt b (ne b o q)]at z
  exact W.hideAll_get _ (F.old b o o' q hx hb z) fun hm=>ne b o q (List.mem_singleton.mp hm)
 .rw[gt b (nt b u q)]at z
  exact W.hideAll_get _ (F.t8 b u o' q z) fun hm=>nt b u q (List.mem_singleton.mp hm)
 .obtain⟨o,vs,cc,h1,h2,h3,hcb⟩:=F.lo
  exact⟨o,vs,cc,(gt e (nf e o ⟨_,h2⟩ h1)).trans h1,h2,h3,hcb⟩
end
section
variable{M:Model}{A:MF}{E:MA->MC->Prop}{s:MC}{P:MD}{w:ME}{env:Env}{outer:List Env}{L:MB}{fr:List Env}{ch:List MB}{H H':Hp}{h:MN}{e:MB}{cls a0 fl:MA}{B:MN}{bb:Option MB}
theorem yC{o:Option MB}{Q:Unit->MC->Prop}(F:gF P w fr ch H h e cls a0 fl B H' s.heap bb)
  (k:∀h',gF P w fr ch H h e cls a0 (o.elim MA.none fun f=>rawInt f) B H' h' bb->s.heap.UpToSlots h'->Q () {s with heap:=h'}):MP M A (setFlight (.ref e) o) Q E s:=by
 obtain⟨oo,vs,cc,h1,h2,h3,hcb⟩:=F.lo;obtain⟨oe,ws,T,oT,ts,g1,g2,g4,g5,g6,g7,g8,g9,g10⟩:=F.tr;rw[h1]at g1;cases g1;rw[h2]at g4;cases g4;have sz:3<ts.size:=(Array.getElem?_eq_some_iff.mp g10).1;have oth:∀b,b≠T->(s.heap.update T (Obj.mapFields (·.setIfInBounds 3 (o.elim MA.none fun f=>rawInt f)))).get? b=s.heap.get? b:=fun b hb=>MN.get?_update_other _ _ (Ne.symm hb);have noT:∀b u,s.heap.get? b=some u->(∀ws,u.data≠.fields ws)->b≠T:=fun b u hb hnf q=>by
  rw[q,g8]at hb;cases hb;exact hnf ts g9
 have e':=(oth e (Ne.symm g7)).trans h1;have sm:s.heap.UpToSlots (s.heap.update T (Obj.mapFields (·.setIfInBounds 3 (o.elim MA.none fun f=>rawInt f)))):=fun b u hb hnf=>⟨u.slots,(oth b (noT b u hb hnf)).trans hb⟩;unfold setFlight;refine MI (wpAny_field h1 h2 g5 ?_);rw[if_pos (by simp)];refine wpAny_setField g8 g9 sz (k _ (F.move (fun b u hb=>(oth b fun q=>by rw[q,g6]at hb;cases hb).trans (F.kb b u hb)) (F.ff.of_keeps fun b u hb hnf=>⟨u,(oth b (noT b u hb hnf)).trans hb,rfl⟩) ?_ sm ⟨oo,vs,cc,e',h2,h3,hcb⟩) sm);exact⟨oo,vs,T,_,_,e',g2,h2,g5,g6,g7,MN.get?_update_self _ g8 (Obj.isFreed_of_fields (Obj.data_mapFields g9 _)),Obj.data_mapFields g9 _,by simp[sz]⟩
theorem uI{Q:Unit->MC->Prop}(fr:A.frames=some (env::outer))(ef:env.frame=some L)(F:gF P w (env::outer) ch H h e cls a0 fl B H' s.heap bb)
  (k:∀h' fl',gF P w (env::outer) ch H h e cls a0 fl' B H' h' bb->s.heap.UpToSlots h'->Q () {s with heap:=h'}):MP M A (noteFrame (.ref e) env) Q E s:=by
 obtain⟨oo,vs,cc,h1,h2,h3,hcb⟩:=F.lo;obtain⟨oe,ws,T,oT,ts,g1,⟨g2,g3⟩,g4,g5,g6,g7,g8,g9,g10⟩:=F.tr;rw[h1]at g1;cases g1;rw[h2]at g4;cases g4;subst g2;unfold noteFrame;simp only[ef];refine MI (wpAny_field h1 h2 g5 ?_);rw[if_pos (by simp)];refine MI (wpAny_field g8 g9 g10 ?_);by_cases c:(fl==rawInt L)=true
 .rw[if_pos c]
  exact MJ (k s.heap fl F (MN.UpToSlots.refl _))
 rw[if_neg c];refine MI (wpAny_setField g8 g9 (Array.getElem?_eq_some_iff.mp g10).1 ?_);have oth:∀b,b≠T->(s.heap.update T (Obj.mapFields (·.setIfInBounds 3 MA.none))).get? b=s.heap.get? b:=fun b hb=>MN.get?_update_other _ _ (Ne.symm hb);have noT:∀b u,s.heap.get? b=some u->(∀ws,u.data≠.fields ws)->b≠T:=fun b u hb hnf q=>by
  rw[q,g8]at hb;cases hb;exact hnf ts g9
 refine kr fr (F.ff.of_keeps fun b u hb hnf=>⟨u,(oth b (noT b u hb hnf)).trans hb,rfl⟩) ef ((oth e (Ne.symm g7)).trans h1) (fun b u hb=>(oth b fun q=>by rw[q,g6]at hb;cases hb).trans (F.kb b u hb)) F.en h2 g3 h3 hcb fun h' ⟨x1,x2,x3,x4⟩ l'=>?_;have sm:s.heap.UpToSlots h':=fun b u hb hnf=>x4 b u ((oth b (noT b u hb hnf)).trans hb) hnf;exact k h' _ (F.move x1 x2 x3 sm l') sm
theorem B8{α:Type}{what:String}{cenv:Env}{Q:α->MC->Prop}(F:gF P w fr ch H h e cls a0 fl B H' s.heap bb)
  (k:∀h' fl',gF P w fr ch H h e cls a0 fl' B H' h' bb->E (.ref e) {s with heap:=h'}):MP M A (PySem.passOn what (.ref e) cenv:Sem α) Q E s:=by
 obtain⟨oo,vs,cc,h1,h2,h3,hcb⟩:=id F.lo;obtain⟨oe,ws,T,oT,ts,g1,g2,g4,g5,g6,g7,g8,g9,g10⟩:=id F.tr;rw[h1]at g1;cases g1;rw[h2]at g4;cases g4;unfold PySem.passOn;refine MI (wpAny_field h1 h2 g5 ?_);rw[if_neg (by simp)];refine MI (yC F fun h' F' _=>?_);exact wpAny_throw (k h' _ F')
end
def mT(X:Cx)(E:XK):Prop:=∀(pins:List (MB×Obj))(σ:St)(H:Hp)(s:MC)(ch:List MB)(e:MB)(cls a0 fl:MA)(B:MN)(H':Hp)(bb:Option MB)(s':MC),Inv X pins σ H s->(∀b∈ch,(b∈X.ex\/X.s₀.heap.objs.size<=b)/\b≠X.env.locals)->
 s'.os=s.os->AllBare s'.gens->gF X.prog X.w X.stack ch H s.heap e cls a0 fl B H' s'.heap bb->E cls bb H'->X.xe (.ref e) s'
theorem mT.passes {X:Cx}{E:XK}(p:mT X E):Passes (lW X.prog X.w) X E:=fun pins σ H s ev s' I h=>by
 obtain⟨e,cls,a0,B,H',bb,rfl,os,bare,F,q⟩:=h;exact p pins σ H s [] e cls a0 _ B H' bb s' I (fun b hb=>nomatch hb) os bare F.LD q
section
variable{P:MD}{w:ME}{K:W.Frag}{mg:Str->Option MA}{base:MN}{N:List Str}{qual:Str}{scope:Scope}{f:MB}{cdv:MA}{A:MF}{outer:List Env}{s:MC}{H:Hp}{E:XK}
theorem Cf:mT (zw P w K mg base N qual scope f cdv A outer s H E) E:=by
 intro pins σ H₁ s₁ ch e cls a0 fl B H' bb s' I hch os bare F q;show MP _ _ (leaving _ (.ref e)) _ _ s';unfold leaving;refine MI (uI I.ok.frames rfl F fun g fl' F1 _=>?_);refine yC (s:={s' with heap:=g}) F1 fun h'' F2 _=>?_;exact⟨e,cls,a0,B,H',bb,rfl,os.trans I.os,bare,(gF.out I (fun b hb=>(hch b hb).1) F2).back,q⟩
end
def GN(X:Cx):Prop:=∃(qf:Env)(outer0:List Env)(L:MB),X.stack=qf::outer0/\qf.frame=some L/\X.env.frame=some L
theorem Fz{P:MD}{w:ME}{K:W.Frag}{mg:Str->Option MA}{base:MN}{N:List Str}{qual:Str}{scope:Scope}{f:MB}{cdv:MA}{A:MF}{outer:List Env}{s:MC}{H:Hp}{E:XK}:GN (zw P w K mg base N qual scope f cdv A outer s H E):=⟨_,_,_,rfl,rfl,rfl⟩
def n5(E:XK)(X:Cx)(N:List Str)(scope:Scope)(C:MB)(fp:List MB)(s:MC)(H:Hp):Cx:=
 {gc X N scope C fp s H with xe:=fun ev s'=>∃(e:MB)(cls a0 fl:MA)(B:MN)(H':Hp)(bb:Option MB),ev= .ref e/\s'.os=s.os/\AllBare s'.gens/\gF X.prog X.w X.stack fp H s.heap e cls a0 fl B H' s'.heap bb/\(∃m,s'.heap.Ns C m)/\H' C=none/\C∉gw X.stack/\E cls bb H'}
section
variable{E:XK}{X:Cx}{N:List Str}{scope:Scope}{C:MB}{fp:List MB}{s:MC}{H:Hp}
theorem CD:mT (n5 E X N scope C fp s H) E:=by
 intro pins σ H3 s3 ch e cls a0 fl B H' bb s' I hch os bare F q;obtain⟨m,hn,_⟩:=id I.loc;have nC:C∉gw X.stack:=fun z=>by
  obtain⟨_,o,ho,_⟩:=I.ok.iJ.mem z;exact absurd (Mt (MN.lt_size ho) I.ok.above) (Nat.lt_irrefl _)
 have nch:C∉ch:=fun z=>(hch C z).2 rfl;obtain⟨o,es,ep,ho,r⟩:=hn;have hC':=F.un.keep C o ho I.free nC nch;exact⟨e,cls,a0,fl,B,H',bb,rfl,os.trans I.os,bare,gF.out I (fun b hb=>(hch b hb).1) F,⟨m,o,es,ep,hC',r⟩,F.un.free C o ho I.free nch,nC,q⟩
theorem Kj{pins:List (MB×Obj)}{σ:St}{H1:Hp}{s1:MC}(I:Inv (gc X N scope C fp s H) pins σ H1 s1):Inv (n5 E X N scope C fp s H) pins σ H1 s1:=
 ⟨⟨I.ok.mod,I.ok.kind,I.ok.glob,I.ok.blt,I.ok.above,I.ok.inj,I.ok.has,I.ok.CA,I.ok.hd,I.ok.frames,I.ok.Av,I.ok.EV,I.ok.bs,I.ok.yZ,I.ok.pL,I.ok.qc,I.ok.iJ,I.ok.nS⟩,I.os,I.bare,I.base,I.loc,I.cell,I.free,I.fE,I.pin,I.bc,I.len⟩
theorem Kc{pins:List (MB×Obj)}{σ:St}{H1:Hp}{s1:MC}(I:Inv (n5 E X N scope C fp s H) pins σ H1 s1):Inv (gc X N scope C fp s H) pins σ H1 s1:=
 ⟨⟨I.ok.mod,I.ok.kind,I.ok.glob,I.ok.blt,I.ok.above,I.ok.inj,I.ok.has,I.ok.CA,I.ok.hd,I.ok.frames,I.ok.Av,I.ok.EV,I.ok.bs,I.ok.yZ,I.ok.pL,I.ok.qc,I.ok.iJ,I.ok.nS⟩,I.os,I.bare,I.base,I.loc,I.cell,I.free,I.fE,I.pin,I.bc,I.len⟩
end
section
variable{prog:MD}{w:ME}{A:MF}{R:Result->MC->Prop}{s:MC}
theorem p5{elt target iter:Expr}{ifs:List Expr}{scope:Scope}{pos:Pos}{it acc:MA}{env:Env}(EE:MA->MC->Prop)(hE:∀x s',EE x s'->notedBy (model prog w) A env (fun e s'=>R (.error e) s') x s')(I:Nat->MC->Prop)
  (turn:∀n s,I n s->MP (model prog w) A (pyNext it) (fun r s₁=>match r with
   |none=>R (.ok .next) s₁
   |some v=>MP (model prog w) A (letOwnedTupleGo target it v) (fun _ s₁=>MP (model prog w) A (assign target env v) (fun _ s₂=>
     MP (model prog w) A (forIn ifs true fun c r=>if r=true then do let ok←isTrue c env (eval c env);pure (ForInStep.yield ok)else pure (ForInStep.yield r)) (fun ok s₃=>
      if ok=true then MP (model prog w) A (eval elt env) (fun x s₄=>
       MP (model prog w) A (call (.builtin "list.append") [acc,x]) (fun _ s₅=>∃m,m<n/\I m s₅) EE s₄) EE s₃
      else∃m,m<n/\I m s₃) EE s₂) EE s₁) EE s₁) EE s)
  (n:Nat) (h:I n s):
  codeAny (model prog w) A (.compLoop (.ListComp elt [⟨target,iter,ifs,0⟩] scope pos) 0 it acc env) R s:=by
 refine codeAny_loop rfl I (fun n s hI=>?_) n h;show MP _ A ((compTurn (.ListComp elt [⟨target,iter,ifs,0⟩] scope pos) 0 it acc env).onRaise (fun x=>do noteFrame x env;theTreesLotGoes x)) _ _ s;refine wpAny_noted ?_;rw[compTurn_list];refine MI (wpAny_standAt (MI (MK (turn n s hI) (fun r s₁ h₁=>?_) fun x s' h'=>hE x s' h')))
 cases r with
 |none=>exact MJ h₁
 |some v=>
  refine MI (MK h₁ (fun _ s₁ h₁=>?_) fun x s' h'=>hE x s' h');refine MI (MK h₁ (fun _ s₂ h₂=>MI (MK h₂ (fun ok s₃ h₃=>?_) fun x s' h'=>hE x s' h')) fun x s' h'=>hE x s' h')
  cases ok with
  |false=>exact MJ ⟨rfl,h₃⟩
  |true=>
   refine MI (MI (MK h₃ (fun x s₄ h₄=>MI (MK h₄ (fun _ s₅ h₅=>?_) fun x s' h'=>hE x s' h')) fun x s' h'=>hE x s' h'));exact MJ (MJ ⟨rfl,h₅⟩)
end
section
variable{X:Cx}{scope:Scope}{N:List Str}{ix:List (Option Nat)}{elt tg iter:Expr}{ifs:List Expr}{g:TG}{tc:TT}{te:TE}{pos:Pos}
theorem vG{pins:List (MB×Obj)}{σ:St}{s2:MC}{Q:VK}{itv:MA}{RR:MA->MB->Result->MC->Prop}{E:MA->MC->Prop}(c:eF X scope N ix)(hc:X.calm=true){EX:XK}
  (hg:∀C fp s H,PG (n5 EX X N scope C fp s H) tg g) (ht:∀C fp s H,Hm (n5 EX X N scope C fp s H) ifs tc) (he:∀C fp s H,PE (n5 EX X N scope C fp s H) elt te)
  (h2:HQ X pins σ tg (iW ix g tc te σ Q) itv s2)
  (hX:∀(D C:MB)(fp:List MB)(H2:Hp)(x:MA)(s':MC),Inv X pins σ H2 s2->(∀b∈fp,ik X pins H2 b)->s2.heap.objs.size<=C->(n5 EX X N scope C fp s2 H2).xe x s'->notedBy (model X.prog X.w) X.A (n5 EX X N scope C fp s2 H2).env (fun e s'=>RR (.ref D) C (.error e) s') x s')
  (hR:∀(D C:MB)(s':MC)(H':Hp)(m:Str->Option MA),Inv X pins σ H' s'->s'.heap.Ns C m->H' C=none->X.s₀.heap.objs.size<=C->(∀p∈X.pn++pins,p.1≠C)->C≠X.env.locals->(∀x c,X.env.cells.lookup x=some c->c≠C)->Q (.ref D) H'->RR (.ref D) C (.ok .next) s'):
  MP (model X.prog X.w) X.A (newList []) (fun acc s₃=>MP (model X.prog X.w) X.A (newFunctionEnv scope X.env.globals (dI X.env.cells scope.names []) [] X.env.qual none .none (some X.env)) (fun cenv s₄=>
   codeAny (model X.prog X.w) X.A (.compStart (.ListComp elt [⟨tg,iter,ifs,0⟩] scope pos) 0 itv acc {cenv with scope:=relabel scope X.env}) (RR acc cenv.locals) s₄) E s₃) E s2:=by
 obtain⟨it,fp,tn,J,H2,rfl,I2,T,st2,f2,W,⟨m0,w0⟩,turn⟩:=h2;refine wpAny_newObj_type (wpAny_newFunctionEnv c.oJ (by intro y hy;simp at hy) (fun h₁ hns₁ hsb₁=>?_) c.kind);dsimp only at hns₁ hsb₁⊢;generalize hH2:s2.heap.push {cls:= .type "list",dict:=none,data:= .seq ([]:List MA).toArray}=G2 at hns₁ hsb₁⊢;have hCs:G2.objs.size=s2.heap.objs.size+1:=by rw[←hH2,MN.size_push]
 generalize hCe:G2.objs.size=C at hns₁ hsb₁ hCs⊢;generalize hDe:s2.heap.objs.size=D at hCs⊢;have ltC:∀b,@LT.lt Nat _ b D->b≠C:=fun b hb=>Mu (by rw[hCs];exact Nat.lt_succ_of_lt hb);have ltS:∀b o,s2.heap.get? b=some o->@LT.lt Nat _ b D:=fun b o e=>by rw[←hDe];exact MN.lt_size e
 have hDC:D≠C:=Mu (by rw[hCs];exact Nat.lt_succ_self _);have old:∀b o,s2.heap.get? b=some o->h₁.get? b=some o:=fun b o e=>hsb₁.extBut b o (ltC b (ltS b o e)) (MN.get?_push_of_some _ (hH2▸MN.get?_push_of_some _ e));have hoD:h₁.get? D=some {cls:= .type "list",dict:=none,data:= .seq ([]:List MA).toArray}:=by
  refine hsb₁.extBut _ _ hDC (MN.get?_push_of_some _ ?_);rw[←hH2,←hDe];exact MN.get?_push_size _ rfl
 have I4:Inv (n5 EX X N scope C fp s2 H2) (pins++[(D,{cls:= .type "list",data:= .seq ([]:List MA).toArray})]) (dA ix σ) H2 {s2 with heap:=h₁,toks:=s2.toks+([]:List (Str×MA)).length}:=
  Kj<|c.enter I2 f2 (T.obj _ _ st2) (by rw[hCs,hDe]) hDe.symm old hns₁ hoD fun v z=>by cases z
 have st4:tn 0 h₁:=T.keep _ _ _ st2 fun b _ o e=>old b o e;have pinD:∀p∈X.pn++pins,p.1≠D:=fun p hp=>Mu (ltS _ _ (I2.pin p hp).1);have pinC:∀p∈X.pn++pins,p.1≠C:=fun p hp=>ltC _ (ltS _ _ (I2.pin p hp).1);have celD:∀x d,X.env.cells.lookup x=some d->@LT.lt Nat _ d D:=fun x d e=>by
  obtain⟨v,o,ho,_⟩:=I2.cell x d e;exact ltS d o ho
 have fpD:∀b∈fp,@LT.lt Nat _ b D:=fun b hb=>by
  obtain⟨o,e,_⟩:=T.obj _ _ st2 b hb;exact ltS b o e
 have sub:∀x d,(dI X.env.cells scope.names []).lookup x=some d->X.env.cells.lookup x=some d:=fun x d e=>by
  rcases cM e with z|z
  .simp at z
  .exact z
 have stat:∀{H':Hp}{oD:Obj},(∀b∈fp,H' b=none)->∀b∈fp,ik (n5 EX X N scope C fp s2 H2) (pins++[(D,oD)]) H' b:=fun{H' oD} hn b hb=>by
  obtain⟨f0,f1,f2,f3,f4,f5⟩:=f2 b hb;refine⟨hn b hb,ltC b (fpD b hb),fun z=>?_,.inl hb,fun x d e=>f4 x d (sub x d e),fun p hp=>?_⟩
  .rcases List.mem_cons.mp (I2.iO b z)with e|e
   .exact f1 e
   .exact f2 e
  .have hp:p∈X.pn++(pins++[(D,oD)]):=hp
   rw[←Mp]at hp;rcases List.mem_append.mp hp with z|z
   .exact f5 p z
   .have e:p=(D,oD):=by simpa using z
    subst e;exact Nat.ne_of_gt (fpD b hb)
 have loop:∀s3:MC,s3={s2 with heap:=h₁,toks:=s2.toks+([]:List (Str×MA)).length}->
   codeAny (model X.prog X.w) X.A (.compLoop (.ListComp elt [⟨tg,iter,ifs,0⟩] scope pos) 0 (.ref it) (.ref D) (n5 EX X N scope C fp s2 H2).env) (RR (.ref D) C) s3:=by
  rintro s3 rfl;refine p5 (n5 EX X N scope C fp s2 H2).xe (fun x s' h'=>hX D C fp H2 x s' I2 f2 (by rw[hDe,hCs];exact Nat.le_succ _) h') (fun n s'=>∃i σ' H' ys its k,Inv (n5 EX X N scope C fp s2 H2) (pins++[(D,{cls:= .type "list",data:= .seq (List.toArray its) k})]) σ' H' s'/\tn i s'.heap/\(∀b∈fp,H' b=none)/\Vals ys its/\W i n ys σ' H') ?_ m0
   ⟨0,_,H2,[],[],_,I4,st4,fun b hb=>(f2 b hb).1,.nil,w0⟩
  rintro n s3 ⟨i,σ3,H3,ys,its,k,I3,st3,fr3,rv,w3⟩;rcases turn i n ys σ3 H3 w3 with⟨stop,hz,qn⟩|⟨go,hz,step⟩
  .refine aV (T.done (n5 EX X N scope C fp s2 H2) rfl rfl rfl hc i _ s3 σ3 H3 _ I3 (stat fr3) st3 stop) fun r s4 ⟨hr,I4⟩=>?_
   subst hr;have hDn:H3 D=none:=(I3.pin (D,_) (Mj _ (Mj _ Mg))).2.1;obtain⟨m4,hn4,_⟩:=id I4.loc;refine hR D C s4 _ m4 (c.leave I2 f2 (by rw[hCs,hDe]) hDe.symm (Kc I4) rv hz) hn4 ?_ ?_ pinC ?_ (fun x d e=>ltC d (celD x d e)) (qn D hDn)
   .rw[ao hDC.symm];exact I4.free
   .refine Mv I2.sz ?_
    rw[hDe,hCs];exact Nat.le_succ _
   .refine Nat.ne_of_gt (Mt I2.lt ?_)
    rw[hDe,hCs];exact Nat.le_succ _
  .refine aV (T.item (n5 EX X N scope C fp s2 H2) rfl rfl rfl hc i _ s3 σ3 H3 _ I3 (stat fr3) st3 go) fun r s4 ⟨u,hr,h4⟩=>?_
   subst hr;refine aV h4 fun _ s5 ⟨x,H5,I5,r5,y5,st5,fr5⟩=>?_;have I5':=I5.pinned (stat fr5) (T.obj _ _ st5);refine aV (hg C fp s2 H2 _ s5 σ3 H5 x u _ I5' r5 (step x H5 y5)) fun _ s6 ⟨σ6,H6,I6,q6⟩=>?_;refine aV (ht C fp s2 H2 _ s6 σ6 H6 _ I6 q6) fun ok s7 ⟨H7,I7,q7⟩=>?_;have keep:∀{s':MC}{σ':St}{H':Hp},Inv (n5 EX X N scope C fp s2 H2) ((pins++[(D,{cls:= .type "list",data:= .seq its.toArray k})])++gQ fp s5.heap) σ' H' s'->tn (i+1) s'.heap/\∀b∈fp,H' b=none:=fun{s' σ' H'} I'=>by
    refine⟨T.keep _ _ _ st5 fun b hb o e=>(I'.pin (b,o) (Mj _ (Mj _ (bW hb e)))).1,fun b hb=>?_⟩;obtain⟨o,e,d⟩:=T.obj _ _ st5 b hb;exact(I'.pin (b,o) (Mj _ (Mj _ (bW hb e)))).2.1
   cases ok with
   |false=>
    rw[if_neg Mx];rw[if_neg Mx]at q7;obtain⟨m',hm,w7⟩:=q7;obtain⟨k1,k2⟩:=keep I7;exact⟨m',hm,i+1,σ6,H7,ys,its,k,I7.cD,k1,k2,rv,w7⟩
   |true=>
    rw[if_pos rfl];rw[if_pos rfl]at q7;refine aV (he C fp s2 H2 _ s7 σ6 H7 _ I7 q7) fun y s8 ⟨v,H8,I8,r8,m',hm,w8⟩=>?_;obtain⟨k1,k2⟩:=keep I8;have pD:=I8.pin (D,_) (Mj _ (Ml _ (Mj _ Mg)));have I8u:=I8.cD;have I8v:Inv (n5 EX X N scope C fp s2 H2) pins σ6 H8 s8:=I8u.cD;have len:=rv.length;refine wpAny_list_append_plain (items:=its.toArray) (hsz:=by simp;lia) ⟨k,pD.1⟩ fun h9 hl9 hs9=>?_;obtain⟨k9,e9⟩:=hl9;have I9:Inv (n5 EX X N scope C fp s2 H2) pins σ6 H8 {s8 with heap:=h9}:=by
     refine I8v.turned (t':=s8.toks) (it:=D) (fun b o hb e=>hs9.extBut b o hb e) pD.2.1 hDC (.inr ?_) (fun x d e=>Mu (celD x d (sub x d e))) fun p hp=>?_
     .show s2.heap.objs.size<=D
      rw[hDe];exact Ms _
     .exact pinD p hp
    have e9':h9.get? D=some {cls:= .type "list",data:= .seq (its++[y]).toArray k9}:=by
     rw[e9];simp
    refine⟨m',hm,i+1,σ6,H8,ys++[v],its++[y],k9,I9.kX fun p hp=>?_,T.keep _ _ _ k1 fun b hb o e=>hs9.extBut b o (Mu (fpD b hb)) e,k2,rv.append (.cons r8 .nil),w8⟩;rcases List.mem_append.mp hp with z|z
    .exact I9.pin p (Mj _ z)
    .have e:p=(D,{cls:= .type "list",data:= .seq (its++[y]).toArray k9}):=by simpa using z
     subst e;exact⟨e9',pD.2.1,pD.2.2.1,pD.2.2.2.1,fun v z=>by cases z⟩
 exact codeAny_compStart_list (loop _ rfl) (T.self _ 0 _ _ _ st4 (loop _ rfl))
theorem xc{e:MA}{env env':Env}(h:env'.frame=env.frame):noteFrame e env'=noteFrame e env:=by
 unfold noteFrame PySem.frameOf;rw[h]
theorem Cz{pins:List (MB×Obj)}{σ:St}{s2:MC}{EX:XK}{use:Option (MA->Sem Unit)}{QQ:MA->MC->Prop}(tp:GN X)(pc:mT X EX)(D C:MB)(fp:List MB)(H2:Hp)(x:MA)(s':MC)(I2:Inv X pins σ H2 s2)(f2:∀b∈fp,ik X pins H2 b)(hC:s2.heap.objs.size<=C)
  (h:(n5 EX X N scope C fp s2 H2).xe x s'):notedBy (model X.prog X.w) X.A (n5 EX X N scope C fp s2 H2).env (fun e s'=>compPost (model X.prog X.w) X.A X.xe use QQ (.ref D) C (.error e) s') x s':=by
 obtain⟨qf,outer0,L,h1,h2,h3⟩:=tp;obtain⟨e,cls,a0,fl,B,H',bb,rfl,os,bare,F,⟨m,hn⟩,hH,nC,q⟩:=h;unfold notedBy;rw[xc (env:=qf) (env':=(n5 EX X N scope C fp s2 H2).env) (show X.env.frame=qf.frame from h3.trans h2.symm)];have fr:=I2.ok.frames;rw[h1]at fr;have F':=F;rw[h1]at F';refine uI fr h2 F' fun h' fl' F1 sm=>?_;have hn':=sm.ns hn;refine⟨m,hn',fun h3 hs cenv hcl=>?_⟩;obtain⟨o,es,ep,ho,hd,_⟩:=hn';rw[←h1]at F1;have F3:=F1.but hs hC hH nC ⟨o,ho,fun vs z=>by rw[hd]at z;cases z⟩;refine B8 (s:={s' with heap:=h3}) F3 fun h4 fl4 F4=>?_;exact pc pins σ H2 s2 fp e cls a0 fl4 _ H' bb {s' with heap:=h4} I2 (fun b hb=>⟨(f2 b hb).2.2.2.1,(f2 b hb).2.1⟩) os bare F4 q
variable{wi:TI}
theorem uT{EX:XK}{i:Nat}{x:Str}{px spos:Pos}(tp:GN X)(pc:mT X EX)(hN:X.N.Nodup)(hx0:X.N[i]?=some x)(hx:X.env.scope.names.lookup x=some .local)(c:eF X scope N ix)(hc:X.calm=true)(hi:PI X tg iter wi)(hg:∀C fp s H,PG (n5 EX X N scope C fp s H) tg g)(ht:∀C fp s H,Hm (n5 EX X N scope C fp s H) ifs tc)(he:∀C fp s H,PE (n5 EX X N scope C fp s H) elt te)
  (hsw:swapsWith (.ListComp elt [⟨tg,iter,ifs,0⟩] scope pos) (some (.Name x px)) spos.line X.env=pure true:=by rfl)
  (hs:∀x,foldedSetIterable iter X.env x=pure x:=by intro _;rfl):PS X (.Assign [.Name x px] (.ListComp elt [⟨tg,iter,ifs,0⟩] scope pos) spos) (uQ (AE ix wi g tc te) (cu i)):=by
 intro pins s σ H D0 I h;rw[exec_Assign_Name_used _ _ _ _ hsw];refine MI (wpAny_standAt (MI ?_));show MP _ _ (do let _←comprehension (.ListComp elt [⟨tg,iter,ifs,0⟩] scope pos) scope X.env _ (newList []) false (eval iter X.env) (some (assign (.Name x px) X.env))) _ _ s;have hcl:∀y∈scope.names,y.2=MR.free->∃d,X.env.cells.lookup y.1=some d:=fun y hy e=>I.ok.has _ (c.fr y hy e);refine MI (MK (wpAny_comprehension_free (use:=some (assign (.Name x px) X.env)) (Q:=fun _ s'=>SP X pins D0 .next s') rfl hs (fm hcl) c.kind c.names
  (aV (hi pins s σ H _ I h) fun v s1 h1=>aV h1 fun itv s2 h2=>?_)) (fun _ s' hq=>MJ (MJ hq)) fun _ _ e=>e)
 refine vG (RR:=fun acc C=>compPost (model X.prog X.w) X.A X.xe (some (assign (.Name x px) X.env)) (fun _ s'=>SP X pins D0 .next s') acc C) c hc hg ht he h2 (fun D C fp H2 x s' I2 f2 hC h'=>Cz tp pc D C fp H2 x s' I2 f2 hC h') ?_;intro D C s' H' m I' hn hC hz hp hL hcells q;show MP _ _ (assign (.Name x px) X.env (.ref D)) _ _ _;refine wpAny_assign_Name (ma (v:= .ref D) I' hN hx0 (.inl hx) rfl (fun s'' I'' hsb=>?_) (.inr hx));obtain⟨a,sb,ha⟩:=hsb;have haC:a≠C:=by
  rcases ha with e|e
  .rw[e];exact hL.symm
  .exact hcells x a e
 refine⟨m,hn.sameBut sb haC.symm,fun h' hs'=>⟨_,H',I''.turned (t':=s''.toks) (fun b o hb e=>hs'.extBut b o hb e) hC hL (.inr hz) hcells hp,q⟩⟩
end
section
variable{prog:MD}{w:ME}{A:MF}{E:MA->MC->Prop}{s:MC}
theorem Cn{it t:MB}{i:Nat}{items:Array MA}{x:MA}{Q:MA->MC->Prop}(st:s.heap.IsTupleIter it t i)(ht:s.heap.IsTuple t items)(hx:items[i]?=some x)
  (k:∀h',h'.IsTupleIter it t (i+1)->MN.SameBut it s.heap h'->Q x {s with heap:=h'}):MP (model prog w) A (MS.SmallTypes.nextOf (.ref it)) Q E s:=by
 obtain⟨o,h1,h2,h3⟩:=id st;obtain⟨ol,g1,_,n,g2⟩:=ht;unfold MS.SmallTypes.nextOf;refine MI (wpAny_callSpecial?_slot (name:=LV "__next__") st.typeIs F.slot_tuple_iterator_next (wpAny_call_entry F.slot_tuple_iterator_next st.typeIs F.entry_tuple_iterator_next ?_ (F.args_tuple_iterator_next_1 _)));show MP _ _ (field (.ref it) 0>>=_) _ _ s;refine MI (wpAny_field h1 h3 (x:= .ref t) rfl ?_);show MP _ _ (if(MA.ref t==MA.none)=true then _ else _) _ _ s;rw[if_neg (show¬((MA.ref t==MA.none)=true)from Mx)];show MP _ _ (field (.ref it) 1>>=_) _ _ s;refine MI (wpAny_field h1 h3 (x:= .int i 0) rfl ?_);show MP _ _ (seqItems? (.ref t)>>=_) _ _ s;refine MI (wpAny_seqItems g1 g2 ?_);simp only[Int.toNat_natCast,hx];refine MI (wpAny_setField h1 h3 (by simp) (MJ ⟨x,rfl,MJ (k _ ?_ (MN.SameBut.update ..))⟩));exact⟨_,MN.get?_update_self _ h1 (Obj.isFreed_of_fields (Obj.data_mapFields h3 _)),(Obj.cls_mapFields ..).trans h2,by rw[Obj.data_mapFields h3];simp[rawInt]⟩
theorem zR{it t:MB}{i:Nat}{items:Array MA}{Q:MA->MC->Prop}(hh:A.handled=none)(st:s.heap.IsTupleIter it t i)(ht:s.heap.IsTuple t items)(hx:items[i]?=none)
  (k:∀h' e,MN.ExtBut it s.heap h'->(∃o,h'.get? e=some o/\o.cls= .type "StopIteration")->E (.ref e) {s with heap:=h'}):MP (model prog w) A (MS.SmallTypes.nextOf (.ref it)) Q E s:=by
 obtain⟨o,h1,h2,h3⟩:=id st;obtain⟨ol,g1,_,n,g2⟩:=ht;unfold MS.SmallTypes.nextOf;refine MI (wpAny_callSpecial?_slot (name:=LV "__next__") st.typeIs F.slot_tuple_iterator_next (wpAny_call_entry F.slot_tuple_iterator_next st.typeIs F.entry_tuple_iterator_next ?_ (F.args_tuple_iterator_next_1 _)));show MP _ _ (field (.ref it) 0>>=_) _ _ s;refine MI (wpAny_field h1 h3 (x:= .ref t) rfl ?_);show MP _ _ (if(MA.ref t==MA.none)=true then _ else _) _ _ s;rw[if_neg (show¬((MA.ref t==MA.none)=true)from Mx)];show MP _ _ (field (.ref it) 1>>=_) _ _ s;refine MI (wpAny_field h1 h3 (x:= .int i 0) rfl ?_);show MP _ _ (seqItems? (.ref t)>>=_) _ _ s;refine MI (wpAny_seqItems g1 g2 ?_);simp only[Int.toNat_natCast,hx];refine MI (wpAny_rule (MI (wpAny_setField h1 h3 (by simp) ?_)));show MP _ _ (newExc (.type "StopIteration") []>>=_) _ _ _;refine MI ?_;simp only[newExc,newTuple];refine MI (wpAny_newObj_type ?_ (by size_fits));refine MI (m:=firstArgMember _ _) (wpAny_of_eq (a:=MA.none) (by first|rfl|(simp only[firstArgMember];rfl)) ?_);refine wpAny_newObj_type ?_ (by size_fits);simp only[raiseNew];refine MI (wpAny_handled ?_)
 first|rw[show A.in1.handled=none from hh]|rw[hh]
 refine MI (MJ (wpAny_throw ?_));exact k _ _ (((MN.SameBut.update ..).extBut.push _).push _) ⟨_,MN.get?_push_size _ rfl,rfl⟩
theorem zT(hh:A.handled=none){it t:MB}(items:Array MA)(hne:t≠it):Draws prog w A it [it,t] items.size (fun i v=>items[i]?=some v) (fun i h=>h.IsTupleIter it t i/\h.IsTuple t items)where
 live:=fun i h st=>by obtain⟨⟨o,e,_⟩,_⟩:=st;exact⟨o,e⟩
 frame:=fun i h h' st k=>⟨st.1.at fun o e=>k it (by simp) o e,by
  obtain⟨o,e,r⟩:=st.2;exact⟨o,k t (by simp) o e,r⟩⟩
 item:=fun i s Q E hi st hQ=>Cn st.1 st.2 (Array.getElem?_eq_getElem hi) fun h' st' sb=>hQ _ h' s.toks (Array.getElem?_eq_getElem hi) ⟨st',st.2.extBut sb.extBut hne⟩ sb
 done:=fun s Q E st hE=>zR hh st.1 st.2 (Array.getElem?_eq_none (Ms _)) hE
structure sy(z TI TO i1 i2:MB)(f1 f2:List MB):Prop where
 TIz:TI≠z
 TOz:TO≠z
 TITO:TI≠TO
 z1:z∉f1
 z2:z∉f2
 O1:TO∉f1
 O2:TO∉f2
 m1:i1∈f1
 m2:i2∈f2
 i12:i1∉f2
 LH:i2∉f1
 I1:TI≠i1
 I2:TI≠i2
variable{n1 n2:Nat}{P1 P2:Nat->MA->Prop}{S1 S2:Nat->MN->Prop}{z TI TO i1 i2:MB}{f1 f2:List MB}
theorem Ai{k1 k2:Nat}{a b:MA}{Q:MA->MC->Prop}(D1:∀A':MF,A'.handled=A.handled->Draws prog w A' i1 f1 n1 P1 S1)(D2:∀A':MF,A'.handled=A.handled->Draws prog w A' i2 f2 n2 P2 S2)(D:sy z TI TO i1 i2 f1 f2)
  (hz:IsZip s.heap z TI TO .none) (hTI:IsPair s.heap TI (.ref i1) (.ref i2)) (hTO:IsPair s.heap TO a b) (h1:S1 k1 s.heap) (h2:S2 k2 s.heap) (l1:k1<n1) (l2:k2<n2)
  (hQ:∀x y h' tk,P1 k1 x->P2 k2 y->IsZip h' z TI TO (rawInt s.heap.objs.size)->IsPair h' TO x y->S1 (k1+1) h'->S2 (k2+1) h'->IsPair h' s.heap.objs.size x y->h'.objs.size=s.heap.objs.size+1->
   (∀c o,c≠z->c≠TO->c≠i1->c≠i2->s.heap.get? c=some o->h'.get? c=some o)->Q (.ref s.heap.objs.size) {s with heap:=h',toks:=tk}):
  MP (model prog w) A (MS.«zip.__next__» ⟨[.ref z],[]⟩) (fun fin s'=>∃v,fin= .done (.ret v)/\Q v s') E s:=by
 have iz1:i1≠z:=fun e=>D.z1 (e▸D.m1);have iz2:i2≠z:=fun e=>D.z2 (e▸D.m2);have io1:i1≠TO:=fun e=>D.O1 (e▸D.m1);have io2:i2≠TO:=fun e=>D.O2 (e▸D.m2);have i12:i1≠i2:=fun e=>D.i12 (e▸D.m2);have fr1:∀{k b h h'},b∉f1->MN.ExtBut b h h'->S1 k h->S1 k h':=fun hb x st=>(D1 A rfl).frame _ _ _ st fun c hc o e=>x c o (fun q=>hb (q▸hc)) e;have fr2:∀{k b h h'},b∉f2->MN.ExtBut b h h'->S2 k h->S2 k h':=fun hb x st=>(D2 A rfl).frame _ _ _ st fun c hc o e=>x c o (fun q=>hb (q▸hc)) e;show MP _ _ (field (.ref z) 2>>=_) _ _ _;refine MI (wpAny_field hz rfl (x:= .bool false) rfl ?_);show MP _ _ (field (.ref z) 3>>=_) _ _ _;refine MI (wpAny_field hz rfl (x:= .ref TI) rfl ?_);refine MI (wpAny_seqItems hTI rfl ?_);show MP _ _ (MS.SmallTypes.ownedTupleIsFree (.ref z)>>=_) _ _ _;refine MI ?_;unfold MS.SmallTypes.ownedTupleIsFree;refine MI (wpAny_field hz rfl (x:= .none) rfl (MJ ?_));simp only[if_true];refine MI (wpAny_rule ?_);refine MI (wpAny_field hz rfl (x:= .ref TO) rfl ?_);refine MI (wpAny_setField_rec hz (by simp) fun g1 hz1 x1=>?_);replace hz1:IsZip g1 z TI TO .ellipsis:=hz1;have hTO1:IsPair g1 TO a b:=x1.extBut _ _ D.TOz hTO;have h11:=fr1 D.z1 x1.extBut h1;have h21:=fr2 D.z2 x1.extBut h2;refine MI ?_;simp only[List.zipIdx_cons,List.zipIdx_nil,List.forIn_cons,List.forIn_nil];refine MI (MI (wpAny_onRaise ?_));show MP _ _ (MS.SmallTypes.nextOf (.ref i1)>>=_) _ _ _;refine MI ((D1 _ rfl).item k1 _ _ _ l1 h11 fun x g2 t2 px h12 x2=>MJ ?_);have hTO2:IsPair g2 TO a b:=x2.extBut _ _ (Ne.symm io1) hTO1;have h22:=fr2 D.i12 x2.extBut h21;refine MI (wpAny_seqItems hTO2 rfl ?_);refine MI (wpAny_updateSeq_pair hTO2 fun g3 hTO3 x3=>?_);replace hTO3:IsPair g3 TO x b:=hTO3;refine MI (wpAny_letGo (MJ ?_));have h13:=fr1 D.O1 x3.extBut h12;have h23:=fr2 D.O2 x3.extBut h22;refine MI (MI (wpAny_onRaise ?_));show MP _ _ (MS.SmallTypes.nextOf (.ref i2)>>=_) _ _ _;refine MI ((D2 _ rfl).item k2 _ _ _ l2 h23 fun y g4 t4 py h24 x4=>MJ ?_);have hTO4:IsPair g4 TO x b:=x4.extBut _ _ (Ne.symm io2) hTO3;have h14:=fr1 D.LH x4.extBut h13;refine MI (wpAny_seqItems hTO4 rfl ?_);refine MI (wpAny_updateSeq_pair hTO4 fun g5 hTO5 x5=>?_);replace hTO5:IsPair g5 TO x y:=hTO5;have h15:=fr1 D.O1 x5.extBut h14;have h25:=fr2 D.O2 x5.extBut h24;refine MI (wpAny_letGo (MJ (MJ ?_)));refine MI (wpAny_seqItems hTO5 rfl ?_);refine MI (wpAny_newTuple ?_);have hsz:g5.objs.size=s.heap.objs.size:=by rw[x5.1,x4.1,x3.1,x2.1,x1.1]
 have hz5:IsZip g5 z TI TO .ellipsis:=x5.extBut _ _ (Ne.symm D.TOz) (x4.extBut _ _ (Ne.symm iz2) (x3.extBut _ _ (Ne.symm D.TOz) (x2.extBut _ _ (Ne.symm iz1) hz1)));have hk5:∀c o,c≠z->c≠TO->c≠i1->c≠i2->s.heap.get? c=some o->g5.get? c=some o:=fun c o c1 c2 c3 c4 e=>
  x5.extBut _ _ c2 (x4.extBut _ _ c4 (x3.extBut _ _ c2 (x2.extBut _ _ c3 (x1.extBut _ _ c1 e))))
 have zlt:z<g5.objs.size:=MN.lt_size hz5;show MP _ _ (MS.SmallTypes.ownedTupleHandOut (.ref z) (.ref g5.objs.size)>>=_) _ _ _;refine MI ?_;unfold MS.SmallTypes.ownedTupleHandOut;have hz6:IsZip (g5.push {cls:= .type "tuple",data:= .seq #[x,y]}) z TI TO .ellipsis:=MN.get?_push_of_some _ hz5;refine MI (wpAny_setField_rec hz6 (by simp) fun g7 hz7 x7=>?_);replace hz7:IsZip g7 z TI TO (rawInt g5.objs.size):=hz7;refine wpAny_setField_rec hz7 (by simp) fun g8 hz8 x8=>?_;replace hz8:IsZip g8 z TI TO (rawInt g5.objs.size):=hz8;have up:∀c o,c≠z->g5.get? c=some o->g8.get? c=some o:=fun c o c1 e=>x8.extBut _ _ c1 (x7.extBut _ _ c1 (MN.get?_push_of_some _ e));have hT8:IsPair g8 g5.objs.size x y:=x8.extBut _ _ (Nat.ne_of_gt zlt) (x7.extBut _ _ (Nat.ne_of_gt zlt) (MN.get?_push_size _ rfl));have sz8:g8.objs.size=g5.objs.size+1:=by rw[x8.1,x7.1,MN.size_push]
 rw[hsz]at hz8 hT8 sz8;refine MJ ⟨_,rfl,?_⟩;show Q (.ref g5.objs.size) _;rw[hsz];exact hQ x y g8 t4 px py hz8 (up _ _ D.TOz hTO5) ((D1 A rfl).frame _ _ _ h15 fun c hc o e=>up c o (fun q=>D.z1 (q▸hc)) e) ((D2 A rfl).frame _ _ _ h25 fun c hc o e=>up c o (fun q=>D.z2 (q▸hc)) e) hT8 sz8 fun c o c1 c2 c3 c4 e=>up c o c1 (hk5 c o c1 c2 c3 c4 e)
theorem Cp{k:Nat}{a b:MA}{Q:Fin->MC->Prop}(D1:∀A':MF,A'.handled=A.handled->Draws prog w A' i1 f1 n1 P1 S1)(D2:∀A':MF,A'.handled=A.handled->Draws prog w A' i2 f2 n2 P2 S2)(D:sy z TI TO i1 i2 f1 f2)
  (hz:IsZip s.heap z TI TO .none) (hTI:IsPair s.heap TI (.ref i1) (.ref i2)) (hTO:IsPair s.heap TO a b) (h1:S1 k s.heap) (h2:S2 k s.heap) (hk:k=min n1 n2)
  (hE:∀h' e tk,(∀c o,c≠z->c≠TO->c≠i1->c≠i2->s.heap.get? c=some o->h'.get? c=some o)->(∃o,h'.get? e=some o/\o.cls= .type "StopIteration")->E (.ref e) {s with heap:=h',toks:=tk}):
  MP (model prog w) A (MS.«zip.__next__» ⟨[.ref z],[]⟩) Q E s:=by
 have iz1:i1≠z:=fun e=>D.z1 (e▸D.m1);have iz2:i2≠z:=fun e=>D.z2 (e▸D.m2);have io1:i1≠TO:=fun e=>D.O1 (e▸D.m1);have fr1:∀{k b h h'},b∉f1->MN.ExtBut b h h'->S1 k h->S1 k h':=fun hb x st=>(D1 A rfl).frame _ _ _ st fun c hc o e=>x c o (fun q=>hb (q▸hc)) e;have fr2:∀{k b h h'},b∉f2->MN.ExtBut b h h'->S2 k h->S2 k h':=fun hb x st=>(D2 A rfl).frame _ _ _ st fun c hc o e=>x c o (fun q=>hb (q▸hc)) e;show MP _ _ (field (.ref z) 2>>=_) _ _ _;refine MI (wpAny_field hz rfl (x:= .bool false) rfl ?_);show MP _ _ (field (.ref z) 3>>=_) _ _ _;refine MI (wpAny_field hz rfl (x:= .ref TI) rfl ?_);refine MI (wpAny_seqItems hTI rfl ?_);show MP _ _ (MS.SmallTypes.ownedTupleIsFree (.ref z)>>=_) _ _ _;refine MI ?_;unfold MS.SmallTypes.ownedTupleIsFree;refine MI (wpAny_field hz rfl (x:= .none) rfl (MJ ?_));simp only[if_true];refine MI (wpAny_rule ?_);refine MI (wpAny_field hz rfl (x:= .ref TO) rfl ?_);refine MI (wpAny_setField_rec hz (by simp) fun g1 hz1 x1=>?_);replace hz1:IsZip g1 z TI TO .ellipsis:=hz1;have hTO1:IsPair g1 TO a b:=x1.extBut _ _ D.TOz hTO;have h11:=fr1 D.z1 x1.extBut h1;have h21:=fr2 D.z2 x1.extBut h2;refine MI ?_;simp only[List.zipIdx_cons,List.zipIdx_nil,List.forIn_cons,List.forIn_nil];refine MI (MI (wpAny_onRaise ?_));show MP _ _ (MS.SmallTypes.nextOf (.ref i1)>>=_) _ _ _;by_cases c:n1<=n2
 .have e1:k=n1:=by lia
  subst e1;refine MI ((D1 _ rfl).done _ _ _ h11 fun g2 e x2 he=>?_);obtain⟨oe,e1,e2⟩:=he;have hz2:IsZip g2 z TI TO .ellipsis:=x2 _ _ (Ne.symm iz1) hz1;have hez:e≠z:=fun q=>by subst q;rw[hz2]at e1;cases e1;simp at e2
  refine wpAny_setField_rec hz2 (by simp) fun g3 _ x3=>hE g3 e _ (fun c o c1 _ c3 _ q=>x3.extBut _ _ c1 (x2 _ _ c3 (x1.extBut _ _ c1 q))) ⟨oe,x3.extBut _ _ hez e1,e2⟩
 .have e2:k=n2:=by lia
  subst e2;refine MI ((D1 _ rfl).item k _ _ _ (by lia) h11 fun x g2 t2 px h12 x2=>MJ ?_);have hTO2:IsPair g2 TO a b:=x2.extBut _ _ (Ne.symm io1) hTO1;have h22:=fr2 D.i12 x2.extBut h21;refine MI (wpAny_seqItems hTO2 rfl ?_);refine MI (wpAny_updateSeq_pair hTO2 fun g3 hTO3 x3=>?_);refine MI (wpAny_letGo (MJ ?_));have h23:=fr2 D.O2 x3.extBut h22;refine MI (MI (wpAny_onRaise ?_));show MP _ _ (MS.SmallTypes.nextOf (.ref i2)>>=_) _ _ _;refine MI ((D2 _ rfl).done _ _ _ h23 fun g4 e x4 he=>?_);obtain⟨oe,e1,e2⟩:=he;have hz4:IsZip g4 z TI TO .ellipsis:=x4 _ _ (Ne.symm iz2) (x3.extBut _ _ (Ne.symm D.TOz) (x2.extBut _ _ (Ne.symm iz1) hz1));have hez:e≠z:=fun q=>by subst q;rw[hz4]at e1;cases e1;simp at e2
  refine wpAny_setField_rec hz4 (by simp) fun g5 _ x5=>hE g5 e _ (fun c o c1 c2 c3 c4 q=>x5.extBut _ _ c1 (x4 _ _ c4 (x3.extBut _ _ c2 (x2.extBut _ _ c3 (x1.extBut _ _ c1 q))))) ⟨oe,x5.extBut _ _ hez e1,e2⟩
end
structure Src(P:MD)(w:ME)(K:W.Frag)(base it:MB)(xs:List V)(T:Nat->MN->Prop)(G:Hp->Prop):Prop where
 obj:∀i h,T i h->∃o,h.get? it=some o/\∀v,o.data≠.cell v
 keep:∀i h h',T i h->(∀o,h.get? it=some o->h'.get? it=some o)->T i h'
 dr:∀(X:Cx),X.prog=P->X.w=w->X.K=K->∀(pins:List (MB×Obj))(σ:St)(H:Hp)(s:MC),Inv X pins σ H s->G H->∃(f:List MB)(PP:Nat->MA->Prop)(S:Nat->MN->Prop),it∈f/\(∀c∈f,c=it\/@LT.lt Nat _ c base)/\
  (∀i,T i s.heap->S i s.heap)/\(∀i h,S i h->T i h)/\(∀i u,PP i u->∃v,xs[i]?=some v/\RelV v u)/\∀A:MF,A.handled=none->Draws P w A it f xs.length PP S
theorem src_list{P:MD}{w:ME}{K:W.Frag}{base it a:MB}{xs:List V}(h1: @LE.le Nat _ base it)(h2: @LT.lt Nat _ a base):Src P w K base it xs (fun i h=>h.IsListIter it a i) (fun H=>aG K H a xs)where
 obj:=fun i h st=>by
  obtain⟨o,e,_,d⟩:=st;exact⟨o,e,fun v z=>by rw[d]at z;cases z⟩
 keep:=fun i h h' st k=>st.at k
 dr:=by
  intro X hP hw hK pins σ H s I g;subst hP hw hK;obtain⟨its,rv,pl,_⟩:=I.list g;have hne:a≠it:=fun e=>by subst e;exact absurd (Mt h2 h1) (Nat.lt_irrefl _)
  refine⟨[it,a],fun i v=>its.toArray[i]?=some v,fun i h=>h.IsListIter it a i/\h.IsList a its.toArray,by simp,fun c hc=>?_,fun i st=>⟨st,pl.isList⟩,fun i h st=>st.1,fun i u hu=>?_,fun A hh=>?_⟩
  .simp only[Mb,Mn,or_false]at hc
   exact hc.imp id fun e=>by rw[e];exact h2
  .have hu:its[i]?=some u:=by simpa using hu
   have hi:i<xs.length:=by
    have:=rv.length;have:=(List.getElem?_eq_some_iff.mp hu).1;lia
   obtain⟨u',hu',r⟩:=rv.get (LZ hi);rw[hu]at hu';cases hu';exact⟨_,LZ hi,r⟩
  .have D:=Draws.list (prog:=X.prog) (w:=X.w) hh it a hne its.toArray
   rw[show its.toArray.size=xs.length by simp[rv.length]]at D;exact D
theorem Em{P:MD}{w:ME}{K:W.Frag}{base it a:MB}{xs:List V}(h1: @LE.le Nat _ base it)(h2: @LT.lt Nat _ a base):Src P w K base it xs (fun i h=>h.IsTupleIter it a i) (fun H=>dH K H a xs)where
 obj:=fun i h st=>by
  obtain⟨o,e,_,d⟩:=st;exact⟨o,e,fun v z=>by rw[d]at z;cases z⟩
 keep:=fun i h h' st k=>st.at k
 dr:=by
  intro X hP hw hK pins σ H s I g;subst hP hw hK;obtain⟨its,rv,pl,_⟩:=I.tuple g;have hne:a≠it:=fun e=>by subst e;exact absurd (Mt h2 h1) (Nat.lt_irrefl _)
  refine⟨[it,a],fun i v=>its.toArray[i]?=some v,fun i h=>h.IsTupleIter it a i/\h.IsTuple a its.toArray,by simp,fun c hc=>?_,fun i st=>⟨st,pl⟩,fun i h st=>st.1,fun i u hu=>?_,fun A hh=>?_⟩
  .simp only[Mb,Mn,or_false]at hc
   exact hc.imp id fun e=>by rw[e];exact h2
  .have hu:its[i]?=some u:=by simpa using hu
   have hi:i<xs.length:=by
    have:=rv.length;have:=(List.getElem?_eq_some_iff.mp hu).1;lia
   obtain⟨u',hu',r⟩:=rv.get (LZ hi);rw[hu]at hu';cases hu';exact⟨_,LZ hi,r⟩
  .have D:=zT (prog:=X.prog) (w:=X.w) hh its.toArray hne
   rw[show its.toArray.size=xs.length by simp[rv.length]]at D;exact D
def Hh(xs ys:List V)(G1 G2:Hp->Prop):It:=
 ⟨fun i H=>i<min xs.length ys.length/\G1 H/\G2 H,fun i H x H'=>∃t v u,H t=none/\x= .ref t/\xs[i]?=some v/\ys[i]?=some u/\H'=upd H t (.tup [v,u]),fun i H=>i=min xs.length ys.length/\G1 H/\G2 H⟩
theorem El{P:MD}{w:ME}{K:W.Frag}{elts:List Expr}{k:Nat}{pos:Pos}{base z TI TO i1 i2:MB}{xs ys:List V}{T1 T2:Nat->MN->Prop}{G1 G2:Hp->Prop}(s1:Src P w K base i1 xs T1 G1)(s2:Src P w K base i2 ys T2 G2)
  (nd:[z,TI,TO,i1,i2].Nodup) (ge:∀c∈[z,TI,TO,i1,i2],@LE.le Nat _ base c):
  Turn P w K (.Tuple elts k pos) (Hh xs ys G1 G2) [z,TI,TO,i1,i2] z (fun i h=>IsZip h z TI TO .none/\IsPair h TI (.ref i1) (.ref i2)/\(∃x y,IsPair h TO x y)/\T1 i h/\T2 i h)where
 mem:=by simp
 obj:=fun i h st c hc=>by
  obtain⟨hz,hTI,⟨x,y,hTO⟩,h1,h2⟩:=st;simp only[Mb,Mn,or_false]at hc;rcases hc with rfl|rfl|rfl|rfl|rfl
  .exact⟨_,hz,fun v z=>by cases z⟩
  .exact⟨_,hTI,fun v z=>by cases z⟩
  .exact⟨_,hTO,fun v z=>by cases z⟩
  .exact s1.obj _ _ h1
  .exact s2.obj _ _ h2
 keep:=fun i h h' st kk=>by
  obtain⟨hz,hTI,⟨x,y,hTO⟩,h1,h2⟩:=st;exact⟨kk z (by simp) _ hz,kk TI (by simp) _ hTI,⟨x,y,kk TO (by simp) _ hTO⟩,s1.keep _ _ _ h1 fun o q=>kk i1 (by simp) o q,s2.keep _ _ _ h2 fun o q=>kk i2 (by simp) o q⟩
 item:=by
  intro X hP hw hK hc i pins s σ H E I hf st hg;obtain⟨hi,hq1,hq2⟩:=hg;obtain⟨f1,P1,S1,m1,b1,a1,c1,r1,D1⟩:=s1.dr X hP hw hK pins σ H s I hq1;obtain⟨f2,P2,S2,m2,b2,a2,c2,r2,D2⟩:=s2.dr X hP hw hK pins σ H s I hq2;obtain⟨hz,hTI,⟨q1,q2,hTO⟩,h1,h2⟩:=st;simp only[List.nodup_cons,Mb,Mn,or_false,not_or,List.nodup_nil,and_true,not_false_eq_true]at nd;have no1:∀c∈[z,TI,TO,i1,i2],c≠i1->c∉f1:=fun c hc hne hm=>(b1 c hm).elim hne fun l=>absurd (Mt l (ge c hc)) (Nat.lt_irrefl _);have no2:∀c∈[z,TI,TO,i1,i2],c≠i2->c∉f2:=fun c hc hne hm=>(b2 c hm).elim hne fun l=>absurd (Mt l (ge c hc)) (Nat.lt_irrefl _);have ap:sy z TI TO i1 i2 f1 f2:=⟨fun e=>nd.1.1 e.symm,fun e=>nd.1.2.1 e.symm,nd.2.1.1,no1 z (by simp) nd.1.2.2.1,no2 z (by simp) nd.1.2.2.2,no1 TO (by simp) nd.2.2.1.1,no2 TO (by simp) nd.2.2.1.2,m1,m2,no2 i1 (by simp) nd.2.2.2,no1 i2 (by simp) (fun e=>nd.2.2.2 e.symm),nd.2.1.2.1,nd.2.1.2.2⟩;have hhan:X.A.handled=none:=I.ok.hd hc;have hT:s.TypeIs (.ref z) "zip" :=⟨_,hz,rfl⟩;unfold pyNext;subst hP hw;refine MI (wpAny_attempt (wpAny_callSpecial?_slot (name:=LV "__next__") hT F.slot_zip_next (wpAny_call_entry F.slot_zip_next hT F.entry_zip_next (Ai (fun A' e=>D1 A' (e.trans hhan)) (fun A' e=>D2 A' (e.trans hhan)) ap hz hTI hTO (a1 _ h1) (a2 _ h2) (by lia) (by lia) fun x y h' tk px py hz' hTO' h1' h2' hpT hsz hk=>?_) (F.args_zip_next_1 _))));refine MJ ⟨_,rfl,?_⟩;obtain⟨v1,e1,rv1⟩:=r1 _ _ px;obtain⟨v2,e2,rv2⟩:=r2 _ _ py;refine wpAny_letOwnedTupleGo_zip hz' fun h'' hz2 sb=>?_;have lt:∀{c o},s.heap.get? c=some o->c≠s.heap.objs.size:=fun e=>Mu (MN.lt_size e);have iz1:i1≠z:=fun e=>nd.1.2.2.1 e.symm;have iz2:i2≠z:=fun e=>nd.1.2.2.2 e.symm;have kk:∀c o,c∉[z,TI,TO,i1,i2]->s.heap.get? c=some o->h''.get? c=some o:=fun c o hc e=>by
   simp only[Mb,Mn,or_false,not_or]at hc;exact sb.extBut _ _ hc.1 (hk c o hc.1 hc.2.2.1 hc.2.2.2.1 hc.2.2.2.2 e)
  have I1:Inv X pins σ H {s with heap:=h'',toks:=tk}:=I.nX (fp:=[z,TI,TO,i1,i2]) (fun b o hb q=>kk b o hb q) hf;have fT:ik X pins H s.heap.objs.size:=I.pZ (Ms _) (I.bc.fresh (Ms _));have hT'':IsTup h'' s.heap.objs.size #[x,y]:=⟨_,sb.extBut _ _ (fun e=>lt hz e.symm) hpT,rfl,_,rfl⟩;have hTI2:IsPair h'' TI (.ref i1) (.ref i2):=sb.extBut _ _ (fun e=>nd.1.1 e.symm) (hk TI _ (fun e=>nd.1.1 e.symm) nd.2.1.1 nd.2.1.2.1 nd.2.1.2.2 hTI);refine⟨.ref s.heap.objs.size,upd H s.heap.objs.size (.tup [v1,v2]),I1.ze fT ⟨(by show 2<=MG;decide),[x,y],.cons rv1 (.cons rv2 .nil),hT''⟩,rfl,⟨_,v1,v2,fT.1,rfl,e1,e2,rfl⟩,⟨hz2,hTI2,⟨x,y,sb.extBut _ _ (fun e=>nd.1.2.1 e.symm) hTO'⟩,s1.keep _ _ _ (c1 _ _ h1') fun o e=>sb.extBut _ _ iz1 e,s2.keep _ _ _ (c2 _ _ h2') fun o e=>sb.extBut _ _ iz2 e⟩,fun c hc=>?_⟩;have hcT:c≠s.heap.objs.size:=by
   have hcc:=hc;simp only[Mb,Mn,or_false]at hcc;rcases hcc with e|e|e|e|e
   .rw[e];exact lt hz
   .rw[e];exact lt hTI
   .rw[e];exact lt hTO
   .obtain⟨o,q,_⟩:=s1.obj _ _ h1;rw[e];exact lt q
   .obtain⟨o,q,_⟩:=s2.obj _ _ h2;rw[e];exact lt q
  rw[ao hcT];exact(hf c hc).1
 done:=by
  intro X hP hw hK hc i pins s σ H E I hf st hg;obtain⟨hi,hq1,hq2⟩:=hg;obtain⟨f1,P1,S1,m1,b1,a1,c1,r1,D1⟩:=s1.dr X hP hw hK pins σ H s I hq1;obtain⟨f2,P2,S2,m2,b2,a2,c2,r2,D2⟩:=s2.dr X hP hw hK pins σ H s I hq2;obtain⟨hz,hTI,⟨q1,q2,hTO⟩,h1,h2⟩:=st;simp only[List.nodup_cons,Mb,Mn,or_false,not_or,List.nodup_nil,and_true,not_false_eq_true]at nd;have no1:∀c∈[z,TI,TO,i1,i2],c≠i1->c∉f1:=fun c hc hne hm=>(b1 c hm).elim hne fun l=>absurd (Mt l (ge c hc)) (Nat.lt_irrefl _);have no2:∀c∈[z,TI,TO,i1,i2],c≠i2->c∉f2:=fun c hc hne hm=>(b2 c hm).elim hne fun l=>absurd (Mt l (ge c hc)) (Nat.lt_irrefl _);have ap:sy z TI TO i1 i2 f1 f2:=⟨fun e=>nd.1.1 e.symm,fun e=>nd.1.2.1 e.symm,nd.2.1.1,no1 z (by simp) nd.1.2.2.1,no2 z (by simp) nd.1.2.2.2,no1 TO (by simp) nd.2.2.1.1,no2 TO (by simp) nd.2.2.1.2,m1,m2,no2 i1 (by simp) nd.2.2.2,no1 i2 (by simp) (fun e=>nd.2.2.2 e.symm),nd.2.1.2.1,nd.2.1.2.2⟩;have hhan:X.A.handled=none:=I.ok.hd hc;have hT:s.TypeIs (.ref z) "zip" :=⟨_,hz,rfl⟩;unfold pyNext;subst hP hw;refine MI (wpAny_attempt (wpAny_callSpecial?_slot (name:=LV "__next__") hT F.slot_zip_next (wpAny_call_entry F.slot_zip_next hT F.entry_zip_next (Cp (fun A' e=>D1 A' (e.trans hhan)) (fun A' e=>D2 A' (e.trans hhan)) ap hz hTI hTO (a1 _ h1) (a2 _ h2) hi fun h' e tk hk he=>?_) (F.args_zip_next_1 _))));obtain⟨o,ho,hcl⟩:=he;refine MI (wpAny_isInstance (T:= "StopIteration") (b:=true) ⟨o,ho,hcl⟩ isSubtype_stop ?_);exact MJ ⟨rfl,I.nX (fp:=[z,TI,TO,i1,i2]) (fun b o hb q=>by
   simp only[Mb,Mn,or_false,not_or]at hb;exact hk b o hb.1 hb.2.2.1 hb.2.2.2.1 hb.2.2.2.2 q) hf⟩
 self:=fun A i s Q E st hQ=>wpAny_pyIter_zip st.1 hQ
theorem IH(n:Nat):[n+4,n+2,n+3,n,n+1].Nodup:=by
 simp only[List.nodup_cons,Mb,Mn,or_false,not_or,List.nodup_nil,and_true,not_false_eq_true];lia
section
variable{prog:MD}{w:ME}{A:MF}{E:MA->MC->Prop}{s:MC}
theorem sM(l1 l2:MB)(xs ys:Array MA):
  Meets (MS.«zip.__new__» ⟨[.type "zip",.ref l1,.ref l2],[]⟩) (fun _ R s=>s.heap.IsTuple l1 xs/\s.heap.IsList l2 ys/\
   R (.ok (.ret (.ref (s.heap.objs.size+4)))) {s with heap:=((((s.heap.push {cls:= .type "tuple_iterator",data:= .fields #[.ref l1,.int 0 0]}).push {cls:= .type "list_iterator",data:= .fields #[.ref l2,.int 0 0]}).push {cls:= .type "tuple",data:= .seq #[.ref s.heap.objs.size,.ref (s.heap.objs.size+1)]}).push {cls:= .type "tuple",data:= .seq #[.none,.none]}).push {cls:= .type "zip",data:= .fields #[.none,.bool false,.bool false,.ref (s.heap.objs.size+2),.ref (s.heap.objs.size+3)]}}):=
 .of_wp fun prog w A R s h=>by
  obtain⟨hp,g,d,tk,os⟩:=s;obtain⟨hl1,hl2,h⟩:=h;have hsub:=sub_zip;have hL1:MN.IsTuple (MC.heap ⟨hp,g,d,tk,os⟩) l1 xs:=hl1;have hL2:MN.IsList (MC.heap ⟨hp.push {cls:= .type "tuple_iterator",data:= .fields #[.ref l1,.int 0 0]},g,d,tk,os⟩) l2 ys:=MN.IsList.push hl2 _;simp only[MN.size_push]at h
  wp_walk using wpAny_pyIter_tuple hL1,wpAny_pyIter_list hL2
  simp only[MN.size_push,Nat.add_assoc];exact⟨_,rfl,h⟩
end
section
variable{prog:MD}{w:ME}{A:MF}{E:MA->MC->Prop}{s:MC}
theorem uZ{l1 l2:MB}{xs ys:Array MA}{Q:MA->MC->Prop}(hl1:s.heap.IsTuple l1 xs)(hl2:s.heap.IsList l2 ys)
  (h:∀h',IsZip h' (s.heap.objs.size+4) (s.heap.objs.size+2) (s.heap.objs.size+3) .none->IsPair h' (s.heap.objs.size+2) (.ref s.heap.objs.size) (.ref (s.heap.objs.size+1))->
   IsPair h' (s.heap.objs.size+3) .none .none->h'.IsTupleIter s.heap.objs.size l1 0->h'.IsListIter (s.heap.objs.size+1) l2 0->
   (∀c o,s.heap.get? c=some o->h'.get? c=some o)->Q (.ref (s.heap.objs.size+4)) {s with heap:=h'}):
  MP (model prog w) A (call (.type "zip") [.ref l1,.ref l2]) Q E s:=by
 refine callType_new F.called_zip (by decide) (F.typeCall_zip_2 _ _) (F.newCall_zip_2 _ _) (fun obj=>F.args_object_init_3 obj _ _) F.entry_zip_new
  (sM l1 l2 xs ys) ⟨hl1,hl2,?_⟩
 have up:∀(h:MN)(o:Obj) c x,h.get? c=some x->(h.push o).get? c=some x:=fun h o c x e=>MN.get?_push_of_some _ e;have at0:∀(h:MN)(o:Obj)(n:Nat),h.objs.size=n->o.isFreed=false->(h.push o).get? n=some o:=fun h o n e f=>by rw[←e];exact MN.get?_push_size _ f
 generalize hg:((((s.heap.push {cls:= .type "tuple_iterator",data:= .fields #[.ref l1,.int 0 0]}).push {cls:= .type "list_iterator",data:= .fields #[.ref l2,.int 0 0]}).push {cls:= .type "tuple",data:= .seq #[.ref s.heap.objs.size,.ref (s.heap.objs.size+1)]}).push {cls:= .type "tuple",data:= .seq #[.none,.none]}).push {cls:= .type "zip",data:= .fields #[.none,.bool false,.bool false,.ref (s.heap.objs.size+2),.ref (s.heap.objs.size+3)]}=g;have z4:IsZip g (s.heap.objs.size+4) (s.heap.objs.size+2) (s.heap.objs.size+3) .none:=by
  rw[←hg];exact at0 _ _ _ (by simp only[MN.size_push]) rfl
 have z3:IsPair g (s.heap.objs.size+3) .none .none:=by
  rw[←hg];exact up _ _ _ _ (at0 _ _ _ (by simp only[MN.size_push]) rfl)
 have z2:IsPair g (s.heap.objs.size+2) (.ref s.heap.objs.size) (.ref (s.heap.objs.size+1)):=by
  rw[←hg];exact up _ _ _ _ (up _ _ _ _ (at0 _ _ _ (by simp only[MN.size_push]) rfl))
 have z1:g.IsListIter (s.heap.objs.size+1) l2 0:=by
  rw[←hg];exact⟨_,up _ _ _ _ (up _ _ _ _ (up _ _ _ _ (at0 _ _ _ (by simp only[MN.size_push]) rfl))),rfl,rfl⟩
 have z0:g.IsTupleIter s.heap.objs.size l1 0:=by
  rw[←hg];exact⟨_,up _ _ _ _ (up _ _ _ _ (up _ _ _ _ (up _ _ _ _ (at0 _ _ _ rfl rfl)))),rfl,rfl⟩
 have kk:∀c o,s.heap.get? c=some o->g.get? c=some o:=fun c o e=>by
  rw[←hg];exact up _ _ _ _ (up _ _ _ _ (up _ _ _ _ (up _ _ _ _ (up _ _ _ _ e))))
 exact⟨⟨_,z4,rfl⟩,h _ z4 z2 z3 z0 z1 kk⟩
end
def IK(K:W.Frag)(ta:TA):TI:=fun σ H R=>ta σ H fun vs H1=>∃(a b:MB)(xs ys:List V),vs=[.ref a,.ref b]/\dH K H1 a xs/\aG K H1 b ys/\R (Hh xs ys (fun H=>dH K H a xs) (fun H=>aG K H b ys)) H1
theorem yL{X:Cx}{K:W.Frag}{e e2:Expr}{ta:TA}{p pos:Pos}{kk:Nat}{elts:List Expr}{tp:Pos}(hK:X.K=K)(hg:Gl X "zip")(hm:X.mg "zip" =none)(ha:PA X [e,e2] ta)
  (hs:ML [e,e2] X.env=(false,eval e X.env)::ML [e2] X.env:=by rfl) (hpl:(MO pos (ML [e2] X.env)).any (·.1)=false:=by rfl):
  PI X (.Tuple elts kk tp) (.Call (.Name "zip" p) [e,e2] [] pos) (IK K ta):=by
 subst hK;intro pins s σ H R I h;refine Call_ (jv I hg hm (by decide+kernel:bootBuiltins "zip" =some (.type "zip")) (PyProof.Rows.callWith_type1 (aV (ha pos pins s σ H _ I h) fun us s2 ⟨vs,H2,I2,r1,a,b,xs,ys,e1,hq1,hq2,hR⟩=>?_) hs hpl) (by decide+kernel) (by decide+kernel));subst e1;obtain⟨u,u2,rfl,ru,ru2⟩:=vals2 r1;cases ru;cases ru2;obtain⟨its,rv,pl,_⟩:=I2.tuple hq1;obtain⟨jts,rv2,pl2,_⟩:=I2.list hq2;refine uZ (show s2.heap.IsTuple a its.toArray from pl) pl2.isList fun h' z0 t0 o0 i10 i20 k0=>?_;have lta: @LT.lt Nat _ a s2.heap.objs.size:=by obtain⟨o,e,_⟩:=pl;exact MN.lt_size e
 have ltb: @LT.lt Nat _ b s2.heap.objs.size:=by obtain⟨o,n,e,_⟩:=pl2;exact MN.lt_size e
 refine wpAny_pyIter_zip z0 ?_;have le:∀c∈[s2.heap.objs.size+4,s2.heap.objs.size+2,s2.heap.objs.size+3,s2.heap.objs.size,s2.heap.objs.size+1],@LE.le Nat _ s2.heap.objs.size c:=fun c hc=>by
  simp only[Mb,Mn,or_false]at hc;rcases hc with e|e|e|e|e<;>rw[e]
  .exact Nat.le_add_right _ _
  .exact Nat.le_add_right _ _
  .exact Nat.le_add_right _ _
  .exact Ms _
  .exact Nat.le_add_right _ _
 exact⟨s2.heap.objs.size+4,[s2.heap.objs.size+4,s2.heap.objs.size+2,s2.heap.objs.size+3,s2.heap.objs.size,s2.heap.objs.size+1],_,_,H2,rfl,I2.kept (t':=s2.toks) k0,
  El (Em (le _ (by simp)) lta) (src_list (le _ (by simp)) ltb) (IH _) le,⟨z0,t0,⟨_,_,o0⟩,i10,i20⟩,fun c hc=>I2.pZ (le c hc) (I2.bc.fresh (le c hc)),hR⟩
open PySem PySem.Spec PyProof.Rows PySem.SeqAt
inductive lP(pr:Params):List DictEntry->List (Str×MB)->Prop
 |nil:lP pr [] []
 |cons {x:Str} {b:MB} {t:Tok} {es:List DictEntry} {ps:List (Str×MB)}:lP pr es ps->lP pr ({hash:=PyData.keyHash pr x,key:= .str x t,val:= .ref b}::es) ((x,b)::ps)
structure KTab(K:W.Frag)(pr:Params)(a:MB)(ps:List (Str×MB)):Prop where
 sys:(a==sysModules)=false
 nd:(ps.map (·.1)).Nodup
 ex:∃(es:List DictEntry)(ep:Nat),K.lookup a=some {cls:= .type "dict",data:= .dict es.toArray ep}/\lP pr es ps
def EC(ps:List (Str×MB)):List (Key×V):=ps.map fun p=>(Sum.inr p.1,V.ref p.2)
def tabOf(ps:List (Str×MB))(k:Str):Option MB:=(ps.find? fun p=>p.1=k).map (·.2)
theorem tm(ps:List (Str×MB))(k:Str):bV (EC ps) (Sum.inr k:Key)=(tabOf ps k).map V.ref:=by
 unfold EC tabOf bV
 induction ps with
 |nil=>rfl
 |cons p t ih=>
  rw[L9,List.find?_cons,List.find?_cons];by_cases h:p.1=k
  .have:decide ((Sum.inr p.1:Key)=Sum.inr k)=true:=decide_eq_true (by rw[h])
   simp only[this,h,decide_true];rfl
  .have:decide ((Sum.inr p.1:Key)=Sum.inr k)=false:=decide_eq_false fun z=>h (Sum.inr.inj z)
   simp only[this,decide_eq_false h];exact ih
theorem DG(ps:List (Str×MB))(k:Str):(tabOf ps k).isSome=decide (k∈ps.map (·.1)):=by
 unfold tabOf;rw[Option.isSome_map]
 induction ps with
 |nil=>rfl
 |cons p t ih=>
  rw[List.find?_cons];by_cases h:p.1=k
  .simp[h]
  .rw[decide_eq_false h]
   show(t.find? _).isSome=_;rw[ih,L9,Bool.eq_iff_iff,decide_eq_true_eq,decide_eq_true_eq,Mb];exact⟨.inr,fun z=>z.resolve_left fun z=>h z.symm⟩
section
variable{X:Cx}{K:W.Frag}
theorem lP.go {pr:Params}{P:MD}{w:ME}(hp:w.params=pr):∀{es:List DictEntry}{ps:List (Str×MB)},lP pr es ps->∃vs:List (Key×MA),KV (EC ps) vs/\(∀e∈es,∃k,(a6 P w).is k e.key=true/\e.hash=(a6 P w).hash k)/\Pairs (a6 P w) es vs/\vs.map (·.1)=ps.map fun p=>Sum.inr p.1
 |_,_,.nil=>⟨[],.nil,by simp,.nil,rfl⟩
 |_,_,.cons (x:=x) (b:=b) (t:=t) r=>by
  obtain⟨vs,h1,h2,h3,h4⟩:=lP.go (P:=P) hp r;have hi:(a6 P w).is (Sum.inr x) (MA.str x t)=true:=by
   show MA.isStrOf x (MA.str x t)=true;simp[MA.isStrOf]
  refine⟨(Sum.inr x,.ref b)::vs,?_,?_,.cons hi rfl h3,by rw[L9,h4];rfl⟩
  .exact Paired.cons ⟨rfl,rfl⟩ h1
  .intro e he
   rcases List.mem_cons.mp he with rfl|he
   .refine⟨Sum.inr x,hi,?_⟩
    subst hp;rfl
   .exact h2 e he
theorem KTab.dict {pins:List (MB×Obj)}{σ:St}{H:Hp}{s:MC}{a:MB}{ps:List (Str×MB)}(k:KTab X.K X.w.params a ps)(I:Inv X pins σ H s):∃vs:List (Key×MA),KV (EC ps) vs/\s.heap.DictOf (a6 X.prog X.w) a vs:=by
 obtain⟨es,ep,hl,ht⟩:=k.ex;obtain⟨vs,h1,h2,h3,h4⟩:=lP.go (P:=X.prog) (w:=X.w) rfl ht;refine⟨vs,h1,_,es.toArray,ep,I.je a _ hl,⟨rfl,rfl,rfl⟩,rfl,fun e he=>h2 e (by simpa using he),by simpa using h3,?_⟩;rw[h4];have:=k.nd;rw[show(ps.map fun p=>(Sum.inr p.1:Key))=(ps.map (·.1)).map Sum.inr by rw[Md];rfl];exact this.map _ fun x y h e=>h (Sum.inr.inj e)
def Dm(a:MB)(ps:List (Str×MB))(ty td:TE):TE:=fun σ H Q=>ty σ H fun y H1=>td σ H1 fun x H2=>∃k,x= .ref a/\y= .str k/\Q (.bl (!(tabOf ps k).isSome)) H2
theorem z5{i o:Expr}{ty td:TE}{a:MB}{ps:List (Str×MB)}(kt:KTab X.K X.w.params a ps)(hi:PE X i ty)(ho:PE X o td):PC X .NotIn i o (Dm a ps ty td):=by
 intro pins s σ H Q I h;refine aV (hi pins s σ H _ I h) fun iv s1 ⟨y,H1,I1,ry,q1⟩=>aV (ho pins s1 σ H1 _ I1 q1) fun u s2 ⟨x,H2,I2,rx,k,ex,ey,q2⟩=>?_;subst ex;subst ey;obtain rfl:u=MA.ref a:=rx;obtain⟨vs,rel,dd⟩:=kt.dict I2;refine wpAny_notIn_of (hV (k:=Sum.inr k) ry) kt.sys dd.mapOf ?_;rw[←(rel.val (Sum.inr k)).dm,tm,Option.isSome_map];exact⟨.bl _,H2,I2.tok _,rfl,q2⟩
def FY(a:MB)(ps:List (Str×MB))(ty td:TE):TE:=fun σ H Q=>ty σ H fun y H1=>td σ H1 fun x H2=>∃k,x= .ref a/\y= .str k/\Q (.bl (tabOf ps k).isSome) H2
theorem Bg{i o:Expr}{ty td:TE}{a:MB}{ps:List (Str×MB)}(kt:KTab X.K X.w.params a ps)(hi:PE X i ty)(ho:PE X o td):PC X .In i o (FY a ps ty td):=by
 intro pins s σ H Q I h;refine aV (hi pins s σ H _ I h) fun iv s1 ⟨y,H1,I1,ry,q1⟩=>aV (ho pins s1 σ H1 _ I1 q1) fun u s2 ⟨x,H2,I2,rx,k,ex,ey,q2⟩=>?_;subst ex;subst ey;obtain rfl:u=MA.ref a:=rx;obtain⟨vs,rel,dd⟩:=kt.dict I2;refine wpAny_in_of (hV (k:=Sum.inr k) ry) kt.sys dd.mapOf ?_;rw[←(rel.val (Sum.inr k)).dm,tm,Option.isSome_map];exact⟨.bl _,H2,I2.tok _,rfl,q2⟩
def DA(a:MB)(ps:List (Str×MB))(td ty:TE):TE:=fun σ H Q=>td σ H fun x H1=>ty σ H1 fun y H2=>∃k b,x= .ref a/\y= .str k/\tabOf ps k=some b/\Q (.ref b) H2
theorem mh{i o:Expr}{ty td:TE}{a:MB}{pos:Pos}{ps:List (Str×MB)}(kt:KTab X.K X.w.params a ps)(ho:PE X o td)(hi:PE X i ty)(hs:GX i):PE X (.Subscript o i pos) (DA a ps td ty):=by
 intro pins s σ H Q I h;refine zd PySem.F.slot_dict_getitem.lookup hs (aV (ho pins s σ H _ I h) fun u s1 ⟨x,H1,I1,rx,q1⟩=>aV (hi pins s1 σ H1 _ I1 q1) fun iv s2 ⟨y,H2,I2,ry,k,b,ex,ey,g,q2⟩=>?_);subst ex;subst ey;obtain rfl:u=MA.ref a:=rx;obtain⟨vs,rel,dd⟩:=kt.dict I2;obtain⟨w',hw,rw'⟩:=gY.some_of (v:= .ref b) (o:=valueAt vs (Sum.inr k)) (by
  have e:=rel.val (Sum.inr k);rw[tm,g]at e;exact e)
 exact⟨dd.typeIs,wpAny_getItem_of (hV (k:=Sum.inr k) ry) dd.mapOf hw ⟨.ref b,H2,I2.tok _,rw',q2⟩⟩
end
theorem yu:∀{us:List MA}{xs:List Str},StrsAre us xs->Vals (xs.map V.str) us
 |_,_,.nil=> .nil
 |_,_,.cons x t r=> .cons ⟨t,rfl⟩ (yu r)
section
variable{prog:MD}{w:ME}{A:MF}{E:MA->MC->Prop}
theorem uM{S:MC}{T:String}{r d:MB}{n:Nat}{P:Nat->MA->Prop}{OK:MN->Prop}{Q:List MA->MC->Prop}(src:W.KdlSrc prog w T r d n P OK)(hh:A.handled=none)(bc:OK S.heap)(hz:n<=MG)
  (q:∀h' tk(acc:Array MA),(∀b o,S.heap.get? b=some o->h'.get? b=some o)->S.heap.objs.size<=h'.objs.size->ItemsOf P acc n->Q acc.toList {S with heap:=h',toks:=tk}):MP (model prog w) A (collect (.ref r)) Q E S:=by
 have hS:(S.heap.push (seqObj "list" #[] 0)).get? S.heap.objs.size=some (seqObj "list" #[] 0):=MN.get?_push_size _ rfl;have lt:=src.there _ bc;have ok:OK (S.heap.push (seqObj "list" #[] 0)):=src.keep _ _ bc fun b _ o e=>MN.get?_push_of_some _ e;unfold collect;refine MI (wpAny_runValue (codeAny_builtin entry_proto_collect' ?_));refine MI (wpAny_newList (MJ ⟨Code.quiet_builtin _ (by decide+kernel),codeAny_builtin entry_list_iadd' ?_⟩));rw[MF.under_plainId (show plainId "list.__iadd__" =true by decide+kernel) _];refine W.kdl_extend (R:=fun r s'=>match r with
  | .ok (.ret v)=>MP (model prog w) A (match v with
   | .ref a=>(do
    let o←load a
    match o.data with
    | .seq xs _=>pure xs.toList
    |_=>unsupported "internal:collect")
   |_=>unsupported "internal:collect") Q E s'
  | .ok _=>False
  | .error e=>E e s') (s:={S with heap:=S.heap.push (seqObj "list" #[] 0)}) src hh ok S.heap.objs.size (Nat.ne_of_gt lt.1) (Nat.ne_of_gt lt.2) (.ref S.heap.objs.size) 0 hS (fun h' tk acc c k1 k2 hit=>?_) hz
 refine MI (wpAny_load k2 ?_);exact MJ (q h' tk acc (fun b o eb=>k1 b o (Mu (MN.lt_size eb)) (MN.get?_push_of_some _ eb)) (Nat.le_of_lt (MN.lt_size k2)) hit)
theorem sS{β:Type}{S:MC}{us:List MA}{xs:List Str}{Q:β->MC->Prop}{k:MA->Sem β}(h64:us.length<64)(hr:StrsAre us xs)
  (q:∀(out:List MA)(xs':List Str),StrsAre out xs'->xs'.Perm xs->sortedS xs'=true->∀h' n,(∀b o,S.heap.get? b=some o->h'.get? b=some o)->h'.get? S.heap.objs.size=some {cls:= .type "list",data:= .seq out.toArray n}->MP (model prog w) A (k (.ref S.heap.objs.size)) Q E {S with heap:=h'}):
  MP (model prog w) A (newList us>>=fun l=>holding [l] (call (.builtin "list.sort") [l])>>=fun _=>k l) Q E S:=by
 have hL:(S.heap.push (seqObj "list" us.toArray 0)).get? S.heap.objs.size=some (seqObj "list" us.toArray 0):=MN.get?_push_size _ rfl;refine MI (wpAny_newList ?_);refine MI (wpAny_holding (wpAny_call_entry slot_list_sort ⟨_,hL,rfl⟩ entry_list_sort (list_sort_treeK (s:={S with heap:=S.heap.push (seqObj "list" us.toArray 0)}) strKind_oneLt hL hr.keysOf (fun v₁ v₂ rest e=>keyKind_strs (by rw[←e];exact hr)) h64 fun st' hp hs=>⟨_,rfl,?_⟩) (args_list_sort _)));obtain⟨xs',h1,h2,h3⟩:=sorted_out_str hr hp hs;obtain⟨e,he⟩:=sortedHeap_at (vs:=us) (out:=(arrOf st').map (·.2)) (n:=0) hL;refine q ((arrOf st').map (·.2)).toList xs' h1 h2 h3 _ e (fun b o hb=>?_) (by rw[Array.toArray_toList];exact he);have hlt:=MN.lt_size hb;rw[sortedHeap_old (Mu hlt) (by rw[size_push'];exact Nat.lt_succ_of_lt hlt)];exact MN.get?_push_of_some _ hb
end
section
variable{X:Cx}{K:W.Frag}
def FV:List V->Hp->VK->Prop:=fun xs H Q=>∃(a:MB)(kvs:List (Key×V))(ks:List Str),xs=[.ref a]/\H a=some (.dK kvs)/\kvs.map (·.1)=ks.map Sum.inr/\kvs.length<64/\∀(l:MB)(ks':List Str),H l=none->ks'.Perm ks->sortedS ks'=true->Q (.ref l) (upd H l (.lst (ks'.map V.str)))
theorem kS(hc:X.calm=true):bX X (.builtin "sorted") FV:=by
 intro pins s σ H xs us Q I r h;obtain⟨a,kvs,ks,rfl,ha,hk,hz,q⟩:=h;obtain⟨u,rfl,ru⟩:=vals1 r;cases ru;obtain⟨z,hd,vs,rel,dd⟩:=uF I.bc ha;have len:=rel.length;have big:(10000000:Nat)<=MG:=by decide
 obtain⟨ep,hat⟩:=dd.dictAt;have ek:vs.map (·.1)=ks.map Sum.inr:=by rw[←hk];exact rel.keys.symm
 refine Calls.call_function_entry kind_sorted plain_sorted entry_sorted (args_sorted1 _) ?_;unfold MS.«sorted»;refine MI (m:=checkCount "sorted" 1 1 _) (MJ ?_);refine MI (uM (A:=X.A.in1) (W.kdl_dict (prog:=X.prog) (w:=X.w) (knd:=a6 X.prog X.w) (d:=a) (kvs:=vs) (ep:=ep) hd) (I.ok.hd hc) hat (by lia) fun h' tk acc k1 le it=>?_);have sa:StrsAre acc.toList ks:=by
  have hl:acc.toList.length=ks.length:=by
   have e1:=congrArg List.length ek;simp only[LW]at e1;rw[Array.length_toList,it.1,e1]
  have hj:∀(j:Nat)(v:MA),acc.toList[j]?=some v->∃(k:Str)(t:Tok),ks[j]?=some k/\v= .str k t:=fun j v hv=>by
   obtain⟨k,x,e1,e2⟩:=it.2 j v (by rw[←Array.getElem?_toList];exact hv);have e3:(vs.map (·.1))[j]?=some k:=by rw[LX,e1];rfl
   rw[ek,LX]at e3
   cases e4:ks[j]? with
   |none=>rw[e4]at e3;cases e3
   |some y=>
    rw[e4]at e3;cases e3;rcases bN (show ot (Sum.inr y) v=true from e2)with⟨i,t,e5,e6⟩|⟨y',t,e5,e6⟩
    .exact nomatch e5
    .cases e5
     exact⟨_,t,rfl,e6⟩
  clear q hk ek ha it;revert hl hj;generalize acc.toList=l;intro hl hj
  induction l generalizing ks with
  |nil=>cases ks with
   |nil=>exact .nil
   |cons _ _=>cases hl
  |cons v l ih=>cases ks with
   |nil=>cases hl
   |cons k ks=>
    obtain⟨k',t,e1,e2⟩:=hj 0 v rfl;cases e1;subst e2;exact .cons k t (ih ks (by simpa using hl) fun j v hv=>hj (j+1) v hv)
 refine sS (S:={s with heap:=h',toks:=tk}) (by rw[Array.length_toList,it.1];lia) sa fun out ks' h1 h2 h3 h4 n k2 k3=>?_;refine MJ ⟨_,rfl,?_⟩;have pl:=h2.length_eq;have e1:=congrArg List.length hk;simp only[LW]at e1;exact⟨.ref _,_,I.laid (o:= .lst (ks'.map V.str)) (t':=tk) (fun b ob e=>k2 _ _ (k1 _ _ e)) le ⟨by rw[LW];lia,out,n,yu h1,k3⟩,rfl,q _ ks' (I.bc.fresh le) h2 h3⟩
end
def mem(s:MQ)(j:Nat):MQ:=match s with
 | .ClassDef _ _ _ body .. =>body.getD j (.Pass ⟨0,0,0,0⟩)
 |_=> .Pass ⟨0,0,0,0⟩
structure MethAt(P:MD)(w:ME)(K:W.Frag)(mg:Str->Option MA)(base:MN)(CX:pY)(C:MB)(m:Str)(k:Nat)(ps:List Str)(sp:Sp):Prop where
 cls:zZ K C
 ex:∃(f:MB)(fd:MM),Meth K C m f/\aS P w K mg base CX k f fd ps sp/\Binds K fd ps []
structure wH(P:MD)(w:ME)(K:W.Frag)(mg:Str->Option MA)(base:MN)(C:MB)(x:Str)(k:Nat)(ps:List Str)(sp:Sp):Prop where
 at_:mg x=some (.ref C)
 ex:∃(f:MB)(fd:MM),Mk K C f/\aS P w K mg base fQ k f fd ps sp/\Binds K fd ps []
section
variable{X:Cx}{K:W.Frag}{x m f:Str}{k:Nat}{C:MB}{ps:List Str}{sp:Sp}{e o value:Expr}{es:List Expr}{t:TA}{ta tv:TE}{p pos apos pos':Pos}
theorem iL(hK:X.K=K)(he:PE X e ta)(hb:attributeBase e f X.env (eval e X.env)=eval e X.env:=by rfl):PE X (.Attribute e f pos) (Ik K ta f):=by
 subst hK;exact G7 he hb
theorem yt(hK:X.K=K)(ha:PE X o ta)(hv:PE X value tv)(hs:swapsWith value (some (.Attribute o f pos')) pos.line X.env=pure false:=by rfl):PS X (.Assign [.Attribute o f pos'] value pos) (JD K ta tv f):=by
 subst hK;exact HB ha hv hs
theorem zY{E:XK}{pl:Sem Bool}(F:MethAt X.prog X.w X.K X.mg X.base (lW X.prog X.w) C m k ps sp)(hx:Passes (lW X.prog X.w) X E)(hr:cQ k X.A)(he:PE X o ta)(ha:PA X (e::es) t)
  (hst:ML (e::es) X.env=(false,eval e X.env)::ML es X.env:=by rfl) (hpl:(MO pos (ML es X.env)).any (·.1)=false:=by rfl)
  (ht:eval (.Call (.Attribute o m apos) (e::es) [] pos) X.env=(do
   let ov←eval o X.env
   standAt apos.atName
   let(f,first)←holding [ov] (getMethod ov m pl)
   callWith pos f first (MO pos (ML (e::es) X.env)) (backToKw pos (keywordEach [] X.env))):=by rfl):
  PE X (.Call (.Attribute o m apos) (e::es) [] pos) (Fx C m sp [] E ta t):=by
 obtain⟨f,fd,hm,F',hb⟩:=F.ex;exact C8 he F.cls hm F' hr hb .nil hx ha hst hpl ht
def GQ(C:MB)(m:Str)(sp:Sp)(Es:St->XK)(ta:TE)(t:TA):TE:=fun σ H Q=>ta σ H fun x H1=>∃a dx fs,x= .ref a/\H1 a=some (.ins C dx fs)/\fs.lookup m=none/\t σ H1 fun vs H2=>sp (x::vs) H2 Q (Es σ)
theorem Ad{pins:List (MB×Obj)}{Es:St->XK}{pl:Sem Bool}(F:MethAt X.prog X.w X.K X.mg X.base (lW X.prog X.w) C m k ps sp)(hr:cQ k X.A)(he:PE (Xt X pins Es) o ta)(ha:PA (Xt X pins Es) (e::es) t)
  (hst:ML (e::es) X.env=(false,eval e X.env)::ML es X.env:=by rfl) (hpl:(MO pos (ML es X.env)).any (·.1)=false:=by rfl)
  (ht:eval (.Call (.Attribute o m apos) (e::es) [] pos) X.env=(do
   let ov←eval o X.env
   standAt apos.atName
   let(f,first)←holding [ov] (getMethod ov m pl)
   callWith pos f first (MO pos (ML (e::es) X.env)) (backToKw pos (keywordEach [] X.env))):=by rfl):
  PE (Xt X pins Es) (.Call (.Attribute o m apos) (e::es) [] pos) (GQ C m sp Es ta t):=by
 obtain⟨g,fd,hm,F',hb⟩:=F.ex;have c:=F.cls;intro pins' s σ H Q I h;refine W.methodCall_KW (pl:=pl) (aV (he pins' s σ H _ I h) fun u s1 ⟨y,H1,I1,rx,a,dx,fs,ex,ea,l,q⟩=>?_) ht;subst ex;obtain rfl:u=MA.ref a:=rx;refine ku I1 ea c hm l ?_;refine W.callWith_K (first:=[.ref a]) (h₀:=X.base) I.ok.mod.CU hm.kp (aV (ha pos pins' s1 σ H1 _ I1 q) fun us s2 ⟨vs,H2,I2,r,q2⟩=>⟨I2.je,?_⟩) hst hpl;have r2:Vals (V.ref a::vs) (MA.ref a::us):= .cons rfl r;have hl:(MA.ref a::us).length=ps.length:=by rw[←r2.length];exact F'.len _ _ _ _ q2
 have bb:=hb s2 (MA.ref a::us) I2.je (by rw[Mo];exact hl);rw[Mo]at bb;refine wpAny_call (codeAny_mono (F'.run X.A X.stack s2 H2 ⟨MA.ref a::us,[]⟩ (MA.ref a::us) (V.ref a::vs) Q (Es σ) hr I2.qf bb r2 q2) fun r s' hq=>?_)
 cases r with
 |error ev=>exact⟨σ,H2,s2,I2.ofT,hq⟩
 |ok fl=>
  cases fl with
  |ret u=>exact I2.after hq
  |next=>exact False.elim hq
  |brk=>exact False.elim hq
  |cont=>exact False.elim hq
def Ee(i:Nat)(Fam:MB->Sp->Prop)(E:XK)(t:TA):TE:=fun σ H Q=>∃f sp,σ[i]?=some (some (.ref f))/\Fam f sp/\t σ H fun vs H1=>sp vs H1 Q E
theorem AX(F:wH X.prog X.w X.K X.mg X.base C x k ps sp)(hr:cQ (k+1) X.A)(hg:Gl X x)(ha:PA X (e::es) t)(hdb:(x==("__debug__" :Str))=false:=by decide+kernel)(he:ML (e::es) X.env=(false,eval e X.env)::ML es X.env:=by rfl)(hpl:(MO pos (ML es X.env)).any (·.1)=false:=by rfl):
  PE X (.Call (.Name x p) (e::es) [] pos) (Ft C sp [] E0 t):=by
 obtain⟨g,fd,M,F',hb⟩:=F.ex;exact CZ M F' hr hg F.at_ hb .nil Fu ha hdb he hpl
end
end L2
namespace Sw
open PySem L2
def dY(H:Hp)(v:V)(R:List (Int×Int)):Prop:=∃(l:MB)(es:List V),v= .ref l/\H l=some (.lst es)/\cP H es R
theorem dY.same {H H':Hp}{v:V}{R:List (Int×Int)}(h:dY H v R)(s:ah H H'):dY H' v R:=by
 obtain⟨l,es,e,h1,h2⟩:=h;exact⟨l,es,e,s _ _ h1,h2.keep fun b xs e=>s _ _ e⟩
abbrev Kept:=List (Str×List (Int×Int))
def rowOf(m:Kept)(x:Str):Option (List (Int×Int)):=(m.find? fun p=>p.1=x).map (·.2)
def bj(H:Hp)(kvs:List (Key×V))(m:Kept):Prop:=Paired (fun(p:Key×V)(q:Str×List (Int×Int))=>p.1=Sum.inr q.1/\dY H p.2 q.2) kvs m
theorem bj.same {H H':Hp}{kvs:List (Key×V)}{m:Kept}(h:bj H kvs m)(s:ah H H'):bj H' kvs m:=Paired.wG h fun _ _ z=>⟨z.1,z.2.same s⟩
theorem bj.get {H:Hp}:∀{kvs:List (Key×V)}{m:Kept},bj H kvs m->∀x:Str,(rowOf m x=none/\bV kvs (Sum.inr x:Key)=none)\/∃R v,rowOf m x=some R/\bV kvs (Sum.inr x:Key)=some v/\dY H v R
 |_,_,.nil,x=> .inl ⟨rfl,rfl⟩
 |_,_,.cons (a:=p) (b:=q) (l₁:=kvs) (l₂:=m) h r,x=>by
  by_cases c:q.1=x
  .refine .inr ⟨q.2,p.2,?_,?_,h.2⟩
   .unfold rowOf
    rw[List.find?_cons_of_pos (by simpa using c)];rfl
   .unfold bV
    rw[List.find?_cons_of_pos (by rw[h.1,c];simp)];rfl
  .have e1:rowOf (q::m) x=rowOf m x:=by
    unfold rowOf;rw[List.find?_cons_of_neg (by simpa using c)]
   have e2:bV (p::kvs) (Sum.inr x:Key)=bV kvs (Sum.inr x:Key):=by
    unfold bV;rw[List.find?_cons_of_neg (by rw[h.1];simpa using c)]
   rw[e1,e2];exact bj.get r x
theorem bj.keys {H:Hp}:∀{kvs:List (Key×V)}{m:Kept},bj H kvs m->kvs.map (·.1)=(m.map (·.1)).map Sum.inr
 |_,_,.nil=>rfl
 |_,_,.cons h r=>by rw[L9,L9,L9,h.1,bj.keys r]
structure I0(fs:List (Str×V))(n:Int)(d:MB):Prop where
 len:fs.length<=10
 n_:fs.lookup ("n" :Str)=some (V.int n)
 kept:fs.lookup ("kept" :Str)=some (V.ref d)
 GC:fs.lookup ("row_of" :Str)=none
 say:fs.lookup ("say" :Str)=none
def cX(C:MB)(H:Hp)(a d:MB)(n:Int)(m:Kept):Prop:=∃(dx:MB)(fs:List (Str×V))(kvs:List (Key×V)),H a=some (HO.ins C dx fs)/\I0 fs n d/\H d=some (.dK kvs)/\d≠a/\bj H kvs m/\m.length<=1000
structure yw(K:W.Frag)(C:MB):Prop where
 cls:zZ K C
 Hk:gO K C "n"
 iC:gO K C "kept"
def yN(C CN:MB):Sp:=fun vs H Q E=>∃(a d:MB)(x:Str)(n:Int)(m:Kept),vs=[.ref a,.str x]/\cX C H a d n m/\(rowOf m x=none->E (.ref CN) none H)/\∀R v,rowOf m x=some R->dY H v R->Q v H
structure K5(mg:Str->Option MA)(K:W.Frag)(C CN:MB):Prop extends yw K C where
 jd:mg "NoName" =some (.ref CN)
 vt:oH K CN
section
variable{P:MD}{w:ME}{K:W.Frag}{mg:Str->Option MA}{base:MN}{C CN:MB}
theorem oQ:aF ["self","name"] ["self","name"] (au (mem (top 114) 1)):=⟨rfl,rfl,rfl,by decide+kernel,rfl,by decide+kernel,by decide+kernel⟩
theorem Bl{f:MB}{fd:MM}(F:dJ K "row_of" "Desk.row_of" (mem (top 114) 1) f fd)(T:K5 mg K C CN):aS P w K mg base (lW P w) 1 f fd ["self","name"] (yN C CN):=by
 refine F.HY oQ (fun vs H Q E h=>?_) (fun cdv A outer s H vs Q E hr h=>?_)
 .obtain⟨a,d,x,n,m,rfl,_⟩:=h
  rfl
 .obtain⟨a,d,x,n,m,rfl,hd,kN,kY⟩:=h
  have hu:=iY hr;refine⟨_,(ag (aQ (kD (rA hu (pv 1) (iL (K:=K) rfl (pv 0)))) (aj (gB wX T.vt rfl rfl T.jd (aa az af))) aB)
   (aj (aA (dS hu (iL (K:=K) rfl (pv 0)) (pv 1) (fun _ _=>rfl))))),?_⟩
  obtain⟨dx,fs,kvs,ha,hf,hkd,_,km,_⟩:=hd;have one:1<=MG:=by decide
  rcases km.get x with⟨e1,e2⟩|⟨R,v,e1,e2,e3⟩
  .have g:cK H d (kV (.inr x)) none:=by rw[←e2];exact cK.k hkd
   exact⟨_,rfl,_,rfl,a,C,dx,fs,_,rfl,ha,T.cls,T.iC,hf.kept,d,none,rfl,g,_,rfl,by
    simp only[Option.isSome_none,Bool.not_false,if_true];exact⟨one,kN e1⟩⟩
  .have g:cK H d (kV (.inr x)) (some v):=by rw[←e2];exact cK.k hkd
   exact⟨_,rfl,_,rfl,a,C,dx,fs,_,rfl,ha,T.cls,T.iC,hf.kept,d,some v,rfl,g,_,rfl,by
    dsimp only[Option.isSome_some,Bool.not_true];rw[if_neg (by decide)];exact⟨_,rfl,a,C,dx,fs,_,rfl,ha,T.cls,T.iC,hf.kept,_,rfl,d,v,rfl,g,kY R v e1 e3⟩⟩
theorem mE:aF ["self","n"] ["self","n"] (au (mem (top 114) 0)):=⟨rfl,rfl,rfl,by decide+kernel,rfl,by decide+kernel,by decide+kernel⟩
def BE(C:MB):Sp:=fun vs H Q _=>∃(a dx:MB)(n:Int),vs=[.ref a,.int n]/\H a=some (HO.ins C dx [])/\H dx=some (.own a)/\dx≠a/\∀d H',H d=none->d≠a->cX C H' a d n []->(∀b o,b≠a->H b=some o->H' b=some o)->Q .cE H'
theorem Ez{f:MB}{fd:MM}(F:dJ K "__init__" "Desk.__init__" (mem (top 114) 0) f fd)(T:yw K C):aS P w K mg base fQ 1 f fd ["self","n"] (BE C):=by
 refine F.ok mE (fun vs H Q E h=>?_) (fun cdv A outer s H vs Q E hr h=>?_)
 .obtain⟨a,dx,n,rfl,_⟩:=h
  rfl
 .obtain⟨a,dx,n,rfl,ha,hdx,ne,k⟩:=h
  have hu:=iY hr;refine⟨_,(ag (yt (K:=K) rfl (pv 0) (pv 1))
   (aj (yt (K:=K) rfl (pv 0) og))),?_⟩
  refine⟨_,rfl,_,rfl,a,C,dx,[],rfl,ha,T.cls,T.Hk,(by decide:(0:Nat)<1000),fun d fd=>?_⟩;have da:d≠a:=fun e=>by rw[e,ae]at fd;cases fd
  rw[ao da]at fd;have e1:upd (upd H a (HO.ins C dx (i7 (LV "n") (V.int n) []))) d (HO.dK []) a=some (HO.ins C dx (i7 (LV "n") (V.int n) [])):=by rw[ao (Ne.symm da),ae]
  refine⟨_,rfl,a,C,dx,_,rfl,e1,T.cls,T.iC,(by decide:(1:Nat)<1000),?_⟩;refine k d _ fd da ⟨dx,_,[],ae,⟨(by decide:(2:Nat)<=10),rfl,rfl,rfl,rfl⟩,by rw[ao da,ae],da,.nil,Mw _⟩ fun b o hb e=>?_;have bd:b≠d:=fun z=>by rw[z,fd]at e;cases e
  rw[ao hb,ao bd,ao hb];exact e
end
end Sw
namespace L2
open PySem PySem.Spec PyProof.Rows
section
variable{M:Model}{A:MF}{α:Type}{t:Sem α}{Q:α->MC->Prop}{E:MA->MC->Prop}{s:MC}
theorem iX(hn:0<s.toks)(h:MP M A t Q E s):MP M A t (fun a s'=>0<s'.toks/\Q a s') E s:=MK (wpAny_toks_of (n:=1) hn h) (fun _ _ x=>x) fun _ _ x=>x.2
end
def QE(X:Cx)(e:Expr)(t:TE):Prop:=
 ∀(pins:List (MB×Obj))(s:MC)(σ:St)(H:Hp)(Q:VK),0<s.toks->Inv X pins σ H s->t σ H Q->MP (model X.prog X.w) X.A (eval e X.env) (EP X pins σ Q) X.xe s
def QA(X:Cx)(es:List Expr)(t:TA):Prop:=
 ∀(pos:Pos)(pins:List (MB×Obj))(s:MC)(σ:St)(H:Hp)(Q:List V->Hp->Prop),0<s.toks->Inv X pins σ H s->t σ H Q->MP (model X.prog X.w) X.A (spliced (MO pos (ML es X.env))) (AP X pins σ Q) X.xe s
def QS(X:Cx)(st:MQ)(t:TS):Prop:=
 ∀(pins:List (MB×Obj))(s:MC)(σ:St)(H:Hp)(D:Ends),0<s.toks->Inv X pins σ H s->t D σ H->MP (model X.prog X.w) X.A (exec st X.env) (SP X pins D) X.xe s
def wt(X:Cx)(st:List MQ)(t:TS):Prop:=
 ∀(pins:List (MB×Obj))(s:MC)(σ:St)(H:Hp)(D:Ends),0<s.toks->Inv X pins σ H s->t D σ H->MP (model X.prog X.w) X.A (execs st X.env) (SP X pins D) X.xe s
def LE(X:Cx)(e:Expr)(t:TE):Prop:=
 ∀(pins:List (MB×Obj))(s:MC)(σ:St)(H:Hp)(Q:VK),Inv X pins σ H s->t σ H Q->MP (model X.prog X.w) X.A (eval e X.env) (fun u s'=>0<s'.toks/\EP X pins σ Q u s') X.xe s
def LT(X:Cx)(e:Expr)(t:TT):Prop:=
 ∀(pins:List (MB×Obj))(s:MC)(σ:St)(H:Hp)(Q:Bool->Hp->Prop),Inv X pins σ H s->t σ H Q->MP (model X.prog X.w) X.A (isTrue e X.env (eval e X.env)) (fun b s'=>0<s'.toks/\TP X pins σ Q b s') X.xe s
def LS(X:Cx)(st:MQ)(t:TS):Prop:=
 ∀(pins:List (MB×Obj))(s:MC)(σ:St)(H:Hp)(D:Ends),Inv X pins σ H s->t D σ H->MP (model X.prog X.w) X.A (exec st X.env) (fun f s'=>0<s'.toks/\SP X pins D f s') X.xe s
section
variable{X:Cx}{e a b:Expr}{es:List Expr}{st:MQ}{rest:List MQ}{te ta tb:TE}{tx:TA}{t u:TS}{pos:Pos}
theorem QE.of (h:PE X e te):QE X e te:=fun pins s σ H Q _ I q=>h pins s σ H Q I q
theorem QA.of (h:PA X es tx):QA X es tx:=fun pos pins s σ H Q _ I q=>h pos pins s σ H Q I q
theorem QS.of (h:PS X st t):QS X st t:=fun pins s σ H D _ I q=>h pins s σ H D I q
theorem wt.of (h:pX X rest t):wt X rest t:=fun pins s σ H D _ I q=>h pins s σ H D I q
theorem le_str{x j}:LE X (.Constant (.str x) j pos) (tC (.str x)):=fun _ s _ H _ I h=>Calls.Constant_str ⟨Nat.succ_pos _,.str x,H,I.tok _,⟨_,rfl⟩,h⟩
theorem le_int{i j}:LE X (.Constant (.int i) j pos) (tC (.int i)):=fun _ s _ H _ I h=>wpAny_Constant_int ⟨Nat.succ_pos _,.int i,H,I.tok _,⟨_,rfl⟩,h⟩
theorem IW{r:R2}(hr:Hz X r)(ha:PE X a ta)(hb:LE X b tb)(hs:y4 b):LE X (.Subscript a b pos) (E8 r ta tb):=by
 intro pins s σ H Q I h;refine Subscript_ ?_;refine aV (ha pins s σ H _ I h) fun v s1 ⟨x,H1,I1,r1,q1⟩=>?_;refine aV (hb pins s1 σ H1 _ I1 q1) fun u s2 ⟨tk,y,H2,I2,r2,q2⟩=>?_;exact iX tk (hr a b pins s2 σ H2 x y v u Q I2 r1 r2 q2 (hs _ _))
theorem DQ{op:CmpOp}{r:R2}(ho:j0 X (compareOp op) r)(ha:PE X a ta)(hb:LE X b tb)(hm:behindInMarks op b=false):LT X (.Compare a [op] [b] pos) (Az (E8 r ta tb)):=by
 intro pins s σ H Q I h;refine wpAny_isTrue_Compare1 (aV (ha pins s σ H _ I h) fun v s1 ⟨x,H1,I1,r1,q1⟩=>aV (hb pins s1 σ H1 _ I1 q1) fun u s2 ⟨tk,y,H2,I2,r2,q2⟩=>
  aV (iX tk (ho pins s2 σ H2 x y v u _ I2 r1 r2 q2)) fun c s3 ⟨tk3,z,H3,I3,r3,k,e,q3⟩=>?_) hm
 subst e;cases r3;exact wpAny_truthy_bool ⟨tk3,H3,I3,q3⟩
theorem Jx{c:Expr}{x y:List MQ}{tc:TT}(hc:LT X c tc)(ha:pX X x t)(hb:pX X y u):LS X (.If c x y pos) (vb tc t u):=by
 intro pins s σ H D I h;refine wpAny_If (aV (hc pins s σ H _ I h) fun d s1 ⟨tk,H1,I1,q1⟩=>?_)
 cases d with
 |true=>exact iX tk (ha pins s1 σ H1 D I1 q1)
 |false=>exact iX tk (hb pins s1 σ H1 D I1 q1)
theorem F0{i:Nat}{x:Str}{pos':Pos}(hN:X.N.Nodup)(hi:X.N[i]?=some x)(hx:Loc X.env.scope x)(he:LE X e te)(hs:swapsWith e (some (.Name x pos')) pos.line X.env=pure false:=by rfl)(hf:X.fn x=true\/X.env.scope.names.lookup x=some .local:=by first|exact .inl rfl|exact .inr rfl|assumption):
  LS X (.Assign [.Name x pos'] e pos) (uQ te (cu i)):=by
 intro pins s σ H D I h;refine wpAny_Assign_Name (aV (he pins s σ H _ I h) fun v s1 ⟨tk,y,H1,I1,r1,q1⟩=>?_) hs;exact iX tk (gv I1 hN hi hx r1 (fun s2 I2=>⟨_,H1,I2,q1⟩) hf)
theorem rD(h1:LS X st t)(h2:wt X rest u):pX X (st::rest) (Bd t u):=by
 intro pins s σ H D I h;refine wpAny_execs_cons (aV (h1 pins s σ H {D with nx:=u D} I h) fun f s1 ⟨tk,q⟩=>?_)
 cases f with
 |next=>
  obtain⟨σ',H',I',q⟩:=q;exact h2 pins s1 σ' H' D tk I' q
 |ret v=>exact q
 |brk=>exact q
 |cont=>exact q
theorem dO(h1:QS X st t)(h2:wt X rest u):wt X (st::rest) (Bd t u):=by
 intro pins s σ H D tk I h;refine wpAny_execs_cons (aV (iX tk (h1 pins s σ H {D with nx:=u D} tk I h)) fun f s1 ⟨tk1,q⟩=>?_)
 cases f with
 |next=>
  obtain⟨σ',H',I',q⟩:=q;exact h2 pins s1 σ' H' D tk1 I' q
 |ret v=>exact q
 |brk=>exact q
 |cont=>exact q
theorem nJ(h1:QS X st t):wt X [st] t:=by
 intro pins s σ H D tk I h;refine wpAny_execs_cons (aV (h1 pins s σ H D tk I h) fun f s1 q=>?_)
 cases f with
 |next=>exact wpAny_execs_nil q
 |ret v=>exact q
 |brk=>exact q
 |cont=>exact q
theorem tF(he:QE X e te):QS X (.Return (some e) pos) (Ds te):=by
 intro pins s σ H D tk I h;exact wpAny_Return_some (aV (he pins s σ H _ tk I h) fun v s1 ⟨x,H1,I1,r1,q1⟩=>⟨x,σ,H1,I1,r1,q1⟩)
theorem BQ{c:Expr}{x y:List MQ}{tc:TT}(hc:PT X c tc)(ha:wt X x t)(hb:wt X y u):QS X (.If c x y pos) (vb tc t u):=by
 intro pins s σ H D tk I h;refine wpAny_If (aV (iX tk (hc pins s σ H _ I h)) fun d s1 ⟨tk1,H1,I1,q1⟩=>?_)
 cases d with
 |true=>exact ha pins s1 σ H1 D tk1 I1 q1
 |false=>exact hb pins s1 σ H1 D tk1 I1 q1
theorem F6{i:Nat}{x:Str}{pos':Pos}(hN:X.N.Nodup)(hi:X.N[i]?=some x)(hx:Loc X.env.scope x)(he:QE X e te)(hs:swapsWith e (some (.Name x pos')) pos.line X.env=pure false:=by rfl)(hf:X.fn x=true\/X.env.scope.names.lookup x=some .local:=by first|exact .inl rfl|exact .inr rfl|assumption):
  QS X (.Assign [.Name x pos'] e pos) (uQ te (cu i)):=by
 intro pins s σ H D tk I h;refine wpAny_Assign_Name (aV (he pins s σ H _ tk I h) fun v s1 ⟨y,H1,I1,r1,q1⟩=>?_) hs;exact gv I1 hN hi hx r1 (fun s2 I2=>⟨_,H1,I2,q1⟩) hf
theorem xU:QA X [] AM:=QA.of af
theorem nM(ha:QE X e te)(hr:QA X es tx)(hs:ML (e::es) X.env=(false,eval e X.env)::ML es X.env:=by rfl):QA X (e::es) (qU te tx):=by
 intro pos pins s σ H Q tk I h;rw[hs];show MP _ _ (spliced ((false,eval e X.env)::MO pos (ML es X.env))) _ _ s;refine Calls.spliced_cons (aV (iX tk (ha pins s σ H _ tk I h)) fun u s1 ⟨tk1,x,H1,I1,r1,q1⟩=>?_);exact aV (hr pos pins s1 σ H1 _ tk1 I1 q1) fun us s2 ⟨xs,H2,I2,r2,q2⟩=>⟨x::xs,H2,I2,.cons r1 r2,q2⟩
def JB(y z:Str)(to:TE):TE:=fun σ H Q=>to σ H fun x H1=>∃t,x= .str t/\t.length<=100000/\Q (.str (Txt.replace t y z)) H1
theorem tP{o:Expr}{y z:Str}{to:TE}{ky kz:Nat}{py pz apos cpos:Pos}(hyz:(y==z)=false)(hz:z.length<=100)(ho:QE X o to)(m:M2 X o "replace" apos (.Constant (.str y) ky py) (.Constant (.str z) kz pz) cpos):
  QE X (.Call (.Attribute o "replace" apos) [.Constant (.str y) ky py,.Constant (.str z) kz pz] [] cpos) (JB y z to):=by
 intro pins s σ H Q tk I h;refine wpAny_Call_method m.base m.Jp m.line PySem.F.plainAttrs_str PySem.F.slot_str_replace PySem.F.type_str_replace (aV (iX tk (ho pins s σ H _ tk I h)) fun u s1 ⟨tk1,x,H1,I1,rx,t,ex,tl,q1⟩=>?_);subst ex;obtain⟨t0,rfl⟩:=rx;refine⟨typeIs_str _ _ _,by simp,?_⟩;rw[m.trees];refine Calls.callWith_builtin rfl (Calls.evalArgs_plain (Calls.spliced_cons (Calls.Constant_str (Calls.spliced_cons (Calls.Constant_str (Calls.spliced_nil ?_))))));refine SC.replace (Nat.ne_of_gt tk1) (by exact Nat.succ_ne_zero _) (by exact(Nat.succ_ne_self _).symm) hyz ?_ (fun t' k=>⟨.str _,H1,(I1.tok _),⟨_,rfl⟩,q1⟩);have:(t.length+1)*z.length<=100001*100:=Nat.mul_le_mul (by lia) hz;lia
end
structure iZ(P:MD)(w:ME)(K:W.Frag)(mg:Str->Option MA)(base:MN)(CX:pY)(k:Nat)(f:MB)(fd:MM)(ps:List Str)(sp:Sp):Prop where
 len:∀vs H Q E,sp vs H Q E->vs.length=ps.length
 run:∀(A:MF)(outer:List Env)(s:MC)(H:Hp)(args:Args)(us:List MA)(vs:List V)(Q:VK)(E:XK),0<s.toks->cQ k A->vC P w K mg base A outer s H->BindsTo s fd args (ps.zip us)->Vals vs us->sp vs H Q E->
  codeAny (model P w) A (.call (.ref f) args) (CR CX outer P w H s Q E) s
theorem aS.toQ {P:MD}{w:ME}{K:W.Frag}{mg:Str->Option MA}{base:MN}{CX:pY}{k:Nat}{f:MB}{fd:MM}{ps:List Str}{sp:Sp}(F:aS P w K mg base CX k f fd ps sp):iZ P w K mg base CX k f fd ps sp:=
 ⟨F.len,fun A outer s H args us vs Q E _=>F.run A outer s H args us vs Q E⟩
theorem iZ.mono {P:MD}{w:ME}{K:W.Frag}{mg:Str->Option MA}{base:MN}{CX:pY}{j k:Nat}{f:MB}{fd:MM}{ps:List Str}{sp:Sp}(F:iZ P w K mg base CX j f fd ps sp)(h:j<=k):
  iZ P w K mg base CX k f fd ps sp:=⟨F.len,fun A outer s H args us vs Q E tk hr=>F.run A outer s H args us vs Q E tk (hr.mono h)⟩
theorem HE{CX:pY}{P:MD}{w:ME}{K:W.Frag}{mg:Str->Option MA}{base:MN}{k:Nat}{f:MB}{name qual:Str}{params:Arguments}{body:List MQ}{scope:Scope}{dV kV doc pm cdv ct oc:MA}{an od:Option MB}
  {osl:Array (Option MA)} {N ps:List Str} {sp:Sp} (lk:K.lookup f=some ⟨oc,od,.func (W.fnOf name qual params body scope dV kV doc pm an cdv ct),osl⟩) (hcd:W.codeIn K cdv qual=true) (S:aF N ps scope)
  (len:∀vs H Q E,sp vs H Q E->vs.length=ps.length)
  (hbody:∀(A:MF)(outer:List Env)(s:MC)(H:Hp)(vs:List V)(Q:VK)(E:XK),cQ k (A.deeper (envOfC qual scope s.heap.objs.size f cdv))->sp vs H Q E->
   ∃t,wt (qr CX P w K mg base N qual scope f cdv A outer s H E) body t/\t {nx:=fun _ H'=>Q .cE H',rt:=Q} (start N vs) H):
  iZ P w K mg base CX (k+1) f (W.fnOf name qual params body scope dV kV doc pm an cdv ct) ps sp:=by
 refine⟨len,fun A outer s H args us vs Q E tk hr e0 hb r hsp=>?_⟩;have hl:=len _ _ _ _ hsp;have KX:K.In s.heap:=e0.mod.CU.keeps fun b o e=>(e0.bs b o e).1;have lim:s.heap.NoLimit:=e0.mod.nolimit.keeps fun b o e=>(e0.bs b o e).1;have hkind:∀y∈ps.zip us,scope.names.lookup y.1=some .local\/(scope.names.lookup y.1=some .cell/\((cellsFrom (s.heap.objs.size+1) scope.names []).lookup y.1).isSome=true):=fun⟨n,v⟩ hy=>by
  rcases S.par n (List.of_mem_zip hy).1 with q|q
  .exact .inl q
  .exact .inr ⟨q,W.cellsFrom_some _ _ _ (.inl q)⟩
 refine codeAny_call_function hr.depth (KX _ _ lk) rfl S.co S.gen rfl (W.codeRec_of KX hcd) (hb _ _ _ _ ?_);refine wpAny_with_toks (n:=1) tk ?_;refine wpAny_newFunctionEnv_cells S.kind hkind fun env he s1 x tk1=>?_;subst he;refine⟨lim.keeps x.toInCall.keep,codeAny_func ?_⟩;obtain⟨t,ht,hq⟩:=hbody A outer s H vs Q E (hr.deeper _) hsp;have I:Inv (qr CX P w K mg base N qual scope f cdv A outer s H E) [] (start N vs) H s1:=rK S hr.hd e0 hl r x;refine MK (ht [] s1 (start N vs) H _ tk1 I hq) (fun fl s' hs=>?_) fun e s' hs=>hs;have fin:∀{σ':St}{H':Hp}{v:V}{u:MA},Inv (qr CX P w K mg base N qual scope f cdv A outer s H E) [] σ' H' s'->RelV v u->Q v H'->CE outer P w H s Q u s':=
  fun{σ' H' v u} J rv q=>⟨v,H',J.os,J.bare,J.base,J.bc,rv,q⟩
 cases fl with
 |ret u=>
  obtain⟨v,σ',H',J,rv,q⟩:=hs;exact fin J rv q
 |next=>
  obtain⟨σ',H',J,q⟩:=hs;exact fin (v:=V.cE) (u:=MA.none) J rfl q
 |brk=>
  obtain⟨_,_,_,q⟩:=hs;exact False.elim q
 |cont=>
  obtain⟨_,_,_,q⟩:=hs;exact False.elim q
section
variable{P:MD}{w:ME}{K:W.Frag}{mg:Str->Option MA}{base:MN}
theorem dJ.Lo {x qual:Str}{st:MQ}{f:MB}{fd:MM}{N ps:List Str}{k:Nat}{sp:Sp}(F:dJ K x qual st f fd)(S:aF N ps (au st))(len:∀vs H Q E,sp vs H Q E->vs.length=ps.length)
  (hbody:∀(cdv:MA)(A:MF)(outer:List Env)(s:MC)(H:Hp)(vs:List V)(Q:VK)(E:XK),cQ k (A.deeper (envOfC qual (au st) s.heap.objs.size f cdv))->sp vs H Q E->
   ∃t,wt (zw P w K mg base N qual (au st) f cdv A outer s H E) (de st) t/\t {nx:=fun _ H'=>Q .cE H',rt:=Q} (start N vs) H):iZ P w K mg base (lW P w) (k+1) f fd ps sp:=by
 obtain⟨oc,od,kV,doc,pm,an,cdv,ct,osl,rfl,lk,hcd⟩:=F.ex;exact HE lk hcd S len fun A outer s H vs Q E hr hsp=>hbody cdv A outer s H vs Q E hr hsp
end
structure AF(P:MD)(w:ME)(K:W.Frag)(mg:Str->Option MA)(base:MN)(x:Str)(k:Nat)(ps:List Str)(sp:Sp):Prop where
 ex:∃(f:MB)(fd:MM),iZ P w K mg base (lW P w) k f fd ps sp/\mg x=some (.ref f)/\W.keepIn K (.ref f)=true/\Binds K fd ps []
theorem kh.toQ {P:MD}{w:ME}{K:W.Frag}{mg:Str->Option MA}{base:MN}{x:Str}{k:Nat}{ps:List Str}{sp:Sp}(F:kh P w K mg base x k ps sp):AF P w K mg base x k ps sp:=by
 obtain⟨f,fd,F,hm,hk,hb⟩:=F.ex;exact⟨⟨f,fd,F.toQ,hm,hk,hb⟩⟩
structure Eu(P:MD)(w:ME)(K:W.Frag)(mg:Str->Option MA)(base:MN)(k:Nat)(f:MB)(sp:Sp):Prop where
 ex:∃(fd:MM)(ps:List Str),iZ P w K mg base (lW P w) k f fd ps sp/\W.keepIn K (.ref f)=true/\Binds K fd ps []
section
variable{X:Cx}{CX:pY}{k:Nat}{f C:MB}{fd:MM}{ps:List Str}{sp:Sp}{E:XK}{x:Str}{p pos:Pos}{e:Expr}{es:List Expr}{t:TA}
theorem y7{pins:List (MB×Obj)}{σ:St}{H:Hp}{s:MC}{Q:VK}{us:List MA}{vs:List V}(F:iZ X.prog X.w X.K X.mg X.base CX k f fd ps sp)(hr:cQ k X.A)(hb:Binds X.K fd ps [])(hx:Passes CX X E)
  (tk:0<s.toks) (I:Inv X pins σ H s) (r:Vals vs us) (h:sp vs H Q E):MP (model X.prog X.w) X.A (call (.ref f) us) (EP X pins σ Q) X.xe s:=by
 have hl:us.length=ps.length:=by rw[←r.length];exact F.len _ _ _ _ h
 have bb:=hb s us I.je (by rw[Mo];exact hl);rw[Mo]at bb;refine wpAny_call (codeAny_mono (F.run X.A X.stack s H ⟨us,[]⟩ us vs Q E tk hr I.qf bb r h) fun r s' hq=>?_)
 cases r with
 |error e=>exact hx pins σ H s e s' I hq
 |ok fl=>
  cases fl with
  |ret u=>exact I.after hq
  |next=>exact False.elim hq
  |brk=>exact False.elim hq
  |cont=>exact False.elim hq
theorem tM(F:AF X.prog X.w X.K X.mg X.base x k ps sp)(hx:Passes (lW X.prog X.w) X E)(hr:cQ k X.A)(hg:Gl X x)(ha:QA X (e::es) t)(hdb:(x==("__debug__" :Str))=false:=by decide+kernel)(he:ML (e::es) X.env=(false,eval e X.env)::ML es X.env:=by rfl)(hpl:(MO pos (ML es X.env)).any (·.1)=false:=by rfl):
  QE X (.Call (.Name x p) (e::es) [] pos) (vE sp [] E t):=by
 obtain⟨f,fd,F,hm,hk,hb⟩:=F.ex;intro pins s σ H Q tk I h;refine wpAny_Call_Name_kw (iy I hg hm ?_ hdb);refine W.callWith_K (h₀:=X.base) I.ok.mod.CU hk (aV (iX tk (ha pos pins s σ H _ tk I h)) fun us s1 ⟨tk1,vs,H1,I1,r,q⟩=>⟨I1.je,?_⟩) he hpl;have q:sp (vs++[]) H1 Q E:=q;rw[Mo]at q;exact y7 F hr hb hx tk1 I1 r q
theorem BK{i:Nat}{Fam:MB->Sp->Prop}(hF:∀f sp,Fam f sp->Eu X.prog X.w X.K X.mg X.base k f sp)(hx:Passes (lW X.prog X.w) X E)(hr:cQ k X.A)(hN:X.N[i]?=some x)(hv:JX X.env.scope x)(ha:PA X (e::es) t)
  (hdb:(x==("__debug__" :Str))=false:=by decide+kernel) (hcd:(x==("__classdict__" :Str))=false:=by decide+kernel) (he:ML (e::es) X.env=(false,eval e X.env)::ML es X.env:=by rfl) (hpl:(MO pos (ML es X.env)).any (·.1)=false:=by rfl):
  QE X (.Call (.Name x p) (e::es) [] pos) (Ee i Fam E t):=by
 intro pins s σ H Q tk I h;obtain⟨f,sp,hs,hf,h⟩:=h;obtain⟨fd,ps,F,hk,hb⟩:=(hF f sp hf).ex;refine wpAny_Call_Name_kw (aV (iX tk (Cu hN hv hdb hcd pins s σ H (fun v H1=>v= .ref f/\H1=H) I ⟨_,hs,rfl,rfl⟩)) fun u s1 ⟨tk1,y,H1,I1,r,ey,eH⟩=>?_);subst ey;subst eH;obtain rfl:u=MA.ref f:=r;refine W.callWith_K (h₀:=X.base) I1.ok.mod.CU hk (aV (iX tk1 (ha pos pins s1 σ _ _ I1 h)) fun us s2 ⟨tk2,vs,H2,I2,r,q⟩=>⟨I2.je,?_⟩) he hpl;exact y7 F hr hb hx tk2 I2 r q
end
theorem AI{ix:List (Option Nat)}{g:TG}{te:TE}{σ:St}{Q:VK}{H:Hp}{G1 G2:Hp->Prop}{xs ys:List V}(Pv:Nat->List V->St->Hp->Prop)(hn:min xs.length ys.length<=1000000)(h0:Pv 0 [] (dA ix σ) H)
  (hl:∀i zs σ H,i<=min xs.length ys.length->Pv i zs σ H->G1 H/\G2 H) (hlen:∀i zs σ H,Pv i zs σ H->zs.length<=i)
  (hs:∀i zs σ H t v u(R:St->List V->Hp->Prop),xs[i]?=some v->ys[i]?=some u->Pv i zs σ H->H t=none->(∀σ2 ys2 H5,Pv (i+1) ys2 σ2 H5->R σ2 ys2 H5)->g (.ref t) σ (upd H t (.tup [v,u])) fun σ2 H3=>te σ2 H3 fun v H5=>R σ2 (zs++[v]) H5)
  (mg:∀x σ H R R',(∀σ2 H2,R σ2 H2->R' σ2 H2)->g x σ H R->g x σ H R')
  (hd:∀zs σ' H' p,Pv (min xs.length ys.length) zs σ' H'->H' p=none->Q (.ref p) (upd H' p (.lst zs))):iW ix g gZ te σ Q (Hh xs ys G1 G2) H:=by
 refine iD Pv hn h0 (fun i zs σ H hi p=>⟨hi,hl i zs σ H (Nat.le_of_lt hi) p⟩) (fun zs σ H p=>⟨rfl,hl _ zs σ H (Ms _) p⟩) hlen (fun i zs σ H x H2 R hi p y r=>?_) hd;obtain⟨t,v,u,ht,rfl,hv,hu,rfl⟩:=y;refine mg _ _ _ _ _ (fun σ2 H3 q=>?_) (hs i zs σ H t v u R hv hu p ht r);unfold gZ;simp only[if_true];exact q
theorem Ll{K:W.Frag}{k l:Nat}:∀x σ H R R',(∀σ2 H2,R σ2 H2->R' σ2 H2)->C7 K 2 (uS (cu k) (uS (cu l) GU)) x σ H R->C7 K 2 (uS (cu k) (uS (cu l) GU)) x σ H R':=by
 intro x σ H R R' hR h;obtain⟨a,xs,e1,h1,h2,v,r,e2,v2,r2,e3,e4,q⟩:=h;exact⟨a,xs,e1,h1,h2,v,r,e2,v2,r2,e3,e4,hR _ _ q⟩
theorem ux{x:V}{xs:List V}:dw (x::xs) (some 1) none=xs:=by
 unfold dw HT.pJ;simp
def cT{α β:Type}(f:α->Option β):List α->Option (List β)
 |[]=>some []
 |x::xs=>match f x with
  |none=>none
  |some y=>(cT f xs).map (y::·)
theorem rT{α β:Type}{f:α->Option β}:∀{l:List α}{ys:List β}{x:α}{y:β},cT f l=some ys->f x=some y->cT f (l++[x])=some (ys++[y])
 |[],ys,x,y,h,e=>by
  cases h;show(match f x with|none=>none|some y=>(cT f []).map (y::·))=_;rw[e];rfl
 |a::l,ys,x,y,h,e=>by
  unfold cT at h;rw[List.cons_append];unfold cT
  cases ea:f a with
  |none=>rw[ea]at h;cases h
  |some b=>
   rw[ea]at h;dsimp only at h⊢
   cases el:cT f l with
   |none=>rw[el]at h;cases h
   |some zs=>
    rw[el]at h;cases h;rw[rT el e];rfl
theorem mK{α β:Type}{f:α->Option β}:∀{l:List α}{i:Nat}{x:α},l[i]?=some x->f x=none->cT f l=none
 |[],i,x,h,_=>by simp at h
 |a::l,0,x,h,e=>by
  cases h;unfold cT;rw[e]
 |a::l,i+1,x,h,e=>by
  unfold cT;rw[mK (l:=l) (i:=i) (by simpa using h) e];cases f a<;>rfl
theorem mw{α β:Type}{f:α->Option β}{l:List α}{i:Nat}{x:α}{y:β}{ys:List β}(h:cT f (l.take i)=some ys)(hx:l[i]?=some x)(e:f x=some y):cT f (l.take (i+1))=some (ys++[y]):=by
 rw[List.take_add_one,hx];exact rT h e
theorem uP{α β:Type}{f:α->Option β}:∀{l:List α}{ys:List β},cT f l=some ys->∀{i:Nat}{x:α},l[i]?=some x->∃y,ys[i]?=some y/\f x=some y
 |[],ys,h,i,x,hx=>by simp at hx
 |a::l,ys,h,i,x,hx=>by
  unfold cT at h
  cases ea:f a with
  |none=>rw[ea]at h;cases h
  |some b=>
   rw[ea]at h;dsimp only at h
   cases el:cT f l with
   |none=>rw[el]at h;cases h
   |some zs=>
    rw[el]at h;cases h
    cases i with
    |zero=>cases hx;exact⟨b,rfl,ea⟩
    |succ i=>exact uP el (i:=i) (by simpa using hx)
theorem ki{p A B:Prop}[Decidable p](hp:p)(h:A):if p then A else B:=by rw[if_pos hp];exact h
theorem bZ{p A B:Prop}[Decidable p](hp:¬p)(h:B):if p then A else B:=by rw[if_neg hp];exact h
theorem ie{xs:List Str}{i:Nat}{v:V}(h:(xs.map V.str)[i]?=some v):∃x,xs[i]?=some x/\v= .str x:=by
 rw[LX]at h
 cases e:xs[i]? with
 |none=>rw[e]at h;cases h
 |some x=>rw[e]at h;exact⟨x,rfl,(My h).symm⟩
section
variable{prog:MD}{w:ME}{A:MF}{E:MA->MC->Prop}{s:MC}{W:MB->List Int->Prop}
theorem Paired.at' {α β:Type}{F:α->β->Prop}:∀{l:List α}{m:List β}(i:Nat),Paired F l m->(∃a b,l[i]?=some a/\m[i]?=some b/\F a b)\/(l[i]?=none/\m[i]?=none)
 |_,_,i,.nil=> .inr ⟨by simp,by simp⟩
 |_,_,0,.cons r _=> .inl ⟨_,_,rfl,rfl,r⟩
 |_,_,i+1,.cons _ t=>by simpa using Paired.at' i t
theorem Paired.GJ {α β:Type}{F:α->β->Prop}:∀{l l':List α}{m m':List β},Paired F l m->Paired F l' m'->Paired F (l++l') (m++m')
 |_,_,_,_,.nil,y=>y
 |_,_,_,_,.cons r t,y=> .cons r (Paired.GJ t y)
end
theorem Paired.D8 {α β:Type}{F:α->β->Prop}:∀{l:List α}{m:List β},Paired F l m->l.length=m.length
 |_,_,.nil=>rfl
 |_,_,.cons _ t=>by rw[L8,L8,Paired.D8 t]
end L2
namespace Sw
open PySem L2
inductive Wd where
 |txt (x:Str)
 |num (k:Int)
 |row (R:List (Int×Int))
 |ord (xs:List Int)
def vM(H:Hp)(v:V):Wd->Prop
 | .txt x=>v= .str x
 | .num k=>v= .int k
 | .row R=>dY H v R
 | .ord xs=>∃t,v= .ref t/\H t=some (.tup (xs.map V.int))
theorem vM.same {H H':Hp}{v:V}{x:Wd}(h:vM H v x)(s:ah H H'):vM H' v x:=by
 cases x with
 |txt x=>exact h
 |num k=>exact h
 |row R=>exact dY.same h s
 |ord xs=>obtain⟨t,e,q⟩:=h;exact⟨t,e,s _ _ q⟩
def xV(H:Hp)(vs:List V)(xs:List Wd):Prop:=Paired (fun v x=>vM H v x) vs xs
theorem xV.same {H H':Hp}{vs:List V}{xs:List Wd}(h:xV H vs xs)(s:ah H H'):xV H' vs xs:=Paired.wG h fun _ _ z=>z.same s
theorem xV.len {H:Hp}{vs:List V}{xs:List Wd}(h:xV H vs xs):vs.length=xs.length:=Paired.D8 h
theorem xV.snoc {H:Hp}{vs:List V}{xs:List Wd}{v:V}{x:Wd}(h:xV H vs xs)(z:vM H v x):xV H (vs++[v]) (xs++[x]):=Paired.GJ h (.cons z .nil)
inductive Out where
 |jK (c:MB)
 |ans (s:Str)
 |AG
 |put (x:Str) (R:List (Int×Int))
 |del (x:Str)
structure cf where
 due:Str->Option (List Str)
 okd:Str->Bool
 Eh:Int->Str->Str->Option Wd
 isA:Str->Bool
 ans:Str->Int->List Wd->Option (Except MB Str)
 EY:Str->List Wd->Option (Except MB (List (Int×Int)))
 CT:MB
 CN:MB
def nD(m:Kept)(d:Str)(x:Wd):Option Wd:=
 if d=LV "name"then match x with
  | .txt s=>(rowOf m s).map Wd.row
  |_=>none
 else some x
def cf.out (L:cf)(n:Int)(m:Kept):List Str->Option Out
 |[]=>none
 |word::args=>match L.due word with
  |none=>none
  |some dues=>
   if dues.length≠args.length then none else
   if dues.all L.okd=false then none else
   match cT (fun p:Str×Str=>L.Eh n p.1 p.2) (dues.zip args)with
   |none=>none
   |some read=>match cT (fun p:Str×Wd=>nD m p.1 p.2) (dues.zip read)with
    |none=>some (.jK L.CN)
    |some given=>
     if word=LV "names"then some .AG else
     if L.isA word=true then match L.ans word n given with
      |none=>none
      |some (.ok s)=>some (.ans s)
      |some (.error c)=>some (.jK c)
     else match read with
      | .txt x::_=>if word=LV "drop"then(rowOf m x).map fun _=> .del x else match L.EY word given with
       |none=>none
       |some (.ok R)=>some (.put x R)
       |some (.error c)=>some (.jK c)
      |_=>none
def kB(m:Kept)(x:Str)(R:List (Int×Int)):Kept:=if(m.any fun p=>decide (p.1=x))=true then m.map (fun p=>if p.1=x then(p.1,R)else p)else m++[(x,R)]
def lS(m:Kept)(x:Str):Kept:=m.filter fun p=>decide (p.1≠x)
theorem dY.wF {H:Hp}{v:V}{R:List (Int×Int)}{d:MB}{kvs kvs':List (Key×V)}(h:dY H v R)(e:H d=some (.dK kvs)):dY (upd H d (.dK kvs')) v R:=by
 obtain⟨l,es,e1,h1,h2⟩:=h;have ne:∀b o,H b=some o->(∀q,o≠.dK q)->b≠d:=fun b o hb hn z=>by rw[z,e]at hb;cases hb;exact hn _ rfl
 refine⟨l,es,e1,by rw[ao (ne _ _ h1 fun q z=>nomatch z)];exact h1,h2.keep fun b xs hb=>by rw[ao (ne _ _ hb fun q z=>nomatch z)];exact hb⟩
theorem bj.wF {H:Hp}{d:MB}{kvs kvs':List (Key×V)}{ks:List (Key×V)}{m:Kept}(h:bj H ks m)(e:H d=some (.dK kvs)):bj (upd H d (.dK kvs')) ks m:=Paired.wG h fun _ _ z=>⟨z.1,z.2.wF e⟩
theorem bj.any {H:Hp}{x:Str}:∀{kvs:List (Key×V)}{m:Kept},bj H kvs m->(kvs.any fun kv=>decide (kv.1=Sum.inr x))=m.any fun p=>decide (p.1=x)
 |_,_,.nil=>rfl
 |_,_,.cons h r=>by
  rw[List.any_cons,List.any_cons,bj.any r,h.1];congr 1;rw[Bool.eq_iff_iff,decide_eq_true_eq,decide_eq_true_eq];exact⟨fun z=>Sum.inr.inj z,fun z=>by rw[z]⟩
theorem bj.Cs {H:Hp}{x:Str}{v:V}{R:List (Int×Int)}(hv:dY H v R):∀{kvs:List (Key×V)}{m:Kept},bj H kvs m->bj H (kvs.map fun kv=>if kv.1=Sum.inr x then(kv.1,v)else kv) (m.map fun p=>if p.1=x then(p.1,R)else p)
 |_,_,.nil=> .nil
 |_,_,.cons (a:=p) (b:=q) h r=>by
  rw[L9,L9];refine .cons ?_ (bj.Cs hv r);by_cases c:q.1=x
  .rw[if_pos (by rw[h.1,c]),if_pos c]
   exact⟨h.1,hv⟩
  .rw[if_neg (by rw[h.1];exact fun z=>c (Sum.inr.inj z)),if_neg c]
   exact h
theorem bj.put {H:Hp}{x:Str}{v:V}{R:List (Int×Int)}{kvs:List (Key×V)}{m:Kept}(h:bj H kvs m)(hv:dY H v R):bj H (putK kvs (.inr x) v) (kB m x R):=by
 unfold putK kB;rw[h.any]
 split
 .exact h.Cs hv
 .exact Paired.GJ h (.cons ⟨rfl,hv⟩ .nil)
theorem bj.drop {H:Hp}{x:Str}:∀{kvs:List (Key×V)}{m:Kept},bj H kvs m->bj H (gA kvs (.inr x)) (lS m x)
 |_,_,.nil=> .nil
 |_,_,.cons (a:=p) (b:=q) (l₁:=kvs) (l₂:=m) h r=>by
  unfold gA lS;rw[List.filter_cons,List.filter_cons];have ih:=bj.drop (x:=x) r;unfold gA lS at ih;by_cases c:q.1=x
  .rw[if_neg (by rw[h.1,c];simp),if_neg (by rw[c];simp)]
   exact ih
  .rw[if_pos (by rw[h.1];simpa using c),if_pos (by simpa using c)]
   exact .cons h ih
def jC(ws:List Str):Str:=if ws=[]then LV "none"else Str.join (LV ",") ws
def Ji(L:cf):Sp:=fun vs H Q _=>∃(n:Int)(d w:Str)(x:Wd),vs=[.int n,.str d,.str w]/\1<=n/\n<=12/\w.length<=990/\L.okd d=true/\L.Eh n d w=some x/\∀v H',vM H' v x->ah H H'->Q v H'
def Jg(L:cf):Sp:=fun vs H Q E=>∃(word:Str)(l:MB)(us:List V)(xs:List Wd),vs=[.str word,.ref l]/\H l=some (.lst us)/\xV H us xs/\((∃R,L.EY word xs=some (.ok R)/\∀v H',dY H' v R->ah H H'->Q v H')\/∃c,L.EY word xs=some (.error c)/\∀b H',ah H H'->E (.ref c) b H')
def vi(L:cf)(word:Str):Sp:=fun vs H Q E=>∃(n:Int)(l:MB)(us:List V)(xs:List Wd),vs=[.int n,.ref l]/\1<=n/\n<=12/\H l=some (.lst us)/\xV H us xs/\((∃s,L.ans word n xs=some (.ok s)/\∀H',ah H H'->Q (.str s) H')\/∃c,L.ans word n xs=some (.error c)/\∀b H',ah H H'->E (.ref c) b H')
def Jj:Sp:=fun vs H Q _=>∃(l:MB)(ws:List Str),vs=[.ref l]/\H l=some (.lst (ws.map V.str))/\ws.length<=100/\(∀w∈ws,w.length<=990)/\Q (.str (jC ws)) H
structure Js(K:W.Frag)(L:cf)(due ans:List (Str×MB)):Prop where
 due:∀w,(L.due w=none/\tabOf due w=none)\/∃xs b,L.due w=some xs/\tabOf due w=some b/\xs.length<=10/\∀H,dH K H b (xs.map V.str)
 ans:∀w,L.isA w=(tabOf ans w).isSome
 name:∀n w x,L.Eh n (LV "name") w=some x->∃s,x= .txt s
structure IQ(P:MD)(w:ME)(K:W.Frag)(mg:Str->Option MA)(base:MN)(C AD AA:MB)(due ans:List (Str×MB))(L:cf):Prop extends yw K C,T1 mg K where
 Cg:mg "zip" =none
 fD:mg "sorted" =none
 cz:mg "NoText" =some (.ref L.CT)
 fK:oH K L.CT
 yh:mg "DUE" =some (.ref AD)
 yH:RelV (.ref AD) (.ref AD)
 yK:KTab K w.params AD due
 lY:mg "ANSWERS" =some (.ref AA)
 mf:RelV (.ref AA) (.ref AA)
 my:KTab K w.params AA ans
 tabs:Js K L due ans
 j9:MethAt P w K mg base (lW P w) C "row_of" 1 ["self","name"] (yN C L.CN)
 mS:kh P w K mg base "read_word" 9 ["n","due","word"] (Ji L)
 qV:kh P w K mg base "row_due" 9 ["word","given"] (Jg L)
 j6:FnAt P w K mg base "with_commas" 1 ["words"] Jj
 Fw:∀f sp,(∃word,tabOf ans word=some f/\sp=vi L word)->Eu P w K mg base 20 f sp
def Fg(C:MB)(L:cf):Sp:=fun vs H Q E=>∃(a d:MB)(t:Str)(n:Int)(m:Kept)(o:Out),vs=[.ref a,.str t]/\t.length<=990/\1<=n/\n<=12/\m.length<=40/\(∀p∈m,p.1.length<=990)/\cX C H a d n m/\L.out n m (Txt.split t (LV " "))=some o/\
 match o with
 | .jK c=>∀b H',ah H H'->E (.ref c) b H'
 | .ans s=>∀H',ah H H'->Q (.str s) H'
 | .AG=>∀ks:List Str,ks.Perm (m.map (·.1))->PyProof.Rows.sortedS ks=true->∀H',ah H H'->Q (.str (jC ks)) H'
 | .put x R=>∀H',cX C H' a d n (kB m x R)->(∀b o,b≠d->H b=some o->H' b=some o)->Q (.str (LV "ok")) H'
 | .del x=>∀H',cX C H' a d n (lS m x)->(∀b o,b≠d->H b=some o->H' b=some o)->Q (.str (LV "ok")) H'
section
variable{P:MD}{w:ME}{K:W.Frag}{mg:Str->Option MA}{base:MN}{C AD AA:MB}{due ans:List (Str×MB)}{L:cf}
theorem cZ:aF ["self","row","words","word","dues","read","given","answer"] ["self","row"] (au (mem (top 114) 2)):=⟨rfl,rfl,rfl,by decide+kernel,rfl,by decide+kernel,by decide+kernel⟩
theorem Gb{f:MB}{fd:MM}(F:dJ K "say" "Desk.say" (mem (top 114) 2) f fd)(T:IQ P w K mg base C AD AA due ans L):aS P w K mg base (lW P w) 30 f fd ["self","row"] (Fg C L):=by
 refine F.HY cZ (fun vs H Q E h=>?_) (fun cdv A outer s H vs Q E hr h=>?_)
 .obtain⟨a,d,t,n,m,o,rfl,_⟩:=h
  rfl
 .obtain⟨a,d,t,n,m,o,rfl,ht,n1,n2,hm,hmw,hd,ho,k⟩:=h
  have hu:=iY hr;have big:(10000000:Nat)<=MG:=by decide
  refine⟨_,(ag (aw (i:=2) cZ.nd rfl (Or.inl rfl) (bD (K:=K) rfl PySem.F.plainAttrs_str PySem.F.slot_str_split PySem.F.type_str_split jx (pv 1) (aa az af)))
   (rD (F0 (i:=3) cZ.nd rfl (Or.inl rfl) (IW (ax (K:=K) rfl) (pv 2) le_int (fun _ _=>rfl)))
   (dO (QS.of (aQ (PW.pt (j5 (kD (z5 T.yK (pv 3) (di rfl T.yh T.yH))) (jz (aE gH (ar (aN (K:=K) rfl) rfl T.bP (by decide+kernel) (aa (mh T.yK (di rfl T.yh T.yH) (pv 3) (fun _ _=>rfl)) af)) (av cO (ar (aN (K:=K) rfl) rfl T.bP (by decide+kernel) (aa (pv 2) af)) ai) (aH _))))) (aj (gB wX T.fK rfl rfl T.cz (aa az af))) aB))
   (dO (QS.of (aw (i:=4) cZ.nd rfl (Or.inl rfl) (mh T.yK (di rfl T.yh T.yH) (pv 3) (fun _ _=>rfl))))
   (dO (QS.of (uT (N:=(["due","written","self"]:List Str)) (ix:=([none,none,some 0]:List (Option Nat))) (i:=5) Fz Cf cZ.nd rfl rfl (aW rfl rfl) rfl (yL (K:=K) rfl rfl T.Cg (aa (pv 4) (aa (bq (bR (K:=K) rfl) (pv 2) (bu ai) bS) af))) (fun _ _ _ _=>(eG (K:=K) (n:=2) rfl rfl (bh (aC (i:=0) (show List.Nodup (["due","written","self"]:List Str)from by decide+kernel) rfl (Or.inl rfl)) (bh (aC (i:=1) (show List.Nodup (["due","written","self"]:List Str)from by decide+kernel) rfl (Or.inl rfl)) eC)))) (fun _ _ _ _=>bg) (fun _ _ _ _=>(iw T.mS (mT.passes CD) (hr.mono (by decide)) rfl (@aa _ _ _ _ _ (iL (K:=K) rfl (pv 2)) (@aa _ _ _ _ _ (pv 0) (@aa _ _ _ _ _ (pv 1) af aL) aL) (by rfl))))))
   (dO (QS.of (uT (N:=(["due","value","self"]:List Str)) (ix:=([none,none,some 0]:List (Option Nat))) (i:=6) Fz Cf cZ.nd rfl rfl (aW rfl rfl) rfl (yL (K:=K) rfl rfl T.Cg (aa (pv 4) (aa (pv 5) af))) (fun _ _ _ _=>(eG (K:=K) (n:=2) rfl rfl (bh (aC (i:=0) (show List.Nodup (["due","value","self"]:List Str)from by decide+kernel) rfl (Or.inl rfl)) (bh (aC (i:=1) (show List.Nodup (["due","value","self"]:List Str)from by decide+kernel) rfl (Or.inl rfl)) eC)))) (fun _ _ _ _=>bg) (fun _ _ _ _=>(pq (aE bY (pv 0) az (aH _)) (zY T.j9 (mT.passes CD) (hr.mono (by decide)) (pv 2) (aa (pv 1) af)) (pv 1)))))
   (dO (QS.of (aQ (aE bY (pv 3) az (aH _)) (aj (aA (ak T.j6 (hr.mono (by first|decide|lia)) rfl (aa (ar (kS rfl) rfl T.fD (by decide+kernel) (aa (iL (K:=K) rfl (pv 0)) af)) af)))) aB))
   (dO (BQ (kD (Bg T.my (pv 3) (di rfl T.lY T.mf))) (dO (QS.of (aw (i:=7) cZ.nd rfl (Or.inl rfl) (mh T.my (di rfl T.lY T.mf) (pv 3) (fun _ _=>rfl))))
   (nJ (tF (BK (i:=7) T.Fw nA (hr.mono (by decide)) rfl (by first|exact Or.inl rfl|exact Or.inr (Or.inl rfl)|exact Or.inr (Or.inr rfl)) (aa (iL (K:=K) rfl (pv 0)) (aa (pv 6) af)))))) (wt.of aB))
   (wt.of (ag (aQ (aE bY (pv 3) az (aH _)) (aj (Ej (iL (K:=K) rfl (pv 0)) (aO (ax (K:=K) rfl) (pv 5) ai (fun _ _=>rfl)))) (aj (tq hu (iL (K:=K) rfl (pv 0)) (aO (ax (K:=K) rfl) (pv 5) ai (fun _ _=>rfl)) (iw T.qV nA (hr.mono (by decide)) rfl (aa (pv 3) (aa (pv 6) af))) rfl)))
   (aj (aA az)))))))))))),?_⟩
  have wl:=split_le t (LV " ");have wp:∀z∈Txt.split t (LV " "),z.length<=t.length:=fun z hz=>qg hz;have wne:=oZ t (LV " ");refine⟨_,rfl,rfl,t,_,rfl,rfl,by decide+kernel,by lia,fun l1 f1=>?_⟩;have s1:ah H (upd H l1 (.lst ((Txt.split t (LV " ")).map V.str))):=ah.new f1;have h1:upd H l1 (.lst ((Txt.split t (LV " ")).map V.str)) l1=some (.lst ((Txt.split t (LV " ")).map V.str)):=ae;generalize upd H l1 (.lst ((Txt.split t (LV " ")).map V.str))=H1 at s1 h1⊢;generalize Txt.split t (LV " ")=ws at wl wp wne ho h1;obtain _|⟨word,args⟩:=ws
  .exact absurd rfl wne
  have one:1<=MG:=by decide
  have wl':args.length<=1000:=by rw[L8]at wl;lia
  refine⟨_,rfl,l1,_,0,_,rfl,rfl,aG.of h1,aR (j:=0) rfl,?_⟩;refine⟨_,rfl,word,rfl,rfl,_,rfl,?_⟩;rcases T.tabs.due word with⟨e1,e2⟩|⟨xs,b,e1,e2,xl,hb⟩
  .rw[e2]
   simp only[Option.isSome_none,Bool.not_false,if_true];unfold cf.out at ho;dsimp only at ho;rw[e1]at ho;cases ho
  unfold cf.out at ho;dsimp only at ho;rw[e1]at ho;dsimp only at ho;rw[e2];simp only[Option.isSome_some,Bool.not_true,if_false,Bool.false_eq_true];refine⟨_,rfl,word,b,rfl,rfl,e2,b,_,rfl,.inr (hb _),_,rfl,l1,_,rfl,.inl (aG.of h1),_,_,rfl,rfl,rfl,_,rfl,?_⟩;by_cases hl:xs.length=args.length
  case neg=>
   rw[if_pos hl]at ho;cases ho
  rw[if_neg (fun z=>z hl)]at ho;have bc:xs.all L.okd=true:=by
   cases e:xs.all L.okd with
   |true=>rfl
   |false=>rw[if_pos e]at ho;cases ho
  rw[if_neg (by rw[bc];decide)]at ho;rw[if_neg (by
    simp only[LW,L8,Bool.not_eq_true',decide_eq_false_iff_not,V.int.injEq];lia)]
  refine⟨_,rfl,word,b,rfl,rfl,e2,?_⟩;refine⟨_,rfl,_,rfl,1,rfl,l1,_,rfl,aG.of h1,fun l2 f2=>⟨b,l2,xs.map V.str,args.map V.str,rfl,hb _,aG.of (by rw[ae,L9,ux]),?_⟩⟩;have h2:upd H1 l2 (.lst (dw ((word::args).map V.str) (some 1) none)) l2=some (.lst (args.map V.str)):=by rw[ae,L9,ux]
  have s2:ah H (upd H1 l2 (.lst (dw ((word::args).map V.str) (some 1) none))):=s1.trans (ah.new f2);generalize upd H1 l2 (.lst (dw ((word::args).map V.str) (some 1) none))=H2 at h2 s2⊢;obtain⟨dx,fs,kvs,ha,hf,hkd,dne,km,ml⟩:=id hd;refine AI (fun i zs σ' H'=>(∃v0 v1,σ'=[v0,v1,some (.ref a)])/\ah H2 H'/\∃ys,cT (fun p:Str×Str=>L.Eh n p.1 p.2) ((xs.zip args).take i)=some ys/\xV H' zs ys/\ys.length=i) (by simp only[LW];lia) ⟨⟨none,none,rfl⟩,ah.refl _,[],rfl,.nil,rfl⟩ (fun i zs σ' H' _ ⟨_,sm,_⟩=>⟨hb _,aG.of (sm _ _ h2)⟩) (fun i zs σ' H' ⟨_,_,ys,_,wz,yl⟩=>by have:=wz.len;lia) (fun i zs σ' H' t' v u R hv hu ⟨⟨v0,v1,e3⟩,sm,ys,em,wz,yl⟩ ft r=>?_) Ll (fun zs σ' H' l3 ⟨_,sm,ys,em,wz,yl⟩ f3=>?_)
  .subst e3
   obtain⟨dj,e4,rfl⟩:=ie hv;obtain⟨wj,e5,rfl⟩:=ie hu;have ez:(xs.zip args)[i]?=some (dj,wj):=by rw[List.getElem?_zip_eq_some];exact⟨e4,e5⟩
   have st:ah H' (upd H' t' (.tup [.str dj,.str wj])):=ah.new ft;have ha':=st _ _ (sm _ _ (s2 _ _ ha));have wlen:wj.length<=990:=Mv (wp wj (Mh _ (Mf e5))) ht;refine⟨t',_,rfl,dH.of ae,rfl,_,_,rfl,_,_,rfl,rfl,?_⟩;refine⟨_,rfl,a,C,dx,fs,_,rfl,ha',T.cls,T.Hk,hf.n_,_,rfl,_,rfl,?_⟩
   cases ex:L.Eh n dj wj with
   |none=>
    rw[mK (f:=fun p:Str×Str=>L.Eh n p.1 p.2) ez ex]at ho;cases ho
   |some x=>exact⟨n,dj,wj,x,rfl,n1,n2,wlen,List.all_eq_true.mp bc dj (Mf e4),ex,fun v' H5 wv sv=>r _ _ _ ⟨⟨_,_,rfl⟩,sm.trans (st.trans sv),ys++[x],mw em ez ex,(wz.same (st.trans sv)).snoc wv,by rw[LY,yl];rfl⟩⟩
  rw[Mi (by simp only[List.length_zip,LW];lia)]at em;have ee:=em;rw[em]at ho;dsimp only at ho;have yl2:ys.length=xs.length:=by rw[yl];simp only[LW];lia
  have h3:upd H' l3 (.lst zs) l3=some (.lst zs):=ae;have s3:ah H (upd H' l3 (.lst zs)):=s2.trans (sm.trans (ah.new f3));have wz3:xV (upd H' l3 (.lst zs)) zs ys:=wz.same (ah.new f3);generalize upd H' l3 (.lst zs)=H3 at h3 s3 wz3⊢;clear wz em yl sm f3 h1 h2 s1 s2 f1 f2;refine⟨_,rfl,_,rfl,b,l3,xs.map V.str,zs,rfl,hb _,aG.of h3,?_⟩;refine AI (fun i vs' σ' H'=>(∃v0 v1,σ'=[v0,v1,some (.ref a)])/\ah H3 H'/\∃gs,cT (fun p:Str×Wd=>nD m p.1 p.2) ((xs.zip ys).take i)=some gs/\xV H' vs' gs/\gs.length=i) (by simp only[LW];lia) ⟨⟨none,none,rfl⟩,ah.refl _,[],rfl,.nil,rfl⟩ (fun i zs σ' H' _ ⟨_,sm,_⟩=>⟨hb _,aG.of (sm _ _ h3)⟩) (fun i zs σ' H' ⟨_,_,ys,_,wz,yl⟩=>by have:=wz.len;lia) (fun i vs' σ' H' t' v u R hv hu ⟨⟨v0,v1,e3⟩,sm,gs,em,wz,gl⟩ ft r=>?_) Ll (fun vs' σ' H' l4 ⟨_,sm,gs,em,wz,gl⟩ f4=>?_)
  .subst e3
   obtain⟨dj,e4,rfl⟩:=ie hv;obtain⟨x,e5,wx⟩:∃x,ys[i]?=some x/\vM H3 u x:=by
    rcases Paired.at' i wz3 with⟨u',x,q1,q2,q3⟩|⟨q1,q2⟩
    .rw[hu]at q1;cases q1;exact⟨x,q2,q3⟩
    .rw[hu]at q1;cases q1
   have ez:(xs.zip ys)[i]?=some (dj,x):=by rw[List.getElem?_zip_eq_some];exact⟨e4,e5⟩
   have st:ah H' (upd H' t' (.tup [.str dj,u])):=ah.new ft;have sH:ah H (upd H' t' (.tup [.str dj,u])):=s3.trans (sm.trans st);refine⟨t',_,rfl,dH.of ae,rfl,_,_,rfl,_,_,rfl,rfl,?_⟩;refine⟨_,rfl,rfl,_,rfl,?_⟩;by_cases hn:dj=LV "name"
   .dsimp only
    rw[if_pos (by rw[hn];decide)];have il:i<args.length:=by have:=(List.getElem?_eq_some_iff.mp e4).1;lia
    obtain⟨y,e6,e7⟩:=uP ee (i:=i) (x:=(dj,args[i])) (by rw[List.getElem?_zip_eq_some];exact⟨e4,LZ il⟩);rw[e5]at e6;cases e6;dsimp only at e7;rw[hn]at e7;obtain⟨z,rfl⟩:=T.tabs.name _ _ _ e7;cases wx;have hd':cX C (upd H' t' (.tup [.str dj,.str z])) a d n m:=⟨dx,fs,kvs,sH _ _ ha,hf,sH _ _ hkd,dne,km.same sH,ml⟩;refine⟨_,rfl,a,dx,fs,rfl,sH _ _ ha,hf.GC,_,rfl,a,d,z,n,m,rfl,hd',fun en=>?_,fun R' v' er rv=>?_⟩
    .rw[mK (f:=fun p:Str×Wd=>nD m p.1 p.2) ez (by show nD m dj (.txt z)=none;unfold nD;rw[if_pos hn];dsimp only;rw[en];rfl)]at ho
     cases ho;exact k none _ sH
    .exact r _ _ _ ⟨⟨_,_,rfl⟩,sm.trans st,gs++[.row R'],mw em ez (by show nD m dj (.txt z)=some (.row R');unfold nD;rw[if_pos hn];dsimp only;rw[er];rfl),(wz.same st).snoc (x:= .row R') rv,by rw[LY,gl];rfl⟩
   .dsimp only
    rw[if_neg (by simpa using hn)];exact⟨_,rfl,r _ _ _ ⟨⟨_,_,rfl⟩,sm.trans st,gs++[x],mw em ez (by show nD m dj x=some x;unfold nD;rw[if_neg hn]),(wz.same st).snoc (wx.same (sm.trans st)),by rw[LY,gl];rfl⟩⟩
  have zl3:=wz3.len;rw[Mi (by simp only[List.length_zip,LW];lia)]at em;rw[em]at ho;dsimp only at ho;have h4:upd H' l4 (.lst vs') l4=some (.lst vs'):=ae;have sx:ah H3 (upd H' l4 (.lst vs')):=sm.trans (ah.new f4);have s4:ah H (upd H' l4 (.lst vs')):=s3.trans sx;have wz4:xV (upd H' l4 (.lst vs')) vs' gs:=wz.same (ah.new f4);have h34:upd H' l4 (.lst vs') l3=some (.lst zs):=sx _ _ h3;have wz34:xV (upd H' l4 (.lst vs')) zs ys:=wz3.same sx;generalize upd H' l4 (.lst vs')=H4 at h4 s4 wz4 h34 wz34⊢;clear sx wz em sm f4 h3 s3 wz3 ee gl;have ha4:=s4 _ _ ha;have hkd4:=s4 _ _ hkd;have km4:=km.same s4;have kl:kvs.length=m.length:=Paired.D8 km;refine⟨_,rfl,rfl,_,rfl,?_⟩;dsimp only;by_cases c1:word=LV "names"
  .rw[if_pos (by rw[c1];decide)]
   rw[if_pos c1]at ho;cases ho;refine⟨_,rfl,a,C,dx,fs,_,rfl,ha4,T.cls,T.iC,hf.kept,d,kvs,m.map (·.1),rfl,hkd4,km4.keys,by lia,fun l ks' fl pm so=>⟨l,ks',rfl,ae,?_,?_,k ks' pm so _ (s4.trans (ah.new fl))⟩⟩
   .have:=pm.length_eq
    rw[LW]at this;lia
   .intro w hw
    obtain⟨p,hp,e⟩:=List.mem_map.mp (pm.mem_iff.mp hw);rw[←e];exact hmw p hp
  rw[if_neg (by simpa using c1)];rw[if_neg c1]at ho;refine⟨_,rfl,word,rfl,rfl,_,rfl,?_⟩;dsimp only;rw[←T.tabs.ans word];by_cases c2:L.isA word=true
  .rw[if_pos c2]
   rw[if_pos c2]at ho;obtain⟨fA,eA⟩:=Option.isSome_iff_exists.mp ((T.tabs.ans word).symm.trans c2);refine⟨_,rfl,word,fA,rfl,rfl,eA,?_⟩;refine⟨fA,vi L word,rfl,⟨word,eA,rfl⟩,_,rfl,a,C,dx,fs,_,rfl,ha4,T.cls,T.Hk,hf.n_,_,rfl,n,l4,vs',gs,rfl,n1,n2,h4,wz4,?_⟩
   cases er:L.ans word n gs with
   |none=>rw[er]at ho;cases ho
   |some r=>
    rw[er]at ho
    cases r with
    |ok s'=>
     cases ho;exact .inl ⟨s',rfl,fun H' sx=>k H' (s4.trans sx)⟩
    |error c=>
     cases ho;exact .inr ⟨c,rfl,fun b H' sx=>k b H' (s4.trans sx)⟩
  rw[if_neg c2];rw[if_neg c2]at ho;obtain⟨x,rest,rfl⟩:∃x rest,ys= .txt x::rest:=by
   match ys,ho with
   | .txt x::rest,_=>exact⟨x,rest,rfl⟩
   |[],ho=>cases ho
   | .num _::_,ho=>cases ho
   | .row _::_,ho=>cases ho
   | .ord _::_,ho=>cases ho
  cases wz34 with
  |cons w1 w2=>
   cases(show _=V.str x from w1);dsimp only at ho;refine⟨_,rfl,rfl,_,rfl,?_⟩;dsimp only;by_cases c3:word=LV "drop"
   .rw[if_pos (by rw[c3];decide)]
    rw[if_pos c3]at ho
    cases er:rowOf m x with
    |none=>rw[er]at ho;cases ho
    |some R=>
     rw[er]at ho;cases ho;have isS:(bV kvs (Sum.inr x:Key)).isSome=true:=by
      rcases km.get x with⟨q,_⟩|⟨_,_,_,q,_⟩
      .rw[er]at q;cases q
      .rw[q];rfl
     refine⟨_,rfl,a,C,dx,fs,_,rfl,ha4,T.cls,T.iC,hf.kept,_,rfl,l3,_,0,_,rfl,rfl,aG.of h34,aR (j:=0) rfl,d,kvs,.inr x,rfl,hkd4,rfl,isS,?_⟩;exact k _ ⟨dx,fs,gA kvs (.inr x),by rw[ao (Ne.symm dne)];exact ha4,hf,ae,dne,(km4.wF hkd4).drop,Mv (List.length_filter_le _ _) (by lia)⟩ fun b o hb e=>by rw[ao hb];exact s4 _ _ e
   .rw[if_neg (by simpa using c3)]
    rw[if_neg c3]at ho
    cases er:L.EY word gs with
    |none=>rw[er]at ho;cases ho
    |some r=>
     rw[er]at ho
     cases r with
     |error c=>
      cases ho;exact⟨_,rfl,_,rfl,word,l4,vs',gs,rfl,h4,wz4,.inr ⟨c,er,fun b H' sx=>k b H' (s4.trans sx)⟩⟩
     |ok R=>
      cases ho;refine⟨_,rfl,_,rfl,word,l4,vs',gs,rfl,h4,wz4,.inl ⟨R,er,fun v H5 rv sx=>?_⟩⟩;have hkd5:=sx _ _ hkd4;refine⟨_,rfl,a,C,dx,fs,_,rfl,sx _ _ ha4,T.cls,T.iC,hf.kept,_,rfl,l3,_,0,_,rfl,rfl,aG.of (sx _ _ h34),aR (j:=0) rfl,d,_,rfl,uB.k (k:= .inr x) hkd5 (by lia),?_⟩;refine k _ ⟨dx,fs,putK kvs (.inr x) v,by rw[ao (Ne.symm dne)];exact sx _ _ ha4,hf,ae,dne,((km4.same sx).wF hkd5).put (rv.wF hkd5),?_⟩ fun b o hb e=>by rw[ao hb];exact sx _ _ (s4 _ _ e)
      unfold kB
      split
      .rw[LW];lia
      .rw[LY];exact Mv (Nat.add_le_add_right hm 1) (by decide)
end
section
open PySem L2 PyProof.Rows
theorem C4(x:Str)(ms:List Str):BI (.str x) (ms.map V.str)=decide (x∈ms):=by
 unfold BI;rw[List.any_map,Bool.eq_iff_iff,List.any_eq_true];simp only[decide_eq_true_eq];constructor
 .rintro⟨y,hy,e⟩
  have e:wu (.str y) (.str x)=true:=e;unfold wu at e;have:y=x:=by simpa using e
  exact this▸hy
 .intro h
  refine⟨x,h,?_⟩;show wu (.str x) (.str x)=true;unfold wu;simp
theorem Bx{n:Int}(hn:n<1000){r q:List (Int×Int)}(gr:Good n r)(gq:Good n q)(h:jX r=jX q):r=q:=by
 have b:∀{z:List (Int×Int)},Good n z->∀e∈z,0<=e.1/\0<=e.2:=fun g e he=>by have:=g e he;lia
 by_cases hr:r=[]
 .by_cases hq:q=[]
  .rw[hr,hq]
  .exact absurd (h.symm.trans (by rw[hr];rfl)) (jB hq (b gq))
 .by_cases hq:q=[]
  .exact absurd (h.trans (by rw[hq];rfl)) (jB hr (b gr))
  .have e:=iQ hr (b gr)
   rw[h,iQ hq (b gq)]at e;clear h hr hq
   induction r generalizing q with
   |nil=>cases q with
    |nil=>rfl
    |cons _ _=>cases e
   |cons x r ih=>cases q with
    |nil=>cases e
    |cons y q=>
     rw[L9,L9]at e;injection e with e1 e2
     have gx:=gr x Mg;have gy:=gq y Mg;have p:=y3 (a:=y.1) (b:=y.2) (by lia) (by lia);rw[show iE (y.1,y.2)=iE (x.1,x.2)from e1,y3 (by lia) (by lia)]at p;injection p with p1 p2
     injection p2 with _ p3
     rw[ih (fun e he=>gr e (Mh _ he)) (fun e he=>gq e (Mh _ he)) e2,
      Prod.ext (nO (by lia) (by lia) (by lia) (by lia) p1) (nO (by lia) (by lia) (by lia) (by lia) p3)]
end
theorem dN(s:String):PyData.strOk (LV s)=true:=by
 unfold PyData.strOk;rw[Str.ofString_eq_toList];rw[Array.all_eq_true_iff_forall_mem];intro c hc;have hc:c∈List.map Char.toNat s.toList:=by simpa using hc
 obtain⟨ch,_,rfl⟩:=List.mem_map.mp hc;have:=ch.valid;refine decide_eq_true ?_;show ch.val.toNat<1114112;rcases this with h|⟨_,h⟩
 .exact Nat.lt_trans h (by decide)
 .exact h
def IE(n:Int)(rs:List (List Int)):Prop:=(∀r∈rs,r≠[]/\∀x∈r,1<=x/\x<=n)/\rs.flatten.Nodup
instance{n:Int}{rs:List (List Int)}:Decidable (IE n rs):=by unfold IE;infer_instance
def nx:List (List Int)->Int->Int
 |[],x=>x
 |r::rs,x=>if x∈r then vf r x else nx rs x
def vD(n:Int)(rs:List (List Int)):List Int:=(eB 1 (n+1)).map (nx rs)
theorem FG:∀{rs:List (List Int)}{r:List Int}{j:Nat}{x:Int},rs.flatten.Nodup->r∈rs->r[j]?=some x->nx rs x=r.getD ((j+1)%r.length) 0
 |[],_,_,_,_,h,_=>by cases h
 |a::rs,r,j,x,nd,h,hj=>by
  rw[List.flatten_cons,List.nodup_append]at nd;obtain⟨na,nr,dis⟩:=nd;show(if x∈a then vf a x else nx rs x)=_;rcases List.mem_cons.mp h with rfl|h
  .rw[if_pos (Mf hj),xS na hj]
  .have:x∉a:=fun z=>dis x z x (List.mem_flatten.mpr ⟨r,h,Mf hj⟩) rfl
   rw[if_neg this,FG nr h hj]
theorem tO(n:Int)(rs:List (List Int)):(vD n rs).length=n.toNat:=by
 unfold vD;rw[LW,a8];lia
theorem Ew{n:Int}{rs:List (List Int)}{x:Int}(h1:1<=x)(h2:x<=n):ld (vD n rs) x=nx rs x:=by
 unfold ld vD;rw[Me,LX,gJ (by lia)];show nx rs (1+((x-1).toNat:Int))=nx rs x;congr 1;lia
section
open PySem L2 PyProof.Rows
def BN(r:List Int):Prop:=r≠[]/\∀i∈r,0<=i/\i<10^9
def Ao(x:Str)(r:List Int):Prop:=x=lX r/\BN r
theorem nv:∀{r q:List Int},(∀i∈r,0<=i/\i<10^9)->(∀i∈q,0<=i/\i<10^9)->r.map aM=q.map aM->r=q
 |[],[],_,_,_=>rfl
 |[],_::_,_,_,h=>by cases h
 |_::_,[],_,_,h=>by cases h
 |a::r,b::q,h1,h2,h=>by
  rw[L9,L9]at h;injection h with h3 h4
  have ha:=h1 a Mg;have hb:=h2 b Mg;rw[nO ha.1 hb.1 (by lia) (by lia) h3,nv (fun i hi=>h1 i (Mh _ hi)) (fun i hi=>h2 i (Mh _ hi)) h4]
theorem Ao.split {x:Str}{r:List Int}(h:Ao x r):Txt.split x (LV " ")=r.map aM:=by
 rw[h.1];exact uu h.2.1 fun i hi=>(h.2.2 i hi).1
theorem Ao.uniq {x:Str}{r q:List Int}(h:Ao x r)(g:Ao x q):r=q:=nv h.2.2 g.2.2 (h.split.symm.trans g.split)
theorem pR:∀{S T:List (List Int)},(∀r∈S,BN r)->(∀r∈T,BN r)->S.map lX=T.map lX->S=T
 |[],[],_,_,_=>rfl
 |[],_::_,_,_,h=>by cases h
 |_::_,[],_,_,h=>by cases h
 |a::r,b::q,h1,h2,h=>by
  rw[L9,L9]at h;injection h with h3 h4
  rw[Ao.uniq ⟨rfl,h1 a Mg⟩ ⟨h3,h2 b Mg⟩,pR (fun i hi=>h1 i (Mh _ hi)) (fun i hi=>h2 i (Mh _ hi)) h4]
end
section
open PySem L2 PyProof.Rows
theorem Gm(x:Str)(lo:Option Int){j:Int}(h:0<=j):Txt.slice x lo (some j)=Txt.slice x lo (some (min j (x.length:Int))):=by
 have e:MS.Str.strSliceIndices lo (some j) 1 x.length=MS.Str.strSliceIndices lo (some (min j (x.length:Int))) 1 x.length:=by
  unfold MS.Str.strSliceIndices;dsimp only;rw[if_neg (by lia:¬j<0),if_neg (by lia:¬min j (x.length:Int)<0)];congr 1;simp only[show(1:Int)>0 from by decide,if_true];lia
 unfold Txt.slice;rw[e]
theorem Gv(x:Str)(hi:Option Int){i:Int}(h:0<=i):Txt.slice x (some i) hi=Txt.slice x (some (min i (x.length:Int))) hi:=by
 have e:MS.Str.strSliceIndices (some i) hi 1 x.length=MS.Str.strSliceIndices (some (min i (x.length:Int))) hi 1 x.length:=by
  unfold MS.Str.strSliceIndices;dsimp only;rw[if_neg (by lia:¬i<0),if_neg (by lia:¬min i (x.length:Int)<0)];congr 1;simp only[show(1:Int)>0 from by decide,if_true];lia
 unfold Txt.slice;rw[e]
theorem AL(x:Str){j:Int}(h:0<=j):signs (Txt.slice x none (some j))=(signs x).take j.toNat:=by
 have l:=bB x;rw[Gm x none h];show signs (StrLaws.sliceText x _ _)=_;rw[StrLaws.sliceText_to ⟨by lia,by show _<=((signs x).length:Int);lia⟩];show List.take _ (List.drop 0 (signs x))=_;rw[List.drop_zero];by_cases c:j<=x.length
 .rw[Int.min_eq_left c,Int.sub_zero]
 .rw[Int.min_eq_right (by lia),Mi (by lia),Mi (by lia)]
theorem vT(x:Str){i:Int}(h:0<=i):signs (Txt.slice x (some i) none)=(signs x).drop i.toNat:=by
 have l:=bB x;rw[Gv x none h];show signs (StrLaws.sliceText x _ _)=_;rw[StrLaws.sliceText_from ⟨by lia,by show _<=((signs x).length:Int);lia⟩];show List.take ((((signs x).length:Nat):Int)-_).toNat (List.drop _ (signs x))=_;by_cases c:i<=x.length
 .rw[Int.min_eq_left c,Mi (by rw[List.length_drop];lia)]
 .rw[Int.min_eq_right (by lia),List.drop_eq_nil_of_le (by lia:(signs x).length<=i.toNat),List.drop_eq_nil_of_le (by lia),List.take_nil]
theorem zU(x:Str){i:Int}(h:0<=i):(Txt.slice x (some i) none).length=x.length-i.toNat:=by
 rw[←bB,vT x h,List.length_drop,bB]
end
section
open PySem L2 PyProof.Rows
theorem vL{n:Int}{xs:List Int}(o:Ord n xs):vD n (aX n xs)=xs:=by
 have R:=uc o;refine yx (n:=n) (tO n _) o.length fun x a b=>?_;rw[Ew a b];obtain⟨r,hr,hx⟩:=List.mem_flatten.mp (nP o a b);obtain⟨j,hj⟩:=List.mem_iff_getElem?.mp hx;rw[FG R.nd hr hj];obtain⟨_,_,c3⟩:=(R.HW r hr).2 j x hj;rw[Me,c3];rfl
def uw(d:PyData)(n:Int)(xs:List Int):Prop:=d= .str (jo (aX n xs))/\Ord n xs/\1<=n/\n<=12
theorem qQ{n:Int}{xs:List Int}(o:Ord n xs)(n1:1<=n)(n12:n<=12):aX n xs≠[]/\(∀r∈aX n xs,BN r)/\(∀r∈aX n xs,∀i∈r,1<=i/\i<=n)/\((aX n xs).flatten.length:Int)=n:=by
 obtain⟨f1,f2,_⟩:=jU o;refine⟨fun z=>?_,fun r hr=>⟨(f2 r hr).1,fun i hi=>by have:=(f2 r hr).2.2 i hi;lia⟩,fun r hr=>(f2 r hr).2.2,by lia⟩;rw[z]at f1;simp at f1;lia
theorem uw.split {d:PyData}{n:Int}{xs:List Int}{x:Str}(h:uw d n xs)(e:d= .str x):Txt.split (Txt.slice x (some 1) (some (-1))) (LV ")(")=(aX n xs).map lX/\(∀r∈aX n xs,BN r):=by
 obtain⟨h1,o,n1,n12⟩:=h;obtain⟨a,b,_,_⟩:=qQ o n1 n12;rw[e]at h1;injection h1 with h1
 rw[h1];exact⟨rF a fun r hr i hi=>((b r hr).2 i hi).1,b⟩
theorem uw.uniq {d:PyData}{n m:Int}{xs ys:List Int}(h:uw d n xs)(g:uw d m ys):xs=ys/\n=m:=by
 obtain⟨e1,b1⟩:=h.split h.1;obtain⟨e2,b2⟩:=g.split h.1;have e:=pR b1 b2 (e1.symm.trans e2);have l1:=(qQ h.2.1 h.2.2.1 h.2.2.2).2.2.2;have l2:=(qQ g.2.1 g.2.2.1 g.2.2.2).2.2.2;rw[e]at l1;have nm:n=m:=by lia
 subst nm;exact⟨by rw[←vL h.2.1,e,vL g.2.1],rfl⟩
end
section
open PySem L2 PyProof.Rows
def Ef(c d k:Nat):Nat:=if k=c then d else k
theorem nW(c d:Nat):∀{l:List Nat},c∉l->l.map (Ef c d)=l
 |[],_=>rfl
 |k::r,h=>by
  rw[L9,nW c d (fun z=>h (Mh _ z))];congr 1;exact if_neg fun(z:k=c)=>h (by rw[z];exact Mg)
theorem sC(c d:Nat):∀{ps:List (List Nat)},(∀p∈ps,c∉p)->(glue c ps).map (Ef c d)=glue d ps
 |[],_=>rfl
 |[p],h=>nW c d (h p Mg)
 |p::q::r,h=>by
  have ih:=sC c d (ps:=q::r) fun a ha=>h a (Mh _ ha);have e1:glue c (p::q::r)=p++c::glue c (q::r):=rfl;have e2:glue d (p::q::r)=p++d::glue d (q::r):=rfl;rw[e1,e2,L7,L9,ih,nW c d (h p Mg)];congr 2;exact if_pos rfl
theorem qW(x:Str)(c d:Nat):signs (Txt.replace x ⟨#[c]⟩ ⟨#[d]⟩)=(signs x).map (Ef c d):=by
 have e:=StrLaws.join_split x ⟨#[c]⟩;have f:=StrLaws.split_free x c;rw[StrLaws.replace_one,cG]
 conv=>rhs;rw[←e]
 rw[cG,sC];intro p hp;obtain⟨q,hq,rfl⟩:=List.mem_map.mp hp;exact f q hq
theorem Ih:LV " " =⟨#[32]⟩:=by decide+kernel
theorem Kq:LV "," =⟨#[44]⟩:=by decide+kernel
def cm(x:Str):Str:=Txt.replace x (LV " ") (LV ",")
def bl(x:Str):Str:=Txt.replace x (LV ",") (LV " ")
theorem dG(x:Str):signs (cm x)=(signs x).map (Ef 32 44):=by unfold cm;rw[Ih,Kq];exact qW x 32 44
theorem BF(x:Str):signs (bl x)=(signs x).map (Ef 44 32):=by unfold bl;rw[Ih,Kq];exact qW x 44 32
theorem HF(x:Str):(cm x).length=x.length:=by rw[←bB,dG,LW,bB]
theorem yI{c d:Nat}:∀{l:List Nat},d∉l->(l.map (Ef c d)).map (Ef d c)=l
 |[],_=>rfl
 |k::r,h=>by
  rw[L9,L9,yI (fun z=>h (Mh _ z))];congr 1;have:k≠d:=fun(z:k=d)=>h (by rw[z];exact Mg);unfold Ef;by_cases e:k=c
  .rw[if_pos e,if_pos rfl,e]
  .rw[if_neg e,if_neg this]
theorem Fq{x:Str}(h:44∉signs x):bl (cm x)=x:=bT (by rw[BF,dG,yI h])
theorem BA(x y:Str):cm (x++y)=cm x++cm y:=bT (by rw[dG,aZ,aZ,L7,dG,dG])
theorem tQ{x:Str}(h:32∉signs x):cm x=x:=bT (by rw[dG,nW _ _ h])
theorem E3(x:Str):32∉signs (cm x):=by
 rw[dG];intro z;obtain⟨k,_,e⟩:=List.mem_map.mp z;unfold Ef at e
 split at e
 .cases e
 .rename_i h;exact h e
theorem yG{ts:List Str}(h:∀t∈ts,32∉signs t):cm (Str.join (LV " ") ts)=Str.join (LV ",") ts:=by
 refine bT ?_;rw[dG,Ih,Kq,cG,cG,sC];intro p hp;obtain⟨q,hq,rfl⟩:=List.mem_map.mp hp;exact h q hq
theorem Hx:∀(ts:List Str),cm (Str.join (LV "") ts)=Str.join (LV "") (ts.map cm):=fun ts=>by
 refine bT ?_;rw[dG,hJ,hJ,List.map_flatten,Md,Md];congr 1;exact List.map_congr_left fun t _=>(dG t).symm
def fM(R:List (Int×Int)):Str:=if R=[]then LV "none"else Str.join (LV ",") (R.map iE)
theorem tH{R:List (Int×Int)}(h:∀e∈R,0<=e.1/\0<=e.2):cm (jX R)=fM R:=by
 unfold jX fM;by_cases c:R=[]
 .rw[if_pos (by rw[c];rfl),if_pos c]
  exact tQ (by decide+kernel)
 .rw[if_neg (by intro z;exact c (List.length_eq_zero_iff.mp z)),if_neg c]
  refine yG fun p hp=>?_;obtain⟨e,he,rfl⟩:=List.mem_map.mp hp;intro z;have:=ex_free (h e he).1 (h e he).2 32 z;lia
theorem Dq{R:List (Int×Int)}(h:∀e∈R,0<=e.1/\0<=e.2):44∉signs (jX R):=by
 unfold jX
 split
 .decide+kernel
 .rw[Ih,cG]
  intro z;have key:∀{ps:List (List Nat)},44∈glue 32 ps->∃p∈ps,44∈p:=by
   intro ps
   induction ps with
   |nil=>intro z;cases z
   |cons p r ih=>
    intro z
    cases r with
    |nil=>exact⟨p,Mg,z⟩
    |cons q r=>
     have e1:glue 32 (p::q::r)=p++32::glue 32 (q::r):=rfl;rw[e1]at z;rcases List.mem_append.mp z with z|z
     .exact⟨p,Mg,z⟩
     .rcases List.mem_cons.mp z with z|z
      .cases z
      .obtain⟨a,ha,q⟩:=ih z
       exact⟨a,Mh _ ha,q⟩
  obtain⟨p,hp,q⟩:=key z;obtain⟨s,hs,rfl⟩:=List.mem_map.mp hp;obtain⟨e,he,rfl⟩:=List.mem_map.mp hs;have:=ex_free (h e he).1 (h e he).2 44 q;lia
theorem Du{R:List (Int×Int)}(h:∀e∈R,0<=e.1/\0<=e.2):bl (fM R)=jX R:=by rw[←tH h];exact Fq (Dq h)
theorem yS{R:List (Int×Int)}(h:∀e∈R,0<=e.1/\0<=e.2):32∉signs (fM R):=by rw[←tH h];exact E3 _
def sY(r:List Int):Str:=Str.join (LV ",") (r.map aM)
theorem Cw{r:List Int}(h:∀x∈r,0<=x):cm (lX r)=sY r:=yG fun p hp=>by
 obtain⟨x,hx,rfl⟩:=List.mem_map.mp hp;exact ic (h x hx) (by lia)
def mj(rs:List (List Int)):Str:=Str.join (LV "") (rs.map fun r=>LV "(" ++sY r++LV ")")
theorem yQ{rs:List (List Int)}(h:∀r∈rs,∀x∈r,0<=x):cm (jo rs)=mj rs:=by
 unfold jo mj;rw[Hx,Md];congr 1;refine List.map_congr_left fun r hr=>?_;show cm (LV "(" ++lX r++LV ")")=_;rw[BA,BA,Cw (h r hr),tQ (by decide+kernel),tQ (by decide+kernel)]
theorem C5{rs:List (List Int)}(h:∀r∈rs,∀x∈r,0<=x):44∉signs (jo rs):=by
 unfold jo;rw[hJ];intro z;obtain⟨l,hl,z⟩:=List.mem_flatten.mp z;obtain⟨t,ht,rfl⟩:=List.mem_map.mp hl;obtain⟨r,hr,rfl⟩:=List.mem_map.mp ht;rw[lC]at z;rcases List.mem_cons.mp z with z|z
 .cases z
 .rcases List.mem_append.mp z with z|z
  .have:=yB (h r hr) 44 z
   lia
  .cases List.mem_singleton.mp z
theorem D6{rs:List (List Int)}(h:∀r∈rs,∀x∈r,0<=x):bl (mj rs)=jo rs:=by rw[←yQ h];exact Fq (C5 h)
theorem En{rs:List (List Int)}(h:∀r∈rs,∀x∈r,0<=x):32∉signs (mj rs):=by rw[←yQ h];exact E3 _
theorem dX{ts:List Str}(ne:ts≠[])(h:∀t∈ts,32∉signs t):Txt.split (Str.join (LV " ") ts) (LV " ")=ts:=by
 rw[Ih];exact fF ne h
end
end Sw
namespace L2
open PySem PySem.Spec PyProof.Rows
def Jo(x:Str):It:=⟨fun i _=>i<x.length,fun i H v H'=>H'=H/\∃c,x.cps[i]?=some c/\v= .str ⟨#[c]⟩,fun i _=>x.length<=i⟩
theorem zg{P:MD}{w:ME}{K:W.Frag}{tg:Expr}(it:MB)(x:Str)(t:Tok):
  Turn P w K tg (Jo x) [it] it (fun i h=>h.IsStrIter it "str_ascii_iterator" x t i)where
 mem:=by simp
 obj:=fun i h st b hb=>by
  have e:b=it:=by simpa using hb
  subst e;obtain⟨o,e,c,d⟩:=st;exact⟨o,e,fun v z=>by rw[d]at z;cases z⟩
 keep:=fun i h h' st k=>by
  obtain⟨o,e,c,d⟩:=st;exact⟨o,k it (by simp) o e,c,d⟩
 item:=by
  intro X hP hw hK hc i pins s σ H E I hf st hg;subst hP hw hK;have hi:i<x.cps.size:=hg;obtain⟨f0,f1,f2,f3,f4,f5⟩:=hf it (by simp);refine wpAny_pyNext_ascii_item st (c:=x.cps[i]) (by simp[hi]) fun h' st' sb=>?_;have I1:Inv X pins σ H {s with heap:=h',toks:=s.toks+1}:=I.turned (fun b o hb e=>(sb.2 b hb).trans e) f0 f1 f3 f4 f5;obtain⟨o,e,c,d⟩:=id st';exact⟨_,rfl,rP (s:={s with heap:=h',toks:=s.toks+1}) e c d (by decide) ⟨.str ⟨#[x.cps[i]]⟩,H,I1,⟨_,rfl⟩,⟨rfl,_,by simp[hi],rfl⟩,st',fun b hb=>(hf b hb).1⟩⟩
 done:=by
  intro X hP hw hK hc i pins s σ H E I hf st hg;subst hP hw hK;have hi:x.cps.size<=i:=hg;obtain⟨f0,f1,f2,f3,f4,f5⟩:=hf it (by simp);exact wpAny_pyNext_ascii_end (I.ok.hd hc) st (by simp;lia) fun h' eb=>⟨rfl,I.turned (t':=s.toks) (fun b o hb e=>eb b o hb e) f0 f1 f3 f4 f5⟩
 self:=fun _ _ _ _ _ st h=>wpAny_pyIter_striter_ascii st h
theorem zO{P:MD}{w:ME}{K:W.Frag}{tg:Expr}(it:MB)(x:Str)(t:Tok):
  Turn P w K tg (Jo x) [it] it (fun i h=>h.IsStrIter it "str_iterator" x t i)where
 mem:=by simp
 obj:=fun i h st b hb=>by
  have e:b=it:=by simpa using hb
  subst e;obtain⟨o,e,c,d⟩:=st;exact⟨o,e,fun v z=>by rw[d]at z;cases z⟩
 keep:=fun i h h' st k=>by
  obtain⟨o,e,c,d⟩:=st;exact⟨o,k it (by simp) o e,c,d⟩
 item:=by
  intro X hP hw hK hc i pins s σ H E I hf st hg;subst hP hw hK;have hi:i<x.cps.size:=hg;obtain⟨f0,f1,f2,f3,f4,f5⟩:=hf it (by simp);refine wpAny_pyNext_wide_item st (c:=x.cps[i]) (by simp[hi]) fun h' st' sb=>?_;have I1:Inv X pins σ H {s with heap:=h',toks:=s.toks+1}:=I.turned (fun b o hb e=>(sb.2 b hb).trans e) f0 f1 f3 f4 f5;obtain⟨o,e,c,d⟩:=id st';exact⟨_,rfl,rP (s:={s with heap:=h',toks:=s.toks+1}) e c d (by decide) ⟨.str ⟨#[x.cps[i]]⟩,H,I1,⟨_,rfl⟩,⟨rfl,_,by simp[hi],rfl⟩,st',fun b hb=>(hf b hb).1⟩⟩
 done:=by
  intro X hP hw hK hc i pins s σ H E I hf st hg;subst hP hw hK;have hi:x.cps.size<=i:=hg;obtain⟨f0,f1,f2,f3,f4,f5⟩:=hf it (by simp);exact wpAny_pyNext_wide_end (I.ok.hd hc) st (by simp;lia) fun h' eb=>⟨rfl,I.turned (t':=s.toks) (fun b o hb e=>eb b o hb e) f0 f1 f3 f4 f5⟩
 self:=fun _ _ _ _ _ st h=>wpAny_pyIter_striter_wide st h
def Kh(te:TE):TI:=fun σ H R=>te σ H fun v H1=>∃x,v= .str x/\R (Jo x) H1
theorem Gj{X:Cx}{e tg:Expr}{te:TE}(he:PE X e te):PI X tg e (Kh te):=by
 intro pins s σ H R I h;refine aV (he pins s σ H _ I h) fun u s2 ⟨v,H2,I2,rv,x,ev,hR⟩=>?_;subst ev;obtain⟨t,rfl⟩:=rv;have fp:∀b∈[s2.heap.objs.size],ik X pins H2 b:=fun b hb=>by
  have e:b=s2.heap.objs.size:=by simpa using hb
  subst e;exact I2.pZ (Ms _) (I2.bc.fresh (Ms _))
 cases ha:x.cps.all (·<128)
 .exact wpAny_pyIter_wide ha ⟨s2.heap.objs.size,[s2.heap.objs.size],_,_,H2,rfl,I2.kept (t':=s2.toks) fun b o e=>MN.get?_push_of_some _ e,zO _ x t,⟨_,MN.get?_push_size _ rfl,rfl,rfl⟩,fp,hR⟩
 .exact wpAny_pyIter_ascii ha ⟨s2.heap.objs.size,[s2.heap.objs.size],_,_,H2,rfl,I2.kept (t':=s2.toks) fun b o e=>MN.get?_push_of_some _ e,zg _ x t,⟨_,MN.get?_push_size _ rfl,rfl,rfl⟩,fp,hR⟩
theorem Eb{ix:List (Option Nat)}{tc:TT}{te:TE}{σ:St}{Q:VK}{H:Hp}{x:Str}{k:Nat}(Pv:Nat->List V->St->Hp->Prop)(hn:x.length<=1000000)(h0:Pv 0 [] (dA ix σ) H)
  (hlen:∀i ys σ H,Pv i ys σ H->ys.length<=i)
  (hs:∀i ys σ H c(R:St->List V->Hp->Prop),x.cps[i]?=some c->Pv i ys σ H->(∀σ2 ys2 H5,Pv (i+1) ys2 σ2 H5->R σ2 ys2 H5)->
   tc (σ.set k (some (.str ⟨#[c]⟩))) H fun b H4=>if b=true then te (σ.set k (some (.str ⟨#[c]⟩))) H4 fun v H5=>R (σ.set k (some (.str ⟨#[c]⟩))) (ys++[v]) H5 else R (σ.set k (some (.str ⟨#[c]⟩))) ys H4)
  (hd:∀ys σ' H' p,Pv x.length ys σ' H'->H' p=none->Q (.ref p) (upd H' p (.lst ys))):iW ix (cu k) tc te σ Q (Jo x) H:=by
 refine iD Pv hn h0 (fun i ys σ H hi p=>hi) (fun ys σ H p=>Ms _) hlen (fun i ys σ H v H2 R hi p y r=>?_) hd;obtain⟨rfl,c,hc,rfl⟩:=y;unfold cu;exact hs i ys σ _ c R hc p r
theorem Iw{ix:List (Option Nat)}{te:TE}{σ:St}{Q:VK}{H:Hp}{x:Str}{k:Nat}(Pv:Nat->List V->St->Hp->Prop)(hn:x.length<=1000000)(h0:Pv 0 [] (dA ix σ) H)
  (hlen:∀i ys σ H,Pv i ys σ H->ys.length<=i)
  (hs:∀i ys σ H c(R:St->List V->Hp->Prop),x.cps[i]?=some c->Pv i ys σ H->(∀σ2 ys2 H5,Pv (i+1) ys2 σ2 H5->R σ2 ys2 H5)->
   te (σ.set k (some (.str ⟨#[c]⟩))) H fun v H5=>R (σ.set k (some (.str ⟨#[c]⟩))) (ys++[v]) H5)
  (hd:∀ys σ' H' p,Pv x.length ys σ' H'->H' p=none->Q (.ref p) (upd H' p (.lst ys))):iW ix (cu k) gZ te σ Q (Jo x) H:=by
 refine Eb Pv hn h0 hlen (fun i ys σ H c R hc p r=>?_) hd;unfold gZ;simp only[if_true];exact hs i ys σ H c R hc p r
def KO:R2:=fun x y H Q=>∃a b,x= .str a/\y= .str b/\Q (.bl (Txt.contains b a)) H
theorem FU{X:Cx}:j0 X (compareOp .In) KO:=by
 intro pins s σ H x y v u Q I rx ry h;obtain⟨a,b,rfl,rfl,q⟩:=h;obtain⟨t,rfl⟩:=rx;obtain⟨t',rfl⟩:=ry;exact P.in_str ⟨.bl _,H,I,rfl,q⟩
end L2
namespace Sw
open PySem L2
def BJ(n:Int)(d:PyData)(row:List (Int×Int)):Prop:=d= .str (jX row)/\Good n row/\row.length<=60
def isNm(w:Str):Prop:=1<=w.length/\w.length<=8/\∀c∈signs w,97<=c/\c<=122
theorem wL(c:Nat):Txt.contains (LV "abcdefghijklmnopqrstuvwxyz") ⟨#[c]⟩=decide (97<=c/\c<=122):=by
 unfold Txt.contains;rw[StrLaws.found_one,Bool.eq_iff_iff,decide_eq_true_eq,decide_eq_true_eq];have e:(LV "abcdefghijklmnopqrstuvwxyz").cps.toList=List.range' 97 26:=by decide+kernel
 rw[e,List.mem_range'_1];lia
open Classical in
noncomputable def cL(n:Int)(d w:Str):Option Wd:=
 if d=LV "number"then(if h:∃i:Int,w=aM i/\0<=i/\i<10^9 then some (.num h.choose)else none)
 else if d=LV "row"then(if h:∃R,BJ n (.str (bl w)) R then some (.row h.choose)else none)
 else if d=LV "order"then(if h:∃xs,uw (.str (bl w)) n xs then some (.ord h.choose)else none)
 else if isNm w then some (.txt w)else none
theorem fJ{n:Int}{w:Str}(h:isNm w):cL n (LV "name") w=some (.txt w):=by
 unfold cL;rw[if_neg (by decide+kernel),if_neg (by decide+kernel),if_neg (by decide+kernel),if_pos h]
theorem lA{n:Int}{w:Str}(h:isNm w):cL n (LV "new") w=some (.txt w):=by
 unfold cL;rw[if_neg (by decide+kernel),if_neg (by decide+kernel),if_neg (by decide+kernel),if_pos h]
theorem sP{n i:Int}(h0:0<=i)(h9:i<10^9):cL n (LV "number") (aM i)=some (.num i):=by
 unfold cL;have h:∃j:Int,aM i=aM j/\0<=j/\j<10^9:=⟨i,rfl,h0,h9⟩;rw[if_pos rfl,dif_pos h];have:=h.choose_spec;rw[nO (a:=h.choose) (b:=i) this.2.1 h0 (by lia) (by lia) this.1.symm]
theorem vH{n:Int}{w:Str}{R:List (Int×Int)}(hn:n<1000)(h:BJ n (.str (bl w)) R):cL n (LV "row") w=some (.row R):=by
 unfold cL;have hx:∃R',BJ n (.str (bl w)) R':=⟨R,h⟩;rw[if_neg (by decide+kernel),if_pos rfl,dif_pos hx];have q:=hx.choose_spec;have q1:=q.1.symm.trans h.1;injection q1 with q1
 rw[Bx hn q.2.1 h.2.1 q1]
theorem De{n:Int}{R:List (Int×Int)}(hn:n<1000)(g:Good n R)(l:R.length<=60):cL n (LV "row") (fM R)=some (.row R):=
 vH hn ⟨by rw[Du fun e he=>by have:=g e he;lia],g,l⟩
def Jq:Sp:=fun vs H Q _=>∃t:Str,vs=[.str t]/\t.length<=100000/\Q (.str (cm t)) H
def ET(C:MB):Sp:=fun vs H Q E=>∃x:Str,vs=[.str x]/\x.length<=1000/\(isNm x->∀v H',ah H H'->Q v H')/\(¬isNm x->∀H',ah H H'->E (.ref C) none H')
structure IM(mg:Str->Option MA)(K:W.Frag)(u8 ul:MA)(C:MB):Prop extends T1 mg K where
 jg:mg "MOST_LETTERS" =some u8
 jE:RelV (.int 8) u8
 qP:mg "LETTERS" =some ul
 qR:RelV (.str (LV "abcdefghijklmnopqrstuvwxyz")) ul
 cz:mg "NoText" =some (.ref C)
 fK:oH K C
def GZ(L:cf):Sp:=fun vs H Q E=>L.okd (LV "number")=true/\sT vs H Q E
def FQ(L:cf):Sp:=fun vs H Q E=>L.okd (LV "row")=true/\rJ vs H Q E
def AV(L:cf):Sp:=fun vs H Q _=>L.okd (LV "order")=true/\∃(n:Int)(w':Str)(xs:List Int),vs=[.str (bl w')]/\cL n (LV "order") w'=some (.ord xs)/\∀t H',H' t=some (.tup (xs.map V.int))->n=xs.length->ah H H'->Q (.ref t) H'
structure JJ(P:MD)(w:ME)(K:W.Frag)(mg:Str->Option MA)(base:MN)(L:cf):Prop extends T1 mg K where
 bM:kh P w K mg base "read_number" 1 ["word"] (GZ L)
 oR:kh P w K mg base "read_row" 7 ["n","text"] (FQ L)
 kM:kh P w K mg base "read_order" 5 ["text"] (AV L)
 lT:kh P w K mg base "check_name" 1 ["word"] (ET L.CT)
 cz:mg "NoText" =some (.ref L.CT)
 fK:oH K L.CT
section
variable{P:MD}{w:ME}{K:W.Frag}{mg:Str->Option MA}{base:MN}{u8 ul:MA}{C:MB}{L:cf}
theorem vK:aF ["text"] ["text"] (au (top 94)):=⟨rfl,rfl,rfl,by decide+kernel,rfl,by decide+kernel,by decide+kernel⟩
theorem IG{f:MB}{fd:MM}(F:dJ K "one_word" "one_word" (top 94) f fd):iZ P w K mg base (lW P w) 1 f fd ["text"] Jq:=by
 refine F.Lo vK (fun vs H Q E h=>?_) (fun cdv A outer s H vs Q E hr h=>?_)
 .obtain⟨t,rfl,_⟩:=h
  rfl
 .obtain⟨t,rfl,ht,k⟩:=h
  exact⟨_,(nJ (tF (tP (by decide+kernel) (by decide+kernel) (QE.of (pv 0)) ⟨rfl,rfl,rfl,rfl⟩))),_,rfl,t,rfl,ht,k⟩
theorem p8:aF ["word"] ["word"] (au (top 96)):=⟨rfl,rfl,rfl,by decide+kernel,rfl,by decide+kernel,by decide+kernel⟩
theorem GA{f:MB}{fd:MM}(F:dJ K "check_name" "check_name" (top 96) f fd)(T:IM mg K u8 ul C):aS P w K mg base (lW P w) 1 f fd ["word"] (ET C):=by
 refine F.HY p8 (fun vs H Q E h=>?_) (fun cdv A outer s H vs Q E hr h=>?_)
 .obtain⟨x,rfl,_⟩:=h
  rfl
 .obtain⟨x,rfl,xl,kY,kN⟩:=h
  refine⟨_,(aj (aQ (PW.pt (j5 (eL (u4 vS vS ai (ar fZ rfl T.bP (by decide+kernel) (aa (pv 0) af)) (di rfl T.jg T.jE))) (jz (eL (eI (ar (mJ (K:=K) rfl rfl) rfl T.y8 (by decide+kernel) (aa (bJ (N:=(["letter"]:List Str)) (ix:=([none]:List (Option Nat))) (aW rfl rfl) rfl (Gj (pv 0)) (fun _ _ _ _=>(aC (i:=0) (show List.Nodup (["letter"]:List Str)from by decide+kernel) rfl (Or.inl rfl))) (fun _ _ _ _=>bg) (fun _ _ _ _=>(lM FU (pv 0) (di rfl T.qP T.qR) rfl))) af))))))) (aj (gB wX T.fK rfl rfl T.cz (aa az af))) aB)),?_⟩;have big:(10000000:Nat)<=MG:=by decide
  have one:1<=MG:=by decide
  have no:¬isNm x->(1:Nat)<=MG/\E (.ref C) none H:=fun z=>⟨one,kN z H (ah.refl _)⟩;refine⟨_,rfl,x,rfl,by lia,_,_,rfl,rfl,_,rfl,?_⟩;by_cases c1:1<=x.length
  case neg=>
   rw[if_neg (by rw[decide_eq_true_eq];lia)];exact⟨_,rfl,no fun z=>c1 z.1⟩
  rw[if_pos (by rw[decide_eq_true_eq];lia)];refine⟨_,_,rfl,rfl,_,rfl,?_⟩;by_cases c2:x.length<=8
  case neg=>
   rw[decide_eq_false (by lia)];exact no fun z=>c2 z.2.1
  rw[decide_eq_true (by lia)];refine⟨_,rfl,x,rfl,?_⟩;refine Iw (fun i ys σ' H'=>H'=H/\(∃v0,σ'=[v0])/\∃bs:List Bool,ys=bs.map V.bl/\bs=((signs x).take i).map fun c=>decide (97<=c/\c<=122)) (by lia) ⟨rfl,⟨none,rfl⟩,[],rfl,rfl⟩ (fun i ys σ' H' ⟨_,_,bs,e1,e2⟩=>by
   rw[e1,LW,e2,LW,Ma];lia) (fun i ys σ' H' c R hc ⟨eH,⟨v0,e0⟩,bs,e1,e2⟩ r=>?_) (fun ys σ' H' l ⟨eH,_,bs,e1,e2⟩ fl=>?_)
  .subst e0
   refine⟨_,rfl,_,_,rfl,rfl,r _ _ _ ⟨eH,⟨_,rfl⟩,bs++[decide (97<=c/\c<=122)],?_,?_⟩⟩
   .rw[e1,L7,wL]
    rfl
   .have hs:(signs x)[i]?=some c:=by unfold signs;simpa using hc
    rw[e2,Mq,hs,L7];rfl
  .subst eH
   subst e1;refine⟨l,bs,rfl,aG.of ae,_,rfl,?_⟩;have e3:bs.all id=true↔∀c∈signs x,97<=c/\c<=122:=by
    rw[e2,Mi (by rw[bB];exact Ms _),List.all_eq_true];simp
   cases e4:bs.all id with
   |true=>exact kY ⟨c1,c2,e3.mp e4⟩ _ _ (ah.new fl)
   |false=>exact⟨one,kN (fun z=>by rw[e3.mpr z.2.2]at e4;cases e4) _ (ah.new fl)⟩
theorem lH:aF ["n","due","word","order"] ["n","due","word"] (au (top 97)):=⟨rfl,rfl,rfl,by decide+kernel,rfl,by decide+kernel,by decide+kernel⟩
theorem Jn{f:MB}{fd:MM}(F:dJ K "read_word" "read_word" (top 97) f fd)(hL:L.Eh=cL)(T:JJ P w K mg base L):aS P w K mg base (lW P w) 9 f fd ["n","due","word"] (Ji L):=by
 refine F.HY lH (fun vs H Q E h=>?_) (fun cdv A outer s H vs Q E hr h=>?_)
 .obtain⟨n,d,w',x,rfl,_⟩:=h
  rfl
 .obtain⟨n,d,w',x,rfl,n1,n2,wl,bc,ex,k⟩:=h
  refine⟨_,(rD (Jx (DQ bY (pv 1) le_str (aH _)) (aj (aA (iw T.bM nA (hr.mono (by decide)) rfl (aa (pv 2) af)))) aB)
   (dO (BQ (aE bY (pv 1) az (aH _)) (nJ (tF (tM T.oR.toQ nA (hr.mono (by decide)) rfl (nM (QE.of (pv 0)) (nM (tP (by decide+kernel) (by decide+kernel) (QE.of (pv 2)) ⟨rfl,rfl,rfl,rfl⟩) xU))))) (wt.of aB))
   (dO (BQ (aE bY (pv 1) az (aH _)) (dO (F6 (i:=3) lH.nd rfl (Or.inl rfl) (tM T.kM.toQ nA (hr.mono (by decide)) rfl (nM (tP (by decide+kernel) (by decide+kernel) (QE.of (pv 2)) ⟨rfl,rfl,rfl,rfl⟩) xU)))
   (wt.of (ag (aQ (aE gH (ar (aN (K:=K) rfl) rfl T.bP (by decide+kernel) (aa (pv 3) af)) (pv 0) (aH _)) (aj (gB wX T.fK rfl rfl T.cz (aa az af))) aB)
   (aj (aA (pv 3)))))) (wt.of aB))
   (wt.of (ag (dh (iw T.lT nA (hr.mono (by decide)) rfl (aa (pv 2) af)))
   (aj (aA (pv 2)))))))),?_⟩
  rw[hL]at ex;have kY:∀y,cL n d w'=some y->∀v H',vM H' v y->ah H H'->Q v H':=fun y e=>by rw[ex]at e;cases e;exact k
  have ex':=ex;unfold cL at ex;refine⟨_,rfl,rfl,_,rfl,dD (fun c=>?_) (fun c1=>?_)⟩
  .obtain rfl:d=LV "number" :=by simpa using c
   rw[if_pos rfl]at ex
   split at ex
   .rename_i h
    obtain⟨i,rfl,i0,i9⟩:=id h;exact⟨_,rfl,bc,i,rfl,i0,i9,kY _ (sP i0 i9) _ _ rfl (ah.refl _)⟩
   .cases ex
  have ne:∀x:Str,decide (V.str d=V.str x)≠true->d≠x:=fun x z e=>z (by rw[e];simp);rw[if_neg (ne _ c1)]at ex;refine⟨_,rfl,rfl,_,rfl,dD (fun c=>?_) (fun c2=>?_)⟩
  .obtain rfl:d=LV "row" :=by simpa using c
   rw[if_pos rfl]at ex
   split at ex
   .rename_i h
    obtain⟨R,hR⟩:=id h;have e:=hR.1;injection e with e
    exact⟨_,rfl,_,rfl,w',rfl,by lia,bc,n,R,by rw[←e];rfl,hR.2.1,by lia,hR.2.2,fun l es H' fl hl hx sm=>kY _ (vH (by lia) hR) _ _ ⟨l,es,rfl,hl,hx⟩ sm⟩
   .cases ex
  rw[if_neg (ne _ c2)]at ex;refine⟨_,rfl,rfl,_,rfl,dD (fun c=>?_) (fun c3=>?_)⟩
  .obtain rfl:d=LV "order" :=by simpa using c
   obtain⟨xs,rfl⟩:∃xs,x= .ord xs:=by
    rw[if_pos rfl]at ex
    split at ex
    .cases ex;exact⟨_,rfl⟩
    .cases ex
   refine⟨_,rfl,w',rfl,by lia,bc,n,w',xs,rfl,ex',fun t H' ht nl sm=>?_⟩;refine⟨_,rfl,_,_,rfl,.inr (dH.of ht),_,rfl,rfl,_,rfl,bZ ?_ ⟨_,rfl,k _ _ ⟨t,rfl,ht⟩ sm⟩⟩;simp only[LW,Bool.not_eq_true',decide_eq_false_iff_not,V.int.injEq];lia
  rw[if_neg (ne _ c3)]at ex
  split at ex
  .rename_i hn
   cases ex;exact⟨_,rfl,w',rfl,by lia,fun _ v H' sm=>⟨_,rfl,k _ _ rfl sm⟩,fun z=>absurd hn z⟩
  .cases ex
end
section
variable{P:MD}{w:ME}{K:W.Frag}{mg:Str->Option MA}{base:MN}
theorem iR:aF ["exchange","thing","a","b"] ["exchange","thing"] (au (top 32)):=⟨rfl,rfl,rfl,by decide+kernel,rfl,by decide+kernel,by decide+kernel⟩
theorem FA{f:MB}{fd:MM}(F:dJ K "exchanged" "exchanged" (top 32) f fd):aS P w K mg base fQ 1 f fd ["exchange","thing"] GO:=by
 refine F.ok iR (fun vs H Q E h=>?_) (fun cdv A outer s H vs Q E hr h=>?_)
 .obtain⟨t,a,b,x,rfl,_⟩:=h
  rfl
 .obtain⟨t,a,b,x,rfl,ht,k⟩:=h
  refine⟨_,(ag (mB (pv 0) (eG (K:=K) (n:=2) rfl rfl (bh (aC (i:=2) iR.nd rfl (Or.inl rfl)) (bh (aC (i:=3) iR.nd rfl (Or.inl rfl)) eC))))
   (ag (aQ (aE bY (pv 1) (pv 2) (aH _)) (aj (aA (pv 3))) aB)
   (ag (aQ (aE bY (pv 1) (pv 3) (aH _)) (aj (aA (pv 2))) aB)
   (aj (aA (pv 1)))))),?_⟩
  refine⟨_,rfl,t,_,rfl,dH.of ht,rfl,_,_,rfl,_,_,rfl,rfl,?_⟩;unfold bw at k;refine⟨_,rfl,_,rfl,rfl,_,rfl,dD (fun c=>?_) (fun c=>?_)⟩
  .have c:x=a:=by simpa using c
   rw[if_pos c]at k;exact⟨_,rfl,k⟩
  .have c:¬x=a:=by simpa using c
   rw[if_neg c]at k;refine⟨_,rfl,_,rfl,rfl,_,rfl,dD (fun c=>?_) (fun c=>?_)⟩
   .have c:x=b:=by simpa using c
    rw[if_pos c]at k;exact⟨_,rfl,k⟩
   .have c:¬x=b:=by simpa using c
    rw[if_neg c]at k;exact⟨_,rfl,k⟩
end
theorem cP.take {H:Hp}:∀{vs:List V}{r:List (Int×Int)}(k:Nat),cP H vs r->cP H (vs.take k) (r.take k)
 |_,_,_,.nil=>by rw[List.take_nil,List.take_nil];exact .nil
 |_,_,0,.cons _ _=> .nil
 |_,_,k+1,.cons h x=> .cons h (x.take k)
theorem cP.drop {H:Hp}:∀{vs:List V}{r:List (Int×Int)}(k:Nat),cP H vs r->cP H (vs.drop k) (r.drop k)
 |_,_,_,.nil=>by rw[List.drop_nil,List.drop_nil];exact .nil
 |_,_,0,.cons h x=> .cons h x
 |_,_,k+1,.cons h x=>x.drop k
theorem DP{xs:List V}{a:Int}(h0:0<=a)(h:a<=xs.length):dw xs none (some a)=xs.take a.toNat:=by
 have e:HT.pJ xs.length 0 none=0:=rfl;have e2:HT.pJ xs.length xs.length (some a)=a.toNat:=by
  simp[HT.pJ];rw[if_neg (by lia)];lia
 unfold dw;rw[e,e2,List.drop_zero,Nat.sub_zero]
theorem cutD{xs:List V}{a:Int}(h0:0<=a):dw xs (some a) none=xs.drop a.toNat:=by
 have e:HT.pJ xs.length 0 (some a)=min a.toNat xs.length:=by
  show(if a<0 then(a+(xs.length:Int)).toNat else min a.toNat xs.length)=_;rw[if_neg (by lia)]
 have e2:HT.pJ xs.length xs.length none=xs.length:=rfl;unfold dw;rw[e,e2,Mi (by rw[List.length_drop];exact Ms _)];by_cases h:a.toNat<=xs.length
 .rw[Nat.min_eq_left h]
 .rw[Nat.min_eq_right (by lia),List.drop_length,List.drop_eq_nil_of_le (by lia)]
def Fe:Sp:=fun vs H Q _=>∃(t1 t2:MB)(a b c d:Int),vs=[.ref t1,.ref t2]/\H t1=some (.tup [.int a,.int b])/\H t2=some (.tup [.int c,.int d])/\∀t H',H t=none->H' t=some (.tup [.int (DX (a,b) (c,d)).1,.int (DX (a,b) (c,d)).2])->ah H H'->Q (.ref t) H'
def E5(C:MB):Sp:=fun vs H Q E=>∃(l:MB)(es:List V)(row:List (Int×Int))(k:Int)(way:Str),vs=[.ref l,.int k,.str way]/\H l=some (.lst es)/\cP H es row/\row.length<=1000/\
 (∀f:Bool,way=eW f->1<=k->k<row.length->∀l' es' H',H l'=none->H' l'=some (.lst es')->cP H' es' (t7 row (k-1).toNat f)->ah H H'->Q (.ref l') H')/\
 (¬(1<=k/\k<row.length/\∃f,way=eW f)->∀H',ah H H'->E (.ref C) none H')
def jO:List (Str×Str):=[(LV "forth",LV "back"),(LV "back",LV "forth")]
structure Ln(P:MD)(w:ME)(K:W.Frag)(mg:Str->Option MA)(base:MN):Prop extends T1 mg K where
 fD:mg "sorted" =none
 fI:FnAt P w K mg base "exchanged" 1 ["exchange","thing"] GO
structure Lh(P:MD)(w:ME)(K:W.Frag)(mg:Str->Option MA)(base:MN)(U C:MB):Prop extends T1 mg K where
 bU:FnAt P w K mg base "is_between" 2 ["thing","low","high"] Hi
 mr:FnAt P w K mg base "carried" 2 ["exchange","other"] Fe
 sg:mg "UNDOING" =some (.ref U)
 rZ:RelV (.ref U) (.ref U)
 qI:BS K w.params U jO
 hW:mg "NoMove" =some (.ref C)
 ow:oH K C
theorem IZ{p q:Int}{ns:List Int}(pm:ns.Perm [p,q])(pw:ns.Pairwise (·<=·)):ns=[min p q,max p q]:=by
 have hl:=pm.length_eq
 match ns,hl with
 |[x,y],_=>
  have xy:x<=y:=(List.pairwise_cons.mp pw).1 y (by simp);have hx:x∈[p,q]:=pm.mem_iff.mp (by simp);have hp:p∈[x,y]:=pm.mem_iff.mpr (by simp);have hq:q∈[x,y]:=pm.mem_iff.mpr (by simp);have hy:y∈[p,q]:=pm.mem_iff.mp (by simp);simp only[Mb,Mn,or_false]at hx hp hq hy;have e1:x=min p q:=by lia
  have e2:y=max p q:=by lia
  rw[e1,e2]
section
variable{P:MD}{w:ME}{K:W.Frag}{mg:Str->Option MA}{base:MN}{U C:MB}
theorem xW:aF ["exchange","other"] ["exchange","other"] (au (top 63)):=⟨rfl,rfl,rfl,by decide+kernel,rfl,by decide+kernel,by decide+kernel⟩
theorem Ht{f:MB}{fd:MM}(F:dJ K "carried" "carried" (top 63) f fd)(T:Ln P w K mg base):aS P w K mg base fQ 2 f fd ["exchange","other"] Fe:=by
 refine F.ok xW (fun vs H Q E h=>?_) (fun cdv A outer s H vs Q E hr h=>?_)
 .obtain⟨t1,t2,a,b,c,d,rfl,_⟩:=h
  rfl
 .obtain⟨t1,t2,a,b,c,d,rfl,h1,h2,k⟩:=h
  refine⟨_,(aj (aA (aY (cB (K:=K) rfl) rfl T.gj (by decide+kernel) (aa (ar (vU (K:=K) rfl) rfl T.fD (by decide+kernel) (aa (bJ (N:=(["thing","other"]:List Str)) (ix:=([none,some 1]:List (Option Nat))) (aW rfl rfl) rfl (yk (K:=K) rfl (pv 0)) (fun _ _ _ _=>(aC (i:=0) (show List.Nodup (["thing","other"]:List Str)from by decide+kernel) rfl (Or.inl rfl))) (fun _ _ _ _=>bg) (fun _ _ _ _=>(ak T.fI (hr.mono (by first|decide|lia)) rfl (aa (pv 1) (aa (pv 0) af))))) af)) af)))),?_⟩;refine⟨_,rfl,t1,rfl,⟨_,dH.of h1⟩,EZ (K:=K) (a:=t1) (xs:=[a,b].map V.int) (k:=0) (fun i ys σ' H'=>ys=(([a,b].take i).map fun x=>V.int (bw x (c,d)))/\(∃v,σ'=[v,some (.ref t2)])/\H'=H) (by show 2<=1000000;decide) ⟨rfl,⟨none,rfl⟩,rfl⟩ (fun i ys σ' H' _ q=>by rw[q.2.2];exact dH.of h1) (fun i ys σ' H' q=>by rw[q.1,LW,Ma];lia) ?_ ?_⟩
  .rintro i ys σ' H' z R hz ⟨rfl,⟨v,rfl⟩,rfl⟩ done
   obtain⟨x,rfl,hx⟩:=fY hz;refine⟨_,rfl,_,rfl,t2,c,d,x,rfl,h2,?_⟩;refine done _ _ _ ⟨?_,⟨_,rfl⟩,rfl⟩;rw[aK _ hx]
  .rintro ys σ' Hb q ⟨rfl,⟨v,rfl⟩,e0⟩ fq
   have e0:=e0.symm;subst e0;have s1:ah H (upd H q (.lst [.int (bw a (c,d)),.int (bw b (c,d))])):=ah.new fq;refine⟨q,[bw a (c,d),bw b (c,d)],rfl,aG.of ae,(by show 2<64;decide),fun l2 ns' f2 pm pw=>?_⟩;have en:=IZ pm pw;subst en;have s2:=s1.trans (ah.new (o:= .lst ([min (bw a (c,d)) (bw b (c,d)),max (bw a (c,d)) (bw b (c,d))].map V.int)) f2);refine⟨l2,_,rfl,.inl ⟨aG.of ae,fun t ft=>?_⟩⟩;exact k t _ (s2.free ft) ae (s2.trans (ah.new ft))
theorem pS:aF ["row","k","way","pair","s","t"] ["row","k","way"] (au (top 64)):=⟨rfl,rfl,rfl,by decide+kernel,rfl,by decide+kernel,by decide+kernel⟩
theorem Gw{f:MB}{fd:MM}(F:dJ K "moved" "moved" (top 64) f fd)(T:Lh P w K mg base U C):aS P w K mg base (lW P w) 3 f fd ["row","k","way"] (E5 C):=by
 refine F.HY pS (fun vs H Q E h=>?_) (fun cdv A outer s H vs Q E hr h=>?_)
 .obtain⟨l,es,row,k,way,rfl,_⟩:=h
  rfl
 .obtain⟨l,es,row,k,way,rfl,hl,hx,rl,kQ,kE⟩:=h
  refine⟨_,(ag (aQ (eL (eI (ak T.bU (hr.mono (by first|decide|lia)) rfl (@aa _ _ _ _ _ (pv 1) (@aa _ _ _ _ _ ai (@aa _ _ _ _ _ (av cO (ar (aN (K:=K) rfl) rfl T.bP (by decide+kernel) (aa (pv 0) af)) ai) af mq) ju) aL)))) (aj (gB wX T.ow rfl rfl T.hW (aa az af))) aB)
   (ag (aQ (kD (z7 T.qI (pv 2) (di rfl T.sg T.rZ))) (aj (gB wX T.ow rfl rfl T.hW (aa az af))) aB)
   (ag (Gs (i:=4) (j:=5) rfl pS.nd rfl rfl (by decide) rfl rfl (aa (aO (ax (K:=K) rfl) (pv 0) (av cO (pv 1) ai) (fun _ _=>rfl)) (aa (aO (ax (K:=K) rfl) (pv 0) (pv 1) (fun _ _=>rfl)) af)) rfl)
   (ag (aw (i:=3) pS.nd rfl (Or.inl rfl) (pq (aE bY (pv 2) az (aH _)) (bf (aa (pv 5) (aa (ak T.mr (hr.mono (by first|decide|lia)) rfl (aa (pv 4) (aa (pv 5) af))) af))) (bf (aa (ak T.mr (hr.mono (by first|decide|lia)) rfl (aa (pv 5) (aa (pv 4) af))) (aa (pv 4) af)))))
   (aj (aA (av dC (av dC (bq (bR (K:=K) rfl) (pv 0) bS (bu (av cO (pv 1) ai))) (pv 3)) (bq (bR (K:=K) rfl) (pv 0) (bu (av bp (pv 1) ai)) bS)))))))),?_⟩
  have big:(10000000:Nat)<=MG:=by decide
  have two:2<=MG:=by decide
  have xl:=hx.length;refine⟨_,rfl,_,rfl,l,_,rfl,.inl (aG.of hl),_,_,rfl,rfl,k,1,_,rfl,_,rfl,?_⟩;by_cases hk:1<=k/\k<=(es.length:Int)-1
  .refine jW (by rw[decide_eq_true hk];rfl) ?_
   refine⟨_,rfl,way,rfl,rfl,_,rfl,?_⟩;by_cases hw:way∈jO.map (·.1)
   .refine jW (by rw[decide_eq_true hw];rfl) ?_
    obtain⟨v1,hv1⟩:∃v,es[(k-1).toNat]?=some v:=⟨_,LZ (by lia)⟩;obtain⟨v2,hv2⟩:∃v,es[k.toNat]?=some v:=⟨_,LZ (by lia)⟩;obtain⟨ts,a,b,rfl,hts,hr1⟩:=hx.get hv1;obtain⟨tt,c,d,rfl,htt,hr2⟩:=hx.get hv2;have er1:row.getD (k-1).toNat (0,0)=(a,b):=by rw[Me,hr1];rfl
    have er2:row.getD ((k-1).toNat+1) (0,0)=(c,d):=by rw[show(k-1).toNat+1=k.toNat by lia,Me,hr2];rfl
    have at1:m9 es (k-1)=some (.ref ts):=by rw[←Int.toNat_of_nonneg (show 0<=k-1 by lia)];exact aR hv1
    have at2:m9 es k=some (.ref tt):=by rw[←Int.toNat_of_nonneg (show 0<=k by lia)];exact aR hv2
    refine⟨_,rfl,_,rfl,_,_,rfl,rfl,l,_,_,_,rfl,rfl,aG.of hl,at1,_,rfl,_,rfl,l,_,_,_,rfl,rfl,aG.of hl,at2,_,_,rfl,?_⟩;have s1:ah H H:=ah.refl H;refine⟨_,rfl,rfl,_,rfl,dD (fun cw=>?_) (fun cw=>?_)⟩
    .have hway:way=eW true:=by
      have:=of_decide_eq_true cw;injection this
     refine⟨_,rfl,_,rfl,_,rfl,ts,tt,a,b,c,d,rfl,s1 _ _ hts,s1 _ _ htt,fun tn HA ftn htn sA=>⟨two,fun lp flp=>?_⟩⟩;have s2:=(s1.trans sA).trans (ah.new (o:= .lst [.ref tt,.ref tn]) flp);have hlp:upd HA lp (.lst [.ref tt,.ref tn]) lp=some (.lst [.ref tt,.ref tn]):=ae;have htn2:=ah.new (o:= .lst [.ref tt,.ref tn]) flp _ _ htn;generalize upd HA lp (.lst [.ref tt,.ref tn])=H2 at s2 hlp htn2⊢;have xp:cP H2 [.ref tt,.ref tn] (Et (a,b) (c,d) true):= .cons (s2 _ _ htt) (.cons htn2 .nil);obtain⟨ps,eps⟩:∃ps:List V,ps=[.ref tt,.ref tn]:=⟨_,rfl⟩;rw[←eps]at hlp xp;have psl:ps.length=2:=by rw[eps];rfl
     have el2:es.length=row.length:=xl;have hl2:=s2 _ _ hl;have hx2:=hx.keep (ah.bI s2);refine⟨_,rfl,_,rfl,_,_,rfl,rfl,k-1,rfl,l,es,rfl,aG.of hl2,fun p1 f1=>?_⟩;rw[DP (by lia) (by lia)];have s3:ah H2 (upd H2 p1 (.lst (es.take (k-1).toNat))):=ah.new f1;have h3:upd H2 p1 (.lst (es.take (k-1).toNat)) p1=some (.lst (es.take (k-1).toNat)):=ae;generalize upd H2 p1 (.lst (es.take (k-1).toNat))=H3 at s3 h3⊢;refine⟨_,rfl,p1,lp,_,_,rfl,rfl,h3,s3 _ _ hlp,by rw[Ma];lia,fun p2 f2=>?_⟩;have s4:=s3.trans (ah.new (o:= .lst (es.take (k-1).toNat++ps)) f2);have h4:upd H3 p2 (.lst (es.take (k-1).toNat++ps)) p2=some (.lst (es.take (k-1).toNat++ps)):=ae;generalize upd H3 p2 (.lst (es.take (k-1).toNat++ps))=H4 at s4 h4⊢;refine⟨_,rfl,_,rfl,_,_,rfl,rfl,k+1,rfl,?_⟩;unfold lO;refine⟨l,es,rfl,aG.of (s4 _ _ hl2),fun p3 f3=>?_⟩;rw[cutD (by lia)];have s5:=s4.trans (ah.new (o:= .lst (es.drop (k+1).toNat)) f3);have h5:upd H4 p3 (.lst (es.drop (k+1).toNat)) p3=some (.lst (es.drop (k+1).toNat)):=ae;have h45:=ah.new (o:= .lst (es.drop (k+1).toNat)) f3 _ _ h4;generalize upd H4 p3 (.lst (es.drop (k+1).toNat))=H5 at s5 h5 h45⊢;refine⟨p2,p3,_,_,rfl,rfl,h45,h5,by rw[LY,Ma,List.length_drop];lia,fun p4 f4=>?_⟩;have s6:=s5.trans (ah.new (o:= .lst (es.take (k-1).toNat++ps++es.drop (k+1).toNat)) f4);refine kQ true hway (by lia) (by lia) p4 _ _ ((s2.trans s5).free f4) ae ?_ (s2.trans s6);unfold t7;rw[er1,er2,show(k-1).toNat+2=(k+1).toNat by lia];exact(((hx2.keep (ah.bI s6)).take _).append (xp.keep (ah.bI s6))).append ((hx2.keep (ah.bI s6)).drop _)
    .have hway:way=eW false:=by
      have cw:¬way=LV "forth" :=fun z=>cw (decide_eq_true (by rw[z]));have:way=LV "forth"\/way=LV "back" :=by simpa [jO]using hw
      exact this.resolve_left cw
     refine⟨_,rfl,_,rfl,tt,ts,c,d,a,b,rfl,s1 _ _ htt,s1 _ _ hts,fun tn HA ftn htn sA=>⟨_,rfl,two,fun lp flp=>?_⟩⟩;have s2:=(s1.trans sA).trans (ah.new (o:= .lst [.ref tn,.ref ts]) flp);have hlp:upd HA lp (.lst [.ref tn,.ref ts]) lp=some (.lst [.ref tn,.ref ts]):=ae;have htn2:=ah.new (o:= .lst [.ref tn,.ref ts]) flp _ _ htn;generalize upd HA lp (.lst [.ref tn,.ref ts])=H2 at s2 hlp htn2⊢;have xp:cP H2 [.ref tn,.ref ts] (Et (a,b) (c,d) false):= .cons htn2 (.cons (s2 _ _ hts) .nil);obtain⟨ps,eps⟩:∃ps:List V,ps=[.ref tn,.ref ts]:=⟨_,rfl⟩;rw[←eps]at hlp xp;have psl:ps.length=2:=by rw[eps];rfl
     have el2:es.length=row.length:=xl;have hl2:=s2 _ _ hl;have hx2:=hx.keep (ah.bI s2);refine⟨_,rfl,_,rfl,_,_,rfl,rfl,k-1,rfl,l,es,rfl,aG.of hl2,fun p1 f1=>?_⟩;rw[DP (by lia) (by lia)];have s3:ah H2 (upd H2 p1 (.lst (es.take (k-1).toNat))):=ah.new f1;have h3:upd H2 p1 (.lst (es.take (k-1).toNat)) p1=some (.lst (es.take (k-1).toNat)):=ae;generalize upd H2 p1 (.lst (es.take (k-1).toNat))=H3 at s3 h3⊢;refine⟨_,rfl,p1,lp,_,_,rfl,rfl,h3,s3 _ _ hlp,by rw[Ma];lia,fun p2 f2=>?_⟩;have s4:=s3.trans (ah.new (o:= .lst (es.take (k-1).toNat++ps)) f2);have h4:upd H3 p2 (.lst (es.take (k-1).toNat++ps)) p2=some (.lst (es.take (k-1).toNat++ps)):=ae;generalize upd H3 p2 (.lst (es.take (k-1).toNat++ps))=H4 at s4 h4⊢;refine⟨_,rfl,_,rfl,_,_,rfl,rfl,k+1,rfl,?_⟩;unfold lO;refine⟨l,es,rfl,aG.of (s4 _ _ hl2),fun p3 f3=>?_⟩;rw[cutD (by lia)];have s5:=s4.trans (ah.new (o:= .lst (es.drop (k+1).toNat)) f3);have h5:upd H4 p3 (.lst (es.drop (k+1).toNat)) p3=some (.lst (es.drop (k+1).toNat)):=ae;have h45:=ah.new (o:= .lst (es.drop (k+1).toNat)) f3 _ _ h4;generalize upd H4 p3 (.lst (es.drop (k+1).toNat))=H5 at s5 h5 h45⊢;refine⟨p2,p3,_,_,rfl,rfl,h45,h5,by rw[LY,Ma,List.length_drop];lia,fun p4 f4=>?_⟩;have s6:=s5.trans (ah.new (o:= .lst (es.take (k-1).toNat++ps++es.drop (k+1).toNat)) f4);refine kQ false hway (by lia) (by lia) p4 _ _ ((s2.trans s5).free f4) ae ?_ (s2.trans s6);unfold t7;rw[er1,er2,show(k-1).toNat+2=(k+1).toNat by lia];exact(((hx2.keep (ah.bI s6)).take _).append (xp.keep (ah.bI s6))).append ((hx2.keep (ah.bI s6)).drop _)
   .have e0:decide (way∈jO.map (·.1))=false:=decide_eq_false hw
    rw[e0];refine oU ⟨(by show 1<=MG;decide),kE (fun z=>?_) _ (ah.refl H)⟩;obtain⟨_,_,f,rfl⟩:=z;refine hw ?_;cases f<;>simp[jO,eW]
  .have e0:decide (1<=k/\k<=(es.length:Int)-1)=false:=decide_eq_false hk
   rw[e0];refine oU ⟨(by show 1<=MG;decide),kE (fun z=>hk ?_) _ (ah.refl H)⟩;lia
end
open Classical in
noncomputable def jr(U:Str->Bool)(CB CM:MB)(word:Str)(xs:List Wd):Option (Except MB (List (Int×Int))):=
 if U word=false then none else
 match xs with
 |[.txt _,.ord os]=>if word=LV "star"/\Ord (os.length:Int) os/\os.length<=12 then some (.ok (jh (os.length:Int) os))else if word=LV "home"/\Ord (os.length:Int) os/\os.length<=12 then some (.ok (ja os))else none
 |[.txt _,.row R]=>if word=LV "row"\/word=LV "copy"then some (.ok R)else none
 |[.txt _,.row R,.row S]=>if word=LV "join"/\R.length<=60/\S.length<=60 then(if 60<R.length+S.length then some (.error CB)else some (.ok (R++S)))else none
 |[.row R,.num k]=>if R.length<=60 then(if word=eW true then some (if 1<=k/\k<R.length then .ok (t7 R (k-1).toNat true)else .error CM)else if word=eW false then some (if 1<=k/\k<R.length then .ok (t7 R (k-1).toNat false)else .error CM)else none)else none
 |_=>none
inductive uY(U:Str->Bool)(CB CM:MB):Str->List Wd->Except MB (List (Int×Int))->Prop
 |star (x:Str) (os:List Int):U (LV "star")=true->Ord (os.length:Int) os->os.length<=12->uY U CB CM (LV "star") [.txt x,.ord os] (.ok (jh (os.length:Int) os))
 |Jy (x:Str) (os:List Int):U (LV "home")=true->Ord (os.length:Int) os->os.length<=12->uY U CB CM (LV "home") [.txt x,.ord os] (.ok (ja os))
 |row (x:Str) (R:List (Int×Int)):uY U CB CM (LV "row") [.txt x,.row R] (.ok R)
 |copy (x:Str) (R:List (Int×Int)):uY U CB CM (LV "copy") [.txt x,.row R] (.ok R)
 |join (x:Str) (R S:List (Int×Int)):U (LV "join")=true->R.length<=60->S.length<=60->uY U CB CM (LV "join") [.txt x,.row R,.row S] (if 60<R.length+S.length then .error CB else .ok (R++S))
 |move (R:List (Int×Int)) (k:Int) (f:Bool):U (eW f)=true->R.length<=60->uY U CB CM (eW f) [.row R,.num k] (if 1<=k/\k<R.length then .ok (t7 R (k-1).toNat f)else .error CM)
theorem zQ{U:Str->Bool}{CB CM:MB}{word:Str}{xs:List Wd}{r:Except MB (List (Int×Int))}(h:jr U CB CM word xs=some r):uY U CB CM word xs r:=by
 unfold jr at h;by_cases hu:U word=false
 .rw[if_pos hu]at h;cases h
 rw[if_neg hu]at h;have hu:U word=true:=by simpa using hu
 split at h
 .rename_i x os
  split at h
  .rename_i c
   cases h;rw[c.1]at hu⊢;exact .star x os hu c.2.1 c.2.2
  .split at h
   .rename_i c
    cases h;rw[c.1]at hu⊢;exact .Jy x os hu c.2.1 c.2.2
   .cases h
 .rename_i x R
  split at h
  .rename_i c
   cases h;rcases c with c|c
   .rw[c];exact .row x R
   .rw[c];exact .copy x R
  .cases h
 .rename_i x R S
  split at h
  .rename_i c
   rw[c.1]at hu⊢;have q:=uY.join (CB:=CB) (CM:=CM) x R S hu c.2.1 c.2.2
   split at h
   .rename_i d
    cases h;rw[if_pos d]at q;exact q
   .rename_i d
    cases h;rw[if_neg d]at q;exact q
  .cases h
 .rename_i R k
  split at h
  .rename_i l
   split at h
   .rename_i c
    cases h;rw[c]at hu⊢;exact .move R k true hu l
   .split at h
    .rename_i c
     cases h;rw[c]at hu⊢;exact .move R k false hu l
    .cases h
  .cases h
 .cases h
def Dh(U:Str->Bool):Sp:=fun vs H Q E=>U (LV "star")=true/\∃(t:MB)(n:Int)(xs:List Int),vs=[.ref t]/\H t=some (.tup (xs.map V.int))/\Ord n xs/\n<=50/\∀l es H',H l=none->H' l=some (.lst es)->cP H' es (jh n xs)->ah H H'->Q (.ref l) H'
def DD(U:Str->Bool):Sp:=fun vs H Q E=>U (LV "home")=true/\Cj vs H Q E
def AH(U:Str->Bool)(CM:MB):Sp:=fun vs H Q E=>(∃f,U (eW f)=true)/\E5 CM vs H Q E
structure Lq(P:MD)(w:ME)(K:W.Frag)(mg:Str->Option MA)(base:MN)(U:Str->Bool)(u60:MA)(CB CM:MB):Prop extends T1 mg K where
 Cq:FnAt P w K mg base "star" 6 ["order"] (Dh U)
 BY:FnAt P w K mg base "home" 6 ["order"] (DD U)
 yq:kh P w K mg base "moved" 6 ["row","k","way"] (AH U CM)
 cC:mg "MOST_EXCHANGES" =some u60
 cq:RelV (.int 60) u60
 ip:mg "NoBound" =some (.ref CB)
 sf:oH K CB
section
variable{P:MD}{w:ME}{K:W.Frag}{mg:Str->Option MA}{base:MN}{U:Str->Bool}{u60:MA}{CB CM:MB}{L:cf}
theorem pI:aF ["word","given","row"] ["word","given"] (au (top 98)):=⟨rfl,rfl,rfl,by decide+kernel,rfl,by decide+kernel,by decide+kernel⟩
theorem Ho{f:MB}{fd:MM}(F:dJ K "row_due" "row_due" (top 98) f fd)(hL:L.EY=jr U CB CM)(T:Lq P w K mg base U u60 CB CM):aS P w K mg base (lW P w) 9 f fd ["word","given"] (Jg L):=by
 refine F.HY pI (fun vs H Q E h=>?_) (fun cdv A outer s H vs Q E hr h=>?_)
 .obtain⟨word,l,us,xs,rfl,_⟩:=h
  rfl
 .obtain⟨word,l,us,xs,rfl,hl,hw,h⟩:=h
  refine⟨_,(ag (aQ (aE bY (pv 0) az (aH _)) (aj (aA (ak T.Cq (hr.mono (by first|decide|lia)) rfl (aa (aO (ax (K:=K) rfl) (pv 1) ai (fun _ _=>rfl)) af)))) aB)
   (ag (aQ (aE bY (pv 0) az (aH _)) (aj (aA (ak T.BY (hr.mono (by first|decide|lia)) rfl (aa (aO (ax (K:=K) rfl) (pv 1) ai (fun _ _=>rfl)) af)))) aB)
   (ag (aQ (aE bY (pv 0) az (aH _)) (ag (aw (i:=2) pI.nd rfl (Or.inl rfl) (av dC (aO (ax (K:=K) rfl) (pv 1) ai (fun _ _=>rfl)) (aO (ax (K:=K) rfl) (pv 1) ai (fun _ _=>rfl))))
   (ag (aQ (aE mV (ar (aN (K:=K) rfl) rfl T.bP (by decide+kernel) (aa (pv 2) af)) (di rfl T.cC T.cq) (aH _)) (aj (gB wX T.sf rfl rfl T.ip (aa az af))) aB)
   (aj (aA (pv 2))))) aB)
   (ag (aQ (PW.pt (j5 (aE bY (pv 0) az (aH _)) (jz (aE bY (pv 0) az (aH _))))) (aj (aA (iw T.yq nA (hr.mono (by decide)) rfl (@aa _ _ _ _ _ (aO (ax (K:=K) rfl) (pv 1) ai (fun _ _=>rfl)) (@aa _ _ _ _ _ (aO (ax (K:=K) rfl) (pv 1) ai (fun _ _=>rfl)) (@aa _ _ _ _ _ (pv 0) af aL) kq) kq)))) aB)
   (aj (aA (aO (ax (K:=K) rfl) (pv 1) ai (fun _ _=>rfl)))))))),?_⟩
  have hc:∃r,L.EY word xs=some r:=by
   rcases h with⟨R,e,_⟩|⟨c,e,_⟩
   .exact⟨_,e⟩
   .exact⟨_,e⟩
  obtain⟨r,er⟩:=hc;have kY:∀R,r= .ok R->∀v H',dY H' v R->ah H H'->Q v H':=fun R z=>by
   rcases h with⟨R',e,k⟩|⟨c,e,_⟩
   .rw[er,z]at e;cases e;exact k
   .rw[er,z]at e;cases e
  have kN:∀c,r= .error c->∀b H',ah H H'->E (.ref c) b H':=fun c z=>by
   rcases h with⟨R',e,k⟩|⟨c',e,k⟩
   .rw[er,z]at e;cases e
   .rw[er,z]at e;cases e;exact k
  clear h;rw[hL]at er;have one:1<=MG:=by decide
  cases zQ er with
  |star x os hu o lo=>
   cases hw with
   |cons w1 hw=>cases hw with
    |cons w2 hw=>cases hw with
     |nil=>
      obtain⟨t,rfl,ht⟩:=w2;refine⟨_,rfl,rfl,_,rfl,ki (by decide) ?_⟩;exact⟨_,rfl,l,_,1,_,rfl,rfl,aG.of hl,aR (j:=1) rfl,hu,t,_,os,rfl,ht,o,by lia,fun l' es H' _ h1 h2 sm=>kY _ rfl _ _ ⟨l',es,rfl,h1,h2⟩ sm⟩
  |Jy x os hu o lo=>
   cases hw with
   |cons w1 hw=>cases hw with
    |cons w2 hw=>cases hw with
     |nil=>
      obtain⟨t,rfl,ht⟩:=w2;refine⟨_,rfl,rfl,_,rfl,bZ (by decide) ?_⟩;refine⟨_,rfl,rfl,_,rfl,ki (by decide) ?_⟩;exact⟨_,rfl,l,_,1,_,rfl,rfl,aG.of hl,aR (j:=1) rfl,hu,t,_,os,rfl,ht,o,by lia,fun l' es H' _ h1 h2 sm=>kY _ rfl _ _ ⟨l',es,rfl,h1,h2⟩ sm⟩
  |row x R=>
   cases hw with
   |cons w1 hw=>cases hw with
    |cons w2 hw=>cases hw with
     |nil=>
      refine⟨_,rfl,rfl,_,rfl,bZ (by decide) ?_⟩;refine⟨_,rfl,rfl,_,rfl,bZ (by decide) ?_⟩;refine⟨_,rfl,rfl,_,rfl,bZ (by decide) ?_⟩;refine⟨_,rfl,rfl,_,rfl,bZ (by decide) ?_⟩;refine⟨_,rfl,rfl,_,rfl,bZ (by decide) ?_⟩;exact⟨_,rfl,l,_,1,_,rfl,rfl,aG.of hl,aR (j:=1) rfl,kY _ rfl _ _ w2 (ah.refl _)⟩
  |copy x R=>
   cases hw with
   |cons w1 hw=>cases hw with
    |cons w2 hw=>cases hw with
     |nil=>
      refine⟨_,rfl,rfl,_,rfl,bZ (by decide) ?_⟩;refine⟨_,rfl,rfl,_,rfl,bZ (by decide) ?_⟩;refine⟨_,rfl,rfl,_,rfl,bZ (by decide) ?_⟩;refine⟨_,rfl,rfl,_,rfl,bZ (by decide) ?_⟩;refine⟨_,rfl,rfl,_,rfl,bZ (by decide) ?_⟩;exact⟨_,rfl,l,_,1,_,rfl,rfl,aG.of hl,aR (j:=1) rfl,kY _ rfl _ _ w2 (ah.refl _)⟩
  |join x R S hu l1 l2=>
   cases hw with
   |cons w1 hw=>cases hw with
    |cons w2 hw=>cases hw with
     |cons w3 hw=>cases hw with
      |nil=>
       obtain⟨b1,es1,rfl,g1,x1⟩:=w2;obtain⟨b2,es2,rfl,g2,x2⟩:=w3;refine⟨_,rfl,rfl,_,rfl,bZ (by decide) ?_⟩;refine⟨_,rfl,rfl,_,rfl,bZ (by decide) ?_⟩;refine⟨_,rfl,rfl,_,rfl,ki (by decide) ?_⟩;refine⟨_,rfl,l,_,1,_,rfl,rfl,aG.of hl,aR (j:=1) rfl,_,rfl,l,_,2,_,rfl,rfl,aG.of hl,aR (j:=2) rfl,b1,b2,es1,es2,rfl,rfl,g1,g2,?_⟩;have e1:=x1.length;have e2:=x2.length;refine⟨Mv (by lia:es1.length+es2.length<=120) (by decide),fun p fp=>?_⟩;refine⟨_,rfl,p,_,rfl,.inl (aG.of ae),_,_,rfl,rfl,_,rfl,dD (fun c=>?_) (fun c=>?_)⟩
       .have c:60<R.length+S.length:=by
         rw[decide_eq_true_eq,LY]at c;lia
        exact⟨one,kN _ (if_pos c) none _ (ah.new fp)⟩
       .have c:¬60<R.length+S.length:=by
         rw[decide_eq_true_eq,LY]at c;lia
        exact⟨_,rfl,kY _ (if_neg c) _ _ ⟨p,_,rfl,ae,(x1.append x2).keep fun b xs hb=>ah.new fp b _ hb⟩ (ah.new fp)⟩
  |move R k f hu l1=>
   cases hw with
   |cons w1 hw=>cases hw with
    |cons w2 hw=>cases hw with
     |nil=>
      cases(show _=V.int k from w2);obtain⟨b1,es1,rfl,g1,x1⟩:=w1;have fin:∀(way:Str),way=eW f->AH U CM [.ref b1,.int k,.str way] H Q E:=fun way hw=>⟨⟨f,hu⟩,b1,es1,R,k,way,rfl,g1,x1,by lia,fun g eg k1 k2 l' es' H' _ h1 h2 sm=>by
       obtain rfl:=Bh (hw.symm.trans eg);exact kY _ (if_pos ⟨k1,k2⟩) _ _ ⟨l',es',rfl,h1,h2⟩ sm,fun nc H' sm=>kN _ (if_neg fun c=>nc ⟨c.1,c.2,f,hw⟩) none H' sm⟩
      have go:∀c:Bool,U (eW f)=true->Ds (vE (AH U CM) [] E (qU (E8 (EF K) (zH 1) (tC (V.int 0))) (qU (E8 (EF K) (zH 1) (tC (V.int 1))) (qU (zH 0) AM)))) {nx:=fun x H'=>Q V.cE H',rt:=Q} (L2.start [LV "word",LV "given",LV "row"] [V.str (eW f),V.ref l]) H:=fun _ _=>
       ⟨_,rfl,l,_,0,_,rfl,rfl,aG.of hl,aR (j:=0) rfl,_,rfl,l,_,1,_,rfl,rfl,aG.of hl,aR (j:=1) rfl,_,rfl,fin _ rfl⟩
      cases f with
      |true=>exact⟨_,rfl,rfl,_,rfl,bZ (by decide) ⟨_,rfl,rfl,_,rfl,bZ (by decide) ⟨_,rfl,rfl,_,rfl,bZ (by decide) ⟨_,rfl,rfl,_,rfl,ki (by decide) (go true hu)⟩⟩⟩⟩
      |false=>exact⟨_,rfl,rfl,_,rfl,bZ (by decide) ⟨_,rfl,rfl,_,rfl,bZ (by decide) ⟨_,rfl,rfl,_,rfl,bZ (by decide) ⟨_,rfl,rfl,_,rfl,bZ (by decide) ⟨_,rfl,rfl,_,rfl,go false hu⟩⟩⟩⟩⟩
end
def Dx:List (Str×List Str):=[("row",["new","row"]),("star",["new","order"]),("home",["new","order"]),("copy",["new","name"]),("join",["new","name","name"]),("forth",["name","number"]),("back",["name","number"]),("drop",["name"]),
 ("show",["name"]),("order",["name"]),("kind",["name"]),("least",["name"]),("parts",["name"]),("holes",["name"]),("lead",["name","name"]),("tree",["name"]),("cars",["name"]),("begun",["name","number"]),("count",["name","number"]),("joined",["name","number"]),("names",[])]
def o7:List Str:=["show","order","kind","least","parts","holes","lead","tree","cars","begun","count","joined"]
def jb(w:Str):Option (List Str):=(Dx.find? fun p=>p.1=w).map (·.2)
noncomputable def du(okd:Str->Bool)(ans:Str->Int->List Wd->Option (Except MB Str))(U:Str->Bool)(CT CN CB CM:MB):cf:=
 {due:=jb,okd:=okd,Eh:=cL,isA:=fun w=>decide (w∈o7),ans:=ans,EY:=jr U CB CM,CT:=CT,CN:=CN}
theorem Aj(a b:Str):a++LV " " ++b=Str.join (LV " ") [a,b]:=rfl
theorem r6(a b c:Str):a++LV " " ++b++LV " " ++c=Str.join (LV " ") [a,b,c]:=by
 refine bT ?_;show signs (a++LV " " ++b++LV " " ++c)=signs (a++LV " " ++(b++LV " " ++c));simp only[aZ,Mp]
theorem mU{w:Str}(h:isNm w):32∉signs w:=fun z=>by have:=h.2.2 32 z;lia
section
variable{okd:Str->Bool}{ans:Str->Int->List Wd->Option (Except MB Str)}{U:Str->Bool}{CT CN CB CM:MB}{n:Int}{m:Kept}{nm:Str}
theorem yj{R:List (Int×Int)}(h1:okd "new" =true)(h2:okd "row" =true)(hu:U "row" =true)(hn:isNm nm)(n12:n<=12)(g:Good n R)(l:R.length<=60):
  (du okd ans U CT CN CB CM).out n m [LV "row",nm,fM R]=some (.put nm R):=by
 have e1:jb (LV "row")=some [LV "new",LV "row"]:=by decide+kernel
 have e2:decide (LV "row"∈o7)=false:=by decide+kernel
 have r1:cL n (LV "new") nm=some (.txt nm):=lA hn;have r2:cL n (LV "row") (fM R)=some (.row R):=De (by lia) g l;have r3:jr U CB CM (LV "row") [.txt nm,.row R]=some (.ok R):=by
  unfold jr;rw[if_neg (by rw[show U (LV "row")=true from hu];decide)];dsimp only;rw[if_pos (.inl rfl)]
 have g1:nD m (LV "new") (.txt nm)=some (.txt nm):=if_neg (by decide+kernel);have g2:nD m (LV "row") (.row R)=some (.row R):=if_neg (by decide+kernel);unfold cf.out du;dsimp only;rw[e1];dsimp only;rw[if_neg (by simp),if_neg (by show¬([LV "new",LV "row"].all okd=false);rw[Mc,Mc,List.all_nil,show okd (LV "new")=true from h1,show okd (LV "row")=true from h2];decide)];simp only[Mr,List.zip_nil_right,cT,r1,r2,Mz,g1,g2,e2];rw[if_neg (by decide+kernel),if_neg (by decide),if_neg (by decide+kernel),r3]
theorem uD{R:List (Int×Int)}{k:Int}{f:Bool}(h1:okd "name" =true)(h2:okd "number" =true)(hu:U (eW f)=true)(hn:isNm nm)(k0:0<=k)(k9:k<10^9)(hR:rowOf m nm=some R)(l:R.length<=60):
  (du okd ans U CT CN CB CM).out n m [eW f,nm,aM k]=some (if 1<=k/\k<R.length then .put nm (t7 R (k-1).toNat f)else .jK CM):=by
 have e1:jb (eW f)=some [LV "name",LV "number"]:=by cases f<;>decide+kernel
 have e2:decide (eW f∈o7)=false:=by cases f<;>decide+kernel
 have r1:cL n (LV "name") nm=some (.txt nm):=fJ hn;have r2:cL n (LV "number") (aM k)=some (.num k):=sP k0 k9;have r3:jr U CB CM (eW f) [.row R,.num k]=some (if 1<=k/\k<R.length then .ok (t7 R (k-1).toNat f)else .error CM):=by
  unfold jr;rw[if_neg (by rw[hu];decide)];dsimp only;rw[if_pos l]
  cases f with
  |true=>rw[if_pos rfl]
  |false=>rw[if_neg (by decide+kernel),if_pos rfl]
 have g1:nD m (LV "name") (.txt nm)=some (.row R):=by
  unfold nD;rw[if_pos rfl];dsimp only;rw[hR];rfl
 have g2:nD m (LV "number") (.num k)=some (.num k):=if_neg (by decide+kernel);unfold cf.out du;dsimp only;rw[e1];dsimp only;rw[if_neg (by simp),if_neg (by show¬([LV "name",LV "number"].all okd=false);rw[Mc,Mc,List.all_nil,show okd (LV "name")=true from h1,show okd (LV "number")=true from h2];decide)];simp only[Mr,List.zip_nil_right,cT,r1,r2,Mz,g1,g2,e2];rw[if_neg (by cases f<;>decide+kernel),if_neg (by decide),if_neg (by cases f<;>decide+kernel),r3];by_cases c:1<=k/\k<R.length
 .rw[if_pos c,if_pos c]
 .rw[if_neg c,if_neg c]
theorem Er{word:Str}(h1:okd "name" =true)(e1:jb word=some [LV "name"])(e2:decide (word∈o7)=true)(hn:isNm nm):
  (rowOf m nm=none->(du okd ans U CT CN CB CM).out n m [word,nm]=some (.jK CN))/\
  ∀R,rowOf m nm=some R->(∀s,ans word n [.row R]=some (.ok s)->(du okd ans U CT CN CB CM).out n m [word,nm]=some (.ans s))/\∀c,ans word n [.row R]=some (.error c)->(du okd ans U CT CN CB CM).out n m [word,nm]=some (.jK c):=by
 have r1:cL n (LV "name") nm=some (.txt nm):=fJ hn;have nn:¬word=LV "names" :=fun z=>by rw[z]at e1;revert e1;decide+kernel
 have ok:¬([LV "name"].all okd=false):=by rw[Mc,List.all_nil,show okd (LV "name")=true from h1];decide
 constructor
 .intro e
  have g1:nD m (LV "name") (.txt nm)=none:=by
   unfold nD;rw[if_pos rfl];dsimp only;rw[e];rfl
  unfold cf.out du;dsimp only;rw[e1];dsimp only;rw[if_neg (by simp),if_neg ok];simp only[Mr,List.zip_nil_right,cT,r1,Mz,g1]
 .intro R e
  have g1:nD m (LV "name") (.txt nm)=some (.row R):=by
   unfold nD;rw[if_pos rfl];dsimp only;rw[e];rfl
  constructor
  .intro s es
   unfold cf.out du;dsimp only;rw[e1];dsimp only;rw[if_neg (by simp),if_neg ok];simp only[Mr,List.zip_nil_right,cT,r1,Mz,g1,e2];rw[if_neg nn,if_pos trivial,es]
  .intro s es
   unfold cf.out du;dsimp only;rw[e1];dsimp only;rw[if_neg (by simp),if_neg ok];simp only[Mr,List.zip_nil_right,cT,r1,Mz,g1,e2];rw[if_neg nn,if_pos trivial,es]
theorem dR{a b:Str}(ha:PyData.strOk a=true)(hb:PyData.strOk b=true):PyData.strOk (a++b)=true:=by
 unfold PyData.strOk at*;rw[Array.all_eq_true_iff_forall_mem]at*;intro c hc;have hc:c∈signs (a++b):=by simpa [signs]using hc
 rw[aZ]at hc;rcases List.mem_append.mp hc with h|h
 .exact ha c (by simpa [signs]using h)
 .exact hb c (by simpa [signs]using h)
theorem vw{z:Str}(hz:PyData.strOk z=true):∀{ts:List Str},(∀t∈ts,PyData.strOk t=true)->PyData.strOk (Str.join z ts)=true
 |[],_=>by show PyData.strOk (⟨#[]⟩:Str)=true;decide+kernel
 |[t],h=>h t Mg
 |t::u::r,h=>by
  have e:Str.join z (t::u::r)=t++z++Str.join z (u::r):=rfl;rw[e];exact dR (dR (h t Mg) hz) (vw hz fun x hx=>h x (Mh _ hx))
theorem yP(i:Int):PyData.strOk (aM i)=true:=dN _
theorem cS(p:Str×List (Int×Int))(m:Kept)(y:Str):rowOf (p::m) y=if p.1=y then some p.2 else rowOf m y:=by
 unfold rowOf;by_cases c:p.1=y
 .rw[List.find?_cons_of_pos (by simpa using c),if_pos c]
  rfl
 .rw[List.find?_cons_of_neg (by simpa using c),if_neg c]
theorem rq{x y:Str}{R:List (Int×Int)}:∀m:Kept,rowOf (m.map fun p=>if p.1=x then(p.1,R)else p) y=if x=y then(rowOf m y).map fun _=>R else rowOf m y
 |[]=>by
  have e:rowOf ([]:Kept) y=none:=rfl;rw[List.map_nil,e]
  split<;>rfl
 |p::m=>by
  rw[L9,cS,cS,rq m];by_cases c:p.1=x
  .rw[if_pos c]
   dsimp only;by_cases d:p.1=y
   .rw[if_pos d,if_pos (c.symm.trans d),if_pos d]
    rfl
   .rw[if_neg d,if_neg d]
  .rw[if_neg c]
   by_cases d:p.1=y
   .rw[if_pos d,if_neg (fun z=>c (d.trans z.symm)),if_pos d]
   .rw[if_neg d,if_neg d]
theorem qE{x:Str}:∀{m:Kept},(rowOf m x).isSome=m.any fun p=>decide (p.1=x)
 |[]=>rfl
 |p::m=>by
  rw[cS,List.any_cons,←qE];by_cases c:p.1=x
  .rw[if_pos c,decide_eq_true c];rfl
  .rw[if_neg c,decide_eq_false c];rfl
theorem qJ{x y:Str}{R:List (Int×Int)}:∀{m:Kept},rowOf m x=none->rowOf (m++[(x,R)]) y=if x=y then some R else rowOf m y
 |[],_=>by
  rw[List.nil_append,cS]
 |p::m,h=>by
  rw[cS]at h;by_cases c:p.1=x
  .rw[if_pos c]at h;cases h
  .rw[if_neg c]at h
   rw[List.cons_append,cS,cS,qJ h];by_cases d:p.1=y
   .rw[if_pos d,if_pos d,if_neg (fun z=>c (d.trans z.symm))]
   .rw[if_neg d,if_neg d]
theorem qO{x y:Str}{R:List (Int×Int)}:rowOf (kB m x R) y=if x=y then some R else rowOf m y:=by
 unfold kB;rw[←qE]
 cases e:rowOf m x with
 |some v=>
  rw[if_pos (show(some v).isSome=true from rfl),rq];by_cases c:x=y
  .rw[if_pos c,if_pos c,←c,e];rfl
  .rw[if_neg c,if_neg c]
 |none=>
  rw[if_neg (by decide),qJ e]
theorem bO{x:Str}{R:List (Int×Int)}:∀{m:Kept},rowOf m x=some R->(x,R)∈m
 |[],h=>by cases h
 |p::m,h=>by
  rw[cS]at h;by_cases c:p.1=x
  .rw[if_pos c]at h
   cases h;rw[←c];exact Mg
  .rw[if_neg c]at h
   exact Mh _ (bO h)
def hZ(n:Int)(m:Kept):Prop:=∀p∈m,Good n p.2/\p.2.length<=60/\isNm p.1
theorem hZ.put {x:Str}{R:List (Int×Int)}(h:hZ n m)(hx:isNm x)(g:Good n R)(l:R.length<=60):hZ n (kB m x R):=by
 intro p hp;unfold kB at hp
 split at hp
 .obtain⟨q,hq,rfl⟩:=List.mem_map.mp hp
  have:=h q hq
  split
  .exact⟨g,l,this.2.2⟩
  .exact this
 .rcases List.mem_append.mp hp with hp|hp
  .exact h p hp
  .rw[List.mem_singleton.mp hp]
   exact⟨g,l,hx⟩
theorem hZ.names {m:Kept}{n:Int}(h:hZ n m):∀p∈m,p.1.length<=990:=fun p hp=>Mv (h p hp).2.2.2.1 (by decide)
theorem dY.off {H H':Hp}{v:V}{R:List (Int×Int)}{d:MB}{q:List (Key×V)}(h:dY H v R)(e:H d=some (.dK q))(k:∀b o,b≠d->H b=some o->H' b=some o):dY H' v R:=by
 obtain⟨l,es,e1,h1,h2⟩:=h;have ne:∀b o,H b=some o->(∀q,o≠.dK q)->b≠d:=fun b o hb hn z=>by rw[z,e]at hb;cases hb;exact hn _ rfl
 exact⟨l,es,e1,k _ _ (ne _ _ h1 fun q z=>nomatch z) h1,h2.keep fun b xs hb=>k _ _ (ne _ _ hb fun q z=>nomatch z) hb⟩
theorem bj.off {H H':Hp}{ks:List (Key×V)}{m:Kept}{d:MB}{q:List (Key×V)}(h:bj H ks m)(e:H d=some (.dK q))(k:∀b o,b≠d->H b=some o->H' b=some o):bj H' ks m:=Paired.wG h fun _ _ z=>⟨z.1,z.2.off e k⟩
theorem cX.off {C:MB}{H H':Hp}{a b d:MB}{n:Int}{m:Kept}{q:List (Key×V)}(h:cX C H a b n m)(e:H d=some (.dK q))(ne:b≠d)(k:∀b o,b≠d->H b=some o->H' b=some o):cX C H' a b n m:=by
 obtain⟨dx,fs,kvs,ha,hf,hd,ne2,km,ml⟩:=h;exact⟨dx,fs,kvs,k _ _ (fun z=>by rw[z,e]at ha;cases ha) ha,hf,k _ _ ne hd,ne2,km.off e k,ml⟩
end
def Fs:Sp:=fun vs H Q _=>∃(p:MB)(c:Nat),vs=[.ref p]/\br H p c/\c<=90000/\∀(l:MB)(ws:List Str)(H':Hp)(c':Nat),H l=none->H' l=some (.lst (ws.map V.str))->ws.length=4->ws.Nodup->(∀w∈ws,isNm w)->br H' p c'->c'<=c+40->aP p H H'->Q (.ref l) H'
structure Ke(P:MD)(w:ME)(K:W.Frag)(mg:Str->Option MA)(base:MN):Prop extends T1 mg K where
 ay:FnAt P w K mg base "_law_take" 1 ["_law_purse_here","_law_many"] jD
def n8:Str:=LV "abcdefghijklmnopqrstuvwxyz"
def wo(x:Str):Prop:=∀c∈signs x,97<=c/\c<=122
theorem jS:wo n8/\n8.cps.toList.length=26/\n8.length=26:=⟨by unfold wo;decide+kernel,by decide+kernel,by decide+kernel⟩
theorem wo.app {a b:Str}(h:wo a)(g:wo b):wo (a++b):=fun c hc=>by
 rw[aZ]at hc;rcases List.mem_append.mp hc with h'|h'
 .exact h c h'
 .exact g c h'
theorem wo.to {x:Str}(h:wo x){j:Int}(hj:0<=j):wo (Txt.slice x none (some j)):=fun c hc=>by rw[AL x hj]at hc;exact h c (List.mem_of_mem_take hc)
theorem wo.from {x:Str}(h:wo x){j:Int}(hj:0<=j):wo (Txt.slice x (some j) none):=fun c hc=>by rw[vT x hj]at hc;exact h c (List.mem_of_mem_drop hc)
theorem tw(x:Str){j:Int}(h:0<=j)(hj:j<=x.length):(Txt.slice x none (some j)).length=j.toNat:=by
 have e:(signs (Txt.slice x none (some j))).length=_:=congrArg List.length (AL x h);rw[Ma]at e;have l1:(signs (Txt.slice x none (some j))).length=(Txt.slice x none (some j)).length:=rfl;have l2:(signs x).length=x.length:=rfl;lia
theorem By{j:Nat}(h:j<26):∃ch,m9 n8.cps.toList (j:Int)=some ch/\wo ⟨#[ch]⟩/\(signs n8)[j]?=some ch:=by
 have jl:j<n8.cps.toList.length:=by rw[jS.2.1];exact h
 refine⟨_,aR (j:=j) (LZ jl),fun c hc=>?_,LZ jl⟩;have:c=n8.cps.toList[j]:=by simpa [signs]using hc
 rw[this];exact jS.1 _ (List.getElem_mem jl)
theorem pP{α β:Type}(f:α->β):∀{l:List α},(l.map f).Nodup->l.Nodup
 |[],_=>List.nodup_nil
 |x::l,h=>by
  rw[L9,List.nodup_cons]at h;exact List.nodup_cons.mpr ⟨fun z=>h.1 (List.mem_map_of_mem z),pP f h.2⟩
theorem oM{β:Type}{f:Nat->β}(inj:∀a b,a<4->b<4->f a=f b->a=b):((List.range 4).map f).Nodup:=by
 have n:∀a b,a<4->b<4->a≠b->f a≠f b:=fun a b ha hb ne e=>ne (inj a b ha hb e);show [f 0,f 1,f 2,f 3].Nodup;simp only[List.nodup_cons,Mb,Mn,or_false,not_or,List.nodup_nil,and_true,not_false_eq_true];exact⟨⟨n 0 1 (by lia) (by lia) (by lia),n 0 2 (by lia) (by lia) (by lia),n 0 3 (by lia) (by lia) (by lia)⟩,⟨n 1 2 (by lia) (by lia) (by lia),n 1 3 (by lia) (by lia) (by lia)⟩,n 2 3 (by lia) (by lia) (by lia)⟩
def w8:List Str:=["none","row","show","names","forth","order","drop","yes"]
theorem Jm:∀w∈w8,isNm w:=by unfold isNm;decide+kernel
theorem K1:∀j:Nat,j<8->dw (w8.map V.str++w8.map V.str) (some ((j:Int))) (some ((j:Int)+4))=(((w8++w8).drop j).take 4).map V.str/\(((w8++w8).drop j).take 4).length=4/\(((w8++w8).drop j).take 4).Nodup:=by
 intro j h
 match j,h with
 |0,_|1,_|2,_|3,_|4,_|5,_|6,_|7,_=>exact⟨rfl,rfl,by decide+kernel⟩
theorem DB:∀x,x<26->∀y,y<26->(signs n8)[x]?=(signs n8)[y]?->x=y:=by decide+kernel
section
variable{P:MD}{w:ME}{K:W.Frag}{mg:Str->Option MA}{base:MN}
theorem bz:aF ["_law_purse_here","_law_letters","_law_sort","_law_base","_law_k","_law_at","_law_first","_law_some","_law_word"] ["_law_purse_here"] (au (top 124)):=⟨rfl,rfl,rfl,by decide+kernel,rfl,by decide+kernel,by decide+kernel⟩
theorem GW{f:MB}{fd:MM}(F:dJ K "_law_names" "_law_names" (top 124) f fd)(T:Ke P w K mg base):aS P w K mg base fQ 2 f fd ["_law_purse_here"] Fs:=by
 refine F.ok bz (fun vs H Q E h=>?_) (fun cdv A outer s H vs Q E hr h=>?_)
 .obtain⟨p,c,rfl,_⟩:=h
  rfl
 .obtain⟨p,c,rfl,pu,hc,k⟩:=h
  have hu:=iY hr;refine⟨_,(@ag _ _ _ _ _ (aw (i:=1) bz.nd rfl (Or.inr rfl) az)
   (@ag _ _ _ _ _ (aw (i:=2) bz.nd rfl (Or.inl rfl) (ak T.ay (hr.mono (by first|decide|lia)) rfl (aa (pv 0) (aa ai af))))
   (@ag _ _ _ _ _ (aw (i:=3) bz.nd rfl (Or.inr rfl) az)
   (@ag _ _ _ _ _ (dE PassesOwn.never rfl (cN rfl T.bL (aa (ak T.ay (hr.mono (by first|decide|lia)) rfl (aa (pv 0) (aa ai af))) af)) (aC (i:=4) bz.nd rfl (Or.inl rfl)) (aj (aw (i:=3) bz.nd rfl (Or.inr rfl) (av aI (pv 3) (aO Ce (pv 1) (ak T.ay (hr.mono (by first|decide|lia)) rfl (aa (pv 0) (aa ai af))) (fun _ _=>rfl))))))
   (@ag _ _ _ _ _ (aw (i:=5) bz.nd rfl (Or.inr rfl) (ak T.ay (hr.mono (by first|decide|lia)) rfl (aa (pv 0) (aa (av bp (ar fZ rfl T.bP (by decide+kernel) (aa (pv 3) af)) ai) af))))
   (@ag _ _ _ _ _ (aw (i:=6) bz.nd rfl (Or.inr rfl) (ak T.ay (hr.mono (by first|decide|lia)) rfl (aa (pv 0) (aa ai af))))
   (@ag _ _ _ _ _ (@aQ _ _ _ _ _ _ _ _ (aE bY (pv 2) ai (aH _)) (@ag _ _ _ _ _ (@aw _ _ 7 _ _ _ _ bz.nd rfl (Or.inl rfl) (@bf _ _ _ _ (@jN _ _ [V.str (LV "none"),V.str (LV "row"),V.str (LV "show"),V.str (LV "names"),V.str (LV "forth"),V.str (LV "order"),V.str (LV "drop"),V.str (LV "yes")] rfl)) (by rfl) (by first|exact .inl rfl|exact .inr rfl))
   (aj (aA (bq (bR (K:=K) rfl) (av dC (pv 7) (pv 7)) (bu (av dU (pv 6) ai)) (bu (av bp (av dU (pv 6) ai) ai)))))) aB)
   (ag (aQ (aE bY (pv 2) ai (aH _)) (ag (aw (i:=8) bz.nd rfl (Or.inr rfl) (bq mP (av aI (av aI (pv 3) (bq mP (pv 1) (bu (pv 6)) bS)) (pv 1)) bS (bu (av bp ai (av dU (pv 5) ai)))))
   (aj (aA (bJ (N:=(["_law_k","_law_word"]:List Str)) (ix:=([none,some 8]:List (Option Nat))) (aW rfl rfl) rfl (cN rfl T.bL (aa ai af)) (fun _ _ _ _=>(aC (i:=0) (show List.Nodup (["_law_k","_law_word"]:List Str)from by decide+kernel) rfl (Or.inl rfl))) (fun _ _ _ _=>bg) (fun _ _ _ _=>(bq mP (pv 1) bS (bu (av cO (ar fZ rfl T.bP (by decide+kernel) (aa (pv 1) af)) (pv 0))))))))) aB)
   (aj (aA (bJ (N:=(["_law_k","_law_base","_law_letters","_law_at","_law_first"]:List Str)) (ix:=([none,some 3,some 1,some 5,some 6]:List (Option Nat))) (aW rfl rfl) rfl (cN rfl T.bL (aa ai af)) (fun _ _ _ _=>(aC (i:=0) (show List.Nodup (["_law_k","_law_base","_law_letters","_law_at","_law_first"]:List Str)from by decide+kernel) rfl (Or.inl rfl))) (fun _ _ _ _=>bg) (fun _ _ _ _=>(av aI (av aI (bq mP (pv 1) bS (bu (pv 3))) (aO Ce (pv 2) (av dU (av bp (pv 4) (av jj ai (pv 0))) ai) (fun _ _=>rfl))) (bq mP (pv 1) (bu (pv 3)) bS)))))))))))))),?_⟩
  have big:(10000000:Nat)<=MG:=by decide
  have al:n8.length<=MG:=by rw[jS.2.2];lia
  have a26:=jS.2.2;refine⟨_,rfl,p,c,4,rfl,pu,by lia,by decide,by decide,fun AG H1 s0 s1 pu1 x1=>?_⟩;refine⟨_,rfl,p,c+1,8,rfl,pu1,by lia,by decide,by decide,fun r8 H2 e0 e1 pu2 x2=>⟨r8,rfl,by lia,by lia,?_⟩⟩;refine eU (fun i σ H'=>∃v4 b,σ=[some (.ref p),some (.str n8),some (.int AG),some (.str b),v4,none,none,none,none]/\b.length=i/\wo b/\br H' p (c+2+i)/\aP p H H') ⟨_,LV "",rfl,by decide+kernel,by unfold wo;decide+kernel,pu2,x1.trans x2⟩ ?_ ?_
  .rintro i σ H' hi ⟨v4,b,rfl,bl',lo,pu',xx⟩
   refine⟨_,rfl,_,rfl,_,rfl,p,c+2+i,26,rfl,pu',by lia,by decide,by decide,fun t H4 t0 t1 pu4 x4=>?_⟩;obtain⟨j,rfl⟩:=Int.eq_ofNat_of_zero_le t0;obtain⟨ch,hat,lch,_⟩:=By (j:=j) (by lia);have one:(⟨#[ch]⟩:Str).length=1:=rfl;exact⟨n8,(j:Int),ch,rfl,rfl,al,hat,_,_,rfl,rfl,by lia,_,_,rfl,by rw[Str.length_append,bl'];rfl,lo.app lch,pu4,xx.trans x4⟩
  rintro σ H3 ⟨v4,b,rfl,bl',lo,pu3,xx⟩;have r7:r8.toNat<=7:=by lia
  have two:(1000:Int)<2^200:=by decide
  refine⟨_,rfl,_,rfl,b,rfl,by lia,_,_,rfl,rfl,p,c+2+r8.toNat,(b.length:Int)+1,rfl,pu3,by lia,by lia,by lia,fun at_ H4 a0 a1 pu4 x4=>?_⟩;refine⟨_,rfl,p,_,26,rfl,pu4,by lia,by decide,by decide,fun fi H5 f0 f1 pu5 x5=>?_⟩;have x5:=(xx.trans x4).trans x5;have fin:∀(G:Hp)(l:MB)(ws:List Str),ah H5 G->G l=none->ws.length=4->ws.Nodup->(∀w∈ws,isNm w)->Q (.ref l) (upd G l (.lst (ws.map V.str))):=fun G l ws sG hl wl nd wn=>
   k l ws _ _ (by
    have h5:H5 l=none:=sG.free hl
    cases e:H l with
    |none=>rfl
    |some o=>
     have ne:l≠p:=fun z=>by
      obtain⟨ys,hy⟩:=pu5.at;rw[z,hy]at h5;cases h5
     rw[x5 l o ne e]at h5;cases h5) ae wl nd wn (pu5.keep (sG.trans (ah.new hl))) (by lia) (x5.trans (sG.trans (ah.new hl)).x)
  refine⟨_,rfl,rfl,_,rfl,dD (fun _=>?_) (fun _=>?_)⟩
  .refine⟨by show 8<=MG;lia,fun l7 f7=>?_⟩
   have h7:upd H5 l7 (.lst (w8.map V.str)) l7=some (.lst (w8.map V.str)):=ae;have s7:ah H5 (upd H5 l7 (.lst (w8.map V.str))):=ah.new f7;refine⟨_,rfl,_,rfl,l7,l7,w8.map V.str,w8.map V.str,rfl,rfl,h7,h7,by show 16<=MG;lia,fun l8 f8=>?_⟩;have q8:upd (upd H5 l7 (.lst (w8.map V.str))) l8 (.lst (w8.map V.str++w8.map V.str)) l8=some (.lst (w8.map V.str++w8.map V.str)):=ae;have s8:=s7.trans (ah.new (o:= .lst (w8.map V.str++w8.map V.str)) f8);refine⟨_,rfl,_,_,rfl,rfl,by show(0:Int)<8;decide,_,rfl,_,rfl,_,_,rfl,rfl,by show(0:Int)<8;decide,_,_,rfl,rfl,_,rfl,l8,_,rfl,aG.of q8,fun l9 f9=>?_⟩;obtain⟨j,hj⟩:=Int.eq_ofNat_of_zero_le (Int.emod_nonneg fi (by decide:(8:Int)≠0));have j8:j<8:=by have:=Int.emod_lt_of_pos fi (by decide:(0:Int)<8);lia
   obtain⟨c1,c2,c3⟩:=K1 j j8;rw[show fi%8=(j:Int)from hj,c1];exact fin _ l9 _ s8 f9 c2 c3 fun w hw=>by
    have:=List.mem_of_mem_drop (List.mem_of_mem_take hw);rcases List.mem_append.mp this with h|h<;>exact Jm w h
  refine⟨_,rfl,rfl,_,rfl,dD (fun _=>?_) (fun _=>?_)⟩
  .have lf:(Txt.slice n8 (some fi) none).length<=26:=by rw[←a26];exact Txt.slice_le _ _ _
   have m0:=Int.emod_nonneg at_ (by decide:(5:Int)≠0)
   have m1:=Int.emod_lt_of_pos at_ (by decide:(0:Int)<5)
   refine⟨_,rfl,_,rfl,_,rfl,fi,rfl,n8,rfl,al,_,_,rfl,rfl,by lia,_,rfl,_,_,rfl,rfl,by rw[Str.length_append];lia,_,rfl,_,_,rfl,rfl,by show(0:Int)<5;decide,_,_,rfl,rfl,4+at_%5,rfl,_,rfl,by rw[Str.length_append,Str.length_append];lia,?_⟩;have lw:wo (Txt.slice (b++Txt.slice n8 (some fi) none++n8) none (some (4+at_%5))):=((lo.app (jS.1.from f0)).app jS.1).to (by lia);have ll:(Txt.slice (b++Txt.slice n8 (some fi) none++n8) none (some (4+at_%5))).length=(4+at_%5).toNat:=tw _ (by lia) (by rw[Str.length_append,Str.length_append];lia);generalize Txt.slice (b++Txt.slice n8 (some fi) none++n8) none (some (4+at_%5))=wd at lw ll⊢;refine⟨4,rfl,by decide,by decide,pB (k:=0) (fun i ys σ' H'=>(∃ws:List Str,ys=ws.map V.str/\ws.length=i/\ws.map (fun w:Str=>(w.length:Int))=(List.range i).map (fun k:Nat=>(wd.length:Int)-k)/\∀w∈ws,isNm w)/\(∃v,σ'=[v,some (.str wd)])/\H'=H5) (by decide) ⟨⟨[],rfl,rfl,rfl,fun w hw=>absurd hw Mn⟩,⟨none,rfl⟩,rfl⟩ (fun i ys σ' H' ⟨⟨ws,e,l,_⟩,_⟩=>by rw[e,LW];lia) ?_ ?_⟩
   .rintro i ys σ' H' R hi ⟨⟨ws,rfl,wl,wk,wn⟩,⟨v,rfl⟩,rfl⟩ done
    have hi:i<4:=hi;refine⟨_,rfl,_,rfl,wd,rfl,by lia,_,rfl,_,_,rfl,rfl,_,rfl,wd,rfl,by lia,?_⟩;have el:=tw wd (j:=(wd.length:Int)-(0+(i:Int))) (by lia) (by lia);refine done _ _ _ ⟨⟨ws++[Txt.slice wd none (some ((wd.length:Int)-(0+(i:Int))))],by rw[L7];rfl,by rw[LY,wl];rfl,by rw[L7,wk,List.range_succ,L7];congr 1;simp only[L9,List.map_nil,el];congr 1;lia,fun w hw=>?_⟩,⟨_,rfl⟩,rfl⟩;rcases List.mem_append.mp hw with h|h
    .exact wn w h
    .have e:w=Txt.slice wd none (some ((wd.length:Int)-(0+(i:Int)))):=by simpa using h
     rw[e];exact⟨by rw[el];lia,by rw[el];lia,lw.to (by lia)⟩
   .rintro ys σ' H' lq ⟨⟨ws,rfl,wl,wk,wn⟩,_,rfl⟩ fq
    exact fin _ lq ws (ah.refl _) fq wl (pP _ (by rw[wk];exact oM fun a b ha hb e=>by lia)) wn
  .refine⟨4,rfl,by decide,by decide,pB (k:=0) (fun i ys σ' H'=>(∃ws:List Str,ys=ws.map V.str/\ws.length=i/\ws.map (fun w:Str=>(signs w)[at_.toNat]?)=(List.range i).map (fun k:Nat=>(signs n8)[((fi+7*(k:Int))%26).toNat]?)/\∀w∈ws,isNm w)/\(∃v,σ'=[v,some (.str b),some (.str n8),some (.int at_),some (.int fi)])/\H'=H5) (by decide) ⟨⟨[],rfl,rfl,rfl,fun w hw=>absurd hw Mn⟩,⟨none,rfl⟩,rfl⟩ (fun i ys σ' H' ⟨⟨ws,e,l,_⟩,_⟩=>by rw[e,LW];lia) ?_ ?_⟩
   .rintro i ys σ' H' R hi ⟨⟨ws,rfl,wl,wk,wn⟩,⟨v,rfl⟩,rfl⟩ done
    have hi:i<4:=hi;obtain⟨j,hj⟩:=Int.eq_ofNat_of_zero_le (Int.emod_nonneg (fi+7*(0+(i:Int))) (by decide:(26:Int)≠0));have j26:j<26:=by have:=Int.emod_lt_of_pos (fi+7*(0+(i:Int))) (by decide:(0:Int)<26);lia
    obtain⟨ch,hat,lch,hsg⟩:=By j26;have one:(⟨#[ch]⟩:Str).length=1:=rfl;have t1:=tw b a0 (by lia);have t2:=zU b (i:=at_) a0;refine⟨_,rfl,_,rfl,at_,rfl,b,rfl,by lia,_,rfl,_,rfl,_,rfl,_,_,rfl,rfl,.inl ⟨by decide,by decide⟩,_,_,rfl,rfl,_,_,rfl,rfl,by show(0:Int)<26;decide,n8,_,ch,rfl,rfl,al,by rw[←hat];exact congrArg _ hj,_,_,rfl,rfl,by lia,_,rfl,_,rfl,at_,rfl,b,rfl,by lia,_,_,rfl,rfl,by rw[Str.length_append];lia,?_⟩;refine done _ _ _ ⟨⟨ws++[Txt.slice b none (some at_)++⟨#[ch]⟩++Txt.slice b (some at_) none],by rw[L7];rfl,by rw[LY,wl];rfl,?_,fun w hw=>?_⟩,⟨_,rfl⟩,rfl⟩
    .rw[L7,wk,List.range_succ,L7]
     congr 1;simp only[L9,List.map_nil];congr 1;have ix:((fi+7*(i:Int))%26).toNat=j:=by rw[show fi+7*(0+(i:Int))=fi+7*(i:Int) by lia]at hj;lia
     rw[ix,hsg,aZ,aZ,Mp];have ll:(signs (Txt.slice b none (some at_))).length=at_.toNat:=t1
     rw[List.getElem?_append_right (by lia),ll,Nat.sub_self];rfl
    rcases List.mem_append.mp hw with h|h
    .exact wn w h
    .have e:w=Txt.slice b none (some at_)++⟨#[ch]⟩++Txt.slice b (some at_) none:=by simpa using h
     rw[e];exact⟨by rw[Str.length_append,Str.length_append];lia,by rw[Str.length_append,Str.length_append];lia,((lo.to a0).app lch).app (lo.from a0)⟩
   .rintro ys σ' H' lq ⟨⟨ws,rfl,wl,wk,wn⟩,_,rfl⟩ fq
    exact fin _ lq ws (ah.refl _) fq wl (pP _ (by rw[wk];exact oM fun a b ha hb e=>by have:=DB _ (by lia) _ (by lia) e;lia)) wn
end
def uN:Sp:=fun vs H Q _=>∃(l:MB)(r:List Int),vs=[.ref l]/\H l=some (.lst (r.map V.int))/\r.length<=20/\(∀x∈r,0<=x/\x<10^9)/\∀H',ah H H'->Q (.str (lX r)) H'
def qS:Sp:=fun vs H Q _=>∃(t:MB)(n:Int)(xs:List Int),vs=[.ref t]/\H t=some (.tup (xs.map V.int))/\Ord n xs/\n<=12/\∀H',ah H H'->Q (.str (jo (aX n xs))) H'
def uR:Sp:=fun vs H Q _=>∃(r:List Int),vs=[.str (lX r)]/\r≠[]/\r.length<=20/\(∀x∈r,0<=x/\x<10^9)/\∀l H',H l=none->H' l=some (.lst (r.map V.int))->ah H H'->Q (.ref l) H'
def AJ:Sp:=fun vs H Q _=>∃(l:MB)(ws:List V)(rs:List (List Int)),vs=[.ref l]/\H l=some (.lst ws)/\cW H ws rs/\rs.flatten.length<=12/\ws.length<=1000/\∀H',ah H H'->Q (.int (rs.flatten.length:Int)) H'
def rf:Sp:=fun vs H Q _=>∃(n:Int)(xs:List Int),vs=[.str (jo (aX n xs))]/\Ord n xs/\1<=n/\n<=12/\∀t H',H t=none->H' t=some (.tup (xs.map V.int))->ah H H'->Q (.ref t) H'
structure Lb(P:MD)(w:ME)(K:W.Frag)(mg:Str->Option MA)(base:MN):Prop extends T1 mg K where
 eQ:mg "str" =none
 jY:FnAt P w K mg base "show_things" 1 ["things"] uN
 jc:FnAt P w K mg base "rounds" 3 ["order"] fL
structure K7(P:MD)(w:ME)(K:W.Frag)(mg:Str->Option MA)(base:MN):Prop extends T1 mg K where
 bM:FnAt P w K mg base "read_number" 1 ["word"] sT
structure Li(mg:Str->Option MA)(K:W.Frag)(u:MA):Prop extends T1 mg K where
 Fy:mg "sum" =none
 jZ:mg "MOST_THINGS" =some u
 ke:RelV (.int 12) u
structure Lg(P:MD)(w:ME)(K:W.Frag)(mg:Str->Option MA)(base:MN)(C:MB):Prop extends T1 mg K where
 gD:mg "NoRounds" =some (.ref C)
 eN:FnAt P w K mg base "check_text" 1 ["thing"] xt
 kc:FnAt P w K mg base "read_things" 2 ["text"] uR
 kg:FnAt P w K mg base "many_things" 1 ["lists"] AJ
 Cd:FnAt P w K mg base "made" 4 ["n","lists"] AN
 lQ:FnAt P w K mg base "show_order" 4 ["order"] qS
section
variable{P:MD}{w:ME}{K:W.Frag}{mg:Str->Option MA}{base:MN}{u:MA}{C:MB}
theorem pT:aF ["things"] ["things"] (au (top 76)):=⟨rfl,rfl,rfl,by decide+kernel,rfl,by decide+kernel,by decide+kernel⟩
theorem zo{f:MB}{fd:MM}(F:dJ K "show_things" "show_things" (top 76) f fd)(T:Jr mg K u):aS P w K mg base fQ 1 f fd ["things"] uN:=by
 refine F.ok pT (fun vs H Q E h=>?_) (fun cdv A outer s H vs Q E hr h=>?_)
 .obtain⟨l,r,rfl,_⟩:=h
  rfl
 .obtain⟨l,r,rfl,hl,h20,hs,k⟩:=h
  refine⟨_,(aj (aA (bD (K:=K) rfl PySem.F.plainAttrs_str PySem.F.slot_str_join PySem.F.type_str_join (gb (K:=K) rfl) az (aa (bJ (N:=(["thing"]:List Str)) (ix:=([none]:List (Option Nat))) (aW rfl rfl) rfl (aU (K:=K) rfl (pv 0)) (fun _ _ _ _=>(aC (i:=0) (show List.Nodup (["thing"]:List Str)from by decide+kernel) rfl (Or.inl rfl))) (fun _ _ _ _=>bg) (fun _ _ _ _=>(aY eD rfl T.eQ (by decide+kernel) (aa (pv 0) af)))) af)))),?_⟩;refine⟨rfl,_,rfl,l,rfl,⟨_,aG.of hl⟩,gI (K:=K) (a:=l) (xs:=r.map V.int) (k:=0) (fun i ys σ' H'=>ys=((r.take i).map aM).map V.str/\(∃v0,σ'=[v0])/\H'=H) (by rw[LW];lia) ⟨rfl,⟨none,rfl⟩,rfl⟩ (fun i ys σ' H' _ q=>by rw[q.2.2];exact aG.of hl) (fun i ys σ' H' q=>by rw[q.1,LW,LW,Ma];lia) ?_ ?_⟩
  .rintro i ys σ' H' x R hx' ⟨rfl,⟨v0,rfl⟩,rfl⟩ done
   obtain⟨z,rfl,hz⟩:=fY hx';obtain⟨z0,z9⟩:=hs z (Mf hz);refine⟨_,rfl,z,rfl,eT z0 z9,done _ _ _ ⟨?_,⟨_,rfl⟩,rfl⟩⟩;rw[aK aM hz,L7];rfl
  .rintro ys σ' H' q ⟨rfl,⟨v0,rfl⟩,e0⟩ fq
   have e0:=e0.symm;subst e0;rw[Mi (by rw[LW];lia)];refine⟨_,q,r.map aM,rfl,rfl,aG.of ae,bK (B:=9) (by decide+kernel) (fun y hy=>?_) (by decide) (by rw[LW];lia),k _ (ah.new fq)⟩;obtain⟨z,hz,rfl⟩:=List.mem_map.mp hy;exact fB (hs z hz).1 (hs z hz).2
theorem pQ:aF ["text"] ["text"] (au (top 82)):=⟨rfl,rfl,rfl,by decide+kernel,rfl,by decide+kernel,by decide+kernel⟩
theorem zV{f:MB}{fd:MM}(F:dJ K "read_things" "read_things" (top 82) f fd)(T:K7 P w K mg base):aS P w K mg base fQ 2 f fd ["text"] uR:=by
 refine F.ok pQ (fun vs H Q E h=>?_) (fun cdv A outer s H vs Q E hr h=>?_)
 .obtain⟨r,rfl,_⟩:=h
  rfl
 .obtain⟨r,rfl,ne,h20,hs,k⟩:=h
  refine⟨_,(aj (aA (bJ (N:=(["word"]:List Str)) (ix:=([none]:List (Option Nat))) (aW rfl rfl) rfl (aU (K:=K) rfl (bD (K:=K) rfl PySem.F.plainAttrs_str PySem.F.slot_str_split PySem.F.type_str_split jx (pv 0) (aa az af))) (fun _ _ _ _=>(aC (i:=0) (show List.Nodup (["word"]:List Str)from by decide+kernel) rfl (Or.inl rfl))) (fun _ _ _ _=>bg) (fun _ _ _ _=>(ak T.bM (hr.mono (by first|decide|lia)) rfl (aa (pv 0) af)))))),?_⟩;have tl:=nQ hs;refine⟨_,rfl,rfl,_,_,rfl,rfl,by decide+kernel,by lia,fun l1 f1=>⟨l1,rfl,⟨_,aG.of ae⟩,?_⟩⟩;rw[uu ne fun x hx=>(hs x hx).1];have s1:ah H (upd H l1 (.lst ((r.map aM).map V.str))):=ah.new f1;have h1:upd H l1 (.lst ((r.map aM).map V.str)) l1=some (.lst ((r.map aM).map V.str)):=ae;generalize upd H l1 (.lst ((r.map aM).map V.str))=H1 at s1 h1⊢;refine gI (K:=K) (a:=l1) (xs:=(r.map aM).map V.str) (k:=0) (fun i ys σ' H'=>ys=(r.take i).map V.int/\(∃v0,σ'=[v0])/\H'=H1) (by rw[LW,LW];lia) ⟨rfl,⟨none,rfl⟩,rfl⟩ (fun i ys σ' H' _ q=>by rw[q.2.2];exact aG.of h1) (fun i ys σ' H' q=>by rw[q.1,LW,Ma];lia) ?_ ?_
  .rintro i ys σ' H' x R hx' ⟨rfl,⟨v0,rfl⟩,rfl⟩ done
   obtain⟨z,hz,rfl⟩:∃z,r[i]?=some z/\V.str (aM z)=x:=by
    rw[LX,LX]at hx'
    cases e:r[i]? with
    |none=>rw[e]at hx';cases hx'
    |some e'=>rw[e]at hx';exact⟨e',rfl,My hx'⟩
   obtain⟨z0,z9⟩:=hs z (Mf hz);refine⟨_,rfl,z,rfl,z0,z9,done _ _ _ ⟨?_,⟨_,rfl⟩,rfl⟩⟩;rw[aK V.int hz]
  .rintro ys σ' H' q ⟨rfl,⟨v0,rfl⟩,e0⟩ fq
   have e0:=e0.symm;subst e0;rw[Mi (by rw[LW,LW];lia)];exact k q _ (s1.free fq) ae (s1.trans (ah.new fq))
theorem jk:aF ["lists","many"] ["lists"] (au (top 83)):=⟨rfl,rfl,rfl,by decide+kernel,rfl,by decide+kernel,by decide+kernel⟩
theorem Dd{f:MB}{fd:MM}(F:dJ K "many_things" "many_things" (top 83) f fd)(T:Li mg K u):aS P w K mg base fQ 1 f fd ["lists"] AJ:=by
 refine F.ok jk (fun vs H Q E h=>?_) (fun cdv A outer s H vs Q E hr h=>?_)
 .obtain⟨l,ws,rs,rfl,_⟩:=h
  rfl
 .obtain⟨l,ws,rs,rfl,hl,hx,h12,hw,k⟩:=h
  refine⟨_,(ag (aw (i:=1) jk.nd rfl (Or.inl rfl) (ar (BC (K:=K) rfl rfl) rfl T.Fy (by decide+kernel) (aa (bJ (N:=(["things"]:List Str)) (ix:=([none]:List (Option Nat))) (aW rfl rfl) rfl (aU (K:=K) rfl (pv 0)) (fun _ _ _ _=>(aC (i:=0) (show List.Nodup (["things"]:List Str)from by decide+kernel) rfl (Or.inl rfl))) (fun _ _ _ _=>bg) (fun _ _ _ _=>(ar (aN (K:=K) rfl) rfl T.bP (by decide+kernel) (aa (pv 0) af)))) af)))
   (ag (aQ (aE mV (pv 1) (di rfl T.jZ T.ke) (aH _)) (aj dF) aB)
   (aj (aA (pv 1))))),?_⟩
  have wl:=hx.length;refine⟨_,rfl,l,rfl,⟨_,aG.of hl⟩,gI (K:=K) (a:=l) (xs:=ws) (k:=0) (fun i ys σ' H'=>ys=((rs.take i).map fun r=>(r.length:Int)).map V.int/\(∃v0,σ'=[v0])/\H'=H) (by lia) ⟨rfl,⟨none,rfl⟩,rfl⟩ (fun i ys σ' H' _ q=>by rw[q.2.2];exact aG.of hl) (fun i ys σ' H' q=>by rw[q.1,LW,LW,Ma];lia) ?_ ?_⟩
  .rintro i ys σ' H' x R hx' ⟨rfl,⟨v0,rfl⟩,rfl⟩ done
   obtain⟨a,r,rfl,ha,hr'⟩:=hx.get hx';refine⟨_,rfl,a,_,rfl,.inl (aG.of ha),done _ _ _ ⟨?_,⟨_,rfl⟩,rfl⟩⟩;rw[aK (fun r:List Int=>(r.length:Int)) hr',L7,LW];rfl
  .rintro ys σ' H' q ⟨rfl,⟨v0,rfl⟩,e0⟩ fq
   have e0:=e0.symm;subst e0;rw[Mi (by lia)];have sm:(rs.map fun r=>(r.length:Int)).sum=(rs.flatten.length:Int):=by
    clear hx h12 wl k
    induction rs with
    |nil=>rfl
    |cons r rs ih=>rw[L9,List.sum_cons,ih,List.flatten_cons,LY];lia
   refine⟨q,_,rfl,aG.of ae,?_⟩;rw[sm];exact⟨_,rfl,_,_,rfl,rfl,_,rfl,jW (decide_eq_false (by lia)) ⟨_,rfl,k _ (ah.new fq)⟩⟩
theorem p7:aF ["order"] ["order"] (au (top 77)):=⟨rfl,rfl,rfl,by decide+kernel,rfl,by decide+kernel,by decide+kernel⟩
theorem xI{f:MB}{fd:MM}(F:dJ K "show_order" "show_order" (top 77) f fd)(T:Lb P w K mg base):aS P w K mg base fQ 4 f fd ["order"] qS:=by
 refine F.ok p7 (fun vs H Q E h=>?_) (fun cdv A outer s H vs Q E hr h=>?_)
 .obtain⟨t,n,xs,rfl,_⟩:=h
  rfl
 .obtain⟨t,n,xs,rfl,ht,ho,n12,k⟩:=h
  refine⟨_,(aj (aA (bD (K:=K) rfl PySem.F.plainAttrs_str PySem.F.slot_str_join PySem.F.type_str_join (gb (K:=K) rfl) az (aa (bJ (N:=(["found"]:List Str)) (ix:=([none]:List (Option Nat))) (aW rfl rfl) rfl (aU (K:=K) rfl (ak T.jc (hr.mono (by first|decide|lia)) rfl (aa (pv 0) af))) (fun _ _ _ _=>(aC (i:=0) (show List.Nodup (["found"]:List Str)from by decide+kernel) rfl (Or.inl rfl))) (fun _ _ _ _=>bg) (fun _ _ _ _=>(av aI (av aI az (ak T.jY (hr.mono (by first|decide|lia)) rfl (aa (pv 0) af))) az))) af)))),?_⟩;have big:(10000000:Nat)<=MG:=by decide
  obtain⟨f1,f2,f3⟩:=jU ho;refine⟨rfl,_,rfl,t,n,xs,rfl,ht,ho,by lia,fun l ws H1 fl hl xw _ _ s1=>?_⟩;have wl:=xw.length;refine⟨l,rfl,⟨_,aG.of hl⟩,gI (K:=K) (a:=l) (xs:=ws) (k:=0) (fun i ys σ' H'=>ys=(((aX n xs).take i).map DI).map V.str/\(∃v0,σ'=[v0])/\ah H1 H') (by lia) ⟨rfl,⟨none,rfl⟩,ah.refl _⟩ (fun i ys σ' H' _ q=>aG.of (q.2.2 _ _ hl)) (fun i ys σ' H' q=>by rw[q.1,LW,LW,Ma];lia) ?_ ?_⟩
  .rintro i ys σ' H2 x R hx' ⟨rfl,⟨v0,rfl⟩,s2⟩ done
   obtain⟨a,r,rfl,ha,hr'⟩:=xw.get hx';obtain⟨g1,g2,g3⟩:=f2 r (Mf hr');have g4:∀x∈r,0<=x/\x<10^9:=fun x hx=>by have:=g3 x hx;lia
   have tl:=nQ g4;have bl:(LV "(").length=1:=by decide+kernel
   have cl:(LV ")").length=1:=by decide+kernel
   refine⟨_,rfl,a,r,rfl,s2 _ _ ha,by lia,g4,fun H3 s3=>⟨_,_,rfl,rfl,by lia,_,_,rfl,rfl,by rw[Str.length_append];lia,?_⟩⟩;refine done _ _ _ ⟨?_,⟨_,rfl⟩,s2.trans s3⟩;rw[aK DI hr',L7];rfl
  .rintro ys σ' H2 q ⟨rfl,⟨v0,rfl⟩,s2⟩ fq
   rw[Mi (by lia)];refine⟨_,q,(aX n xs).map DI,rfl,rfl,aG.of ae,bK (B:=202) (by decide+kernel) (fun y hy=>?_) (by decide) (by rw[LW];lia),k _ (s1.trans (s2.trans (ah.new fq)))⟩;obtain⟨r,hr',rfl⟩:=List.mem_map.mp hy;obtain⟨g1,g2,g3⟩:=f2 r hr';have tl:=nQ (r:=r) fun x hx=>by have:=g3 x hx;lia
   rw[←bB,lC,L8,LY,bB,List.length_singleton];lia
theorem eY:aF ["text","lists","many","order"] ["text"] (au (top 84)):=⟨rfl,rfl,rfl,by decide+kernel,rfl,by decide+kernel,by decide+kernel⟩
theorem xM{f:MB}{fd:MM}(F:dJ K "read_order" "read_order" (top 84) f fd)(T:Lg P w K mg base C):aS P w K mg base fQ 5 f fd ["text"] rf:=by
 refine F.ok eY (fun vs H Q E h=>?_) (fun cdv A outer s H vs Q E hr h=>?_)
 .obtain⟨n,xs,rfl,_⟩:=h
  rfl
 .obtain⟨n,xs,rfl,ho,n1,n12,k⟩:=h
  refine⟨_,(ag (dh (ak T.eN (hr.mono (by first|decide|lia)) rfl (aa (pv 0) af)))
   (ag (fu (i:=1) eY.nd rfl rfl (N:=(["inner"]:List Str)) (ix:=([none]:List (Option Nat))) (aW rfl rfl) rfl (aU (K:=K) rfl (bD (K:=K) rfl PySem.F.plainAttrs_str PySem.F.slot_str_split PySem.F.type_str_split jx (bq mP (pv 0) (bu ai) (bu (vR oz ai))) (aa az af))) (fun _ _ _ _=>(aC (i:=0) (show List.Nodup (["inner"]:List Str)from by decide+kernel) rfl (Or.inl rfl))) (fun _ _ _ _=>bg) (fun _ _ _ _=>(ak T.kc (hr.mono (by first|decide|lia)) rfl (aa (pv 0) af))))
   (ag (aw (i:=2) eY.nd rfl (Or.inl rfl) (ak T.kg (hr.mono (by first|decide|lia)) rfl (aa (pv 1) af)))
   (ag (GK (fun _ _=>(aj (aw (i:=3) eY.nd rfl (Or.inl rfl) (ak T.Cd (hr.mono (by first|decide|lia)) rfl (aa (pv 2) (aa (pv 1) af)))))) (Ec rfl T.gD (fun _=>(aj dF)) HG))
   (ag (aQ (aE gH (ak T.lQ (hr.mono (by first|decide|lia)) rfl (aa (pv 3) af)) (pv 0) (aH _)) (aj dF) aB)
   (aj (aA (pv 3)))))))),?_⟩
  have big:(10000000:Nat)<=MG:=by decide
  obtain⟨f1,f2,f3⟩:=jU ho;have ne:aX n xs≠[]:=by intro z;rw[z]at f1;simp at f1;lia
  have f4:∀r∈aX n xs,r.length<=20/\∀x∈r,0<=x/\x<10^9:=fun r hr'=>by
   obtain⟨_,g2,g3⟩:=f2 r hr';exact⟨by lia,fun x hx=>by have:=g3 x hx;lia⟩
  have ol:=Br f4;refine⟨_,rfl,_,rfl,?_⟩;refine⟨_,rfl,1,rfl,_,rfl,_,rfl,_,rfl,by lia,rfl,_,_,rfl,rfl,by decide+kernel,?_,fun l1 fl1=>⟨l1,rfl,⟨_,aG.of ae⟩,?_⟩⟩
  .exact Mv (Txt.slice_le _ _ _) (by lia)
  rw[rF ne fun r hr' x hx=>by have:=((f4 r hr').2 x hx);lia];have s1:ah H (upd H l1 (.lst (((aX n xs).map lX).map V.str))):=ah.new fl1;have h1:upd H l1 (.lst (((aX n xs).map lX).map V.str)) l1=some (.lst (((aX n xs).map lX).map V.str)):=ae;generalize upd H l1 (.lst (((aX n xs).map lX).map V.str))=H1 at s1 h1⊢;have ll:(((aX n xs).map lX).map V.str).length=(aX n xs).length:=by rw[LW,LW]
  refine gI (K:=K) (a:=l1) (xs:=((aX n xs).map lX).map V.str) (k:=0) (fun i ys σ' H'=>(∃v0,σ'=[v0])/\ah H1 H'/\cW H' ys ((aX n xs).take i)) (by lia) ⟨⟨none,rfl⟩,ah.refl _,.nil⟩ (fun i ys σ' H' _ q=>aG.of (q.2.1 _ _ h1)) (fun i ys σ' H' q=>by have:=q.2.2.length;rw[Ma]at this;lia) ?_ ?_
  .rintro i ys σ' H2 x R hx ⟨⟨v0,rfl⟩,s2,x2⟩ done
   obtain⟨r,hri,rfl⟩:∃r,(aX n xs)[i]?=some r/\V.str (lX r)=x:=by
    rw[LX,LX]at hx
    cases e:(aX n xs)[i]? with
    |none=>rw[e]at hx;cases hx
    |some e'=>rw[e]at hx;exact⟨e',rfl,My hx⟩
   have rm:=Mf hri;refine⟨_,rfl,r,rfl,(f2 r rm).1,(f4 r rm).1,(f4 r rm).2,fun l2 H3 fl2 h3 s3=>?_⟩;refine done _ _ _ ⟨⟨_,rfl⟩,s2.trans s3,?_⟩;rw[Mq,hri];exact(x2.keep s3).snoc h3
  .rintro ys σ' H2 q ⟨⟨v0,rfl⟩,s2,x2⟩ fq
   rw[Mi (by lia)]at x2;have s3:ah H2 (upd H2 q (.lst ys)):=ah.new fq;have x3:=x2.keep s3;have s13:=s1.trans (s2.trans s3);have h3:upd H2 q (.lst ys) q=some (.lst ys):=ae;generalize upd H2 q (.lst ys)=H3 at s3 x3 s13 h3⊢;have yl:=x3.length;refine⟨_,rfl,q,ys,aX n xs,rfl,h3,x3,by lia,by lia,fun H4 s4=>?_⟩;have h4:=s4 _ _ h3;have x4:=x3.keep s4;have fe:((aX n xs).flatten.length:Int)=n:=by lia
   rw[fe];refine⟨_,rfl,_,rfl,n,q,ys,aX n xs,xs,rfl,by lia,by lia,h4,x4,by lia,fun r hr'=>by have:=(f4 r hr').1;lia,ho.length,uc ho,fun t H5 ft ht s5=>?_⟩;refine⟨_,rfl,t,n,xs,rfl,ht,ho,n12,fun H6 s6=>⟨_,rfl,rfl,_,rfl,jW (by rw[decide_eq_true rfl];rfl) ⟨_,rfl,k t H6 ((s13.trans s4).free ft) (s6 _ _ ht) (s13.trans (s4.trans (s5.trans s6)))⟩⟩⟩
end
theorem Ci{n:Int}{w:Str}{xs:List Int}(h:uw (.str (bl w)) n xs):cL n (LV "order") w=some (.ord xs):=by
 unfold cL;have hx:∃ys,uw (.str (bl w)) n ys:=⟨xs,h⟩;rw[if_neg (by decide+kernel),if_neg (by decide+kernel),if_pos rfl,dif_pos hx,(hx.choose_spec.uniq h).1]
theorem yT{n:Int}{xs:List Int}(o:Ord n xs)(n1:1<=n)(n12:n<=12):cL n (LV "order") (mj (aX n xs))=some (.ord xs):=
 Ci ⟨by rw[D6 fun r hr x hx=>by have:=(qQ o n1 n12).2.2.1 r hr x hx;lia],o,n1,n12⟩
theorem Ei{L:cf}{vs:List V}{H:Hp}{Q:VK}{E:XK}(h:AV L vs H Q E):rf vs H Q E:=by
 obtain⟨_,n,w,xs,rfl,ex,k⟩:=h;unfold cL at ex;rw[if_neg (by decide+kernel),if_neg (by decide+kernel),if_pos rfl]at ex
 split at ex
 .rename_i h
  have ho:=h.choose_spec;cases ex;have e1:=ho.1;injection e1 with e1
  have hl:=Ord.length ho.2.1;have n1:=ho.2.2.1;exact⟨n,_,by rw[←e1],ho.2.1,ho.2.2.1,ho.2.2.2,fun t H' _ ht sm=>k t H' ht (by lia) sm⟩
 .cases ex
theorem oV{m:Kept}{nm:Str}{R:List (Int×Int)}(h:rowOf m nm=some R):nD m (LV "name") (.txt nm)=some (.row R):=by
 unfold nD;rw[if_pos rfl];dsimp only;rw[h];rfl
theorem oS{m:Kept}{nm:Str}(h:rowOf m nm=none):nD m (LV "name") (.txt nm)=none:=by
 unfold nD;rw[if_pos rfl];dsimp only;rw[h];rfl
theorem iB{m:Kept}{nm:Str}:nD m (LV "new") (.txt nm)=some (.txt nm):=if_neg (by decide+kernel)
section
variable{okd:Str->Bool}{ans:Str->Int->List Wd->Option (Except MB Str)}{U:Str->Bool}{CT CN CB CM:MB}{n:Int}{m:Kept}{x y z:Str}
theorem uO(h1:okd "name" =true)(hx:isNm x):
  (rowOf m x=none->(du okd ans U CT CN CB CM).out n m [LV "drop",x]=some (.jK CN))/\
  ∀R,rowOf m x=some R->(du okd ans U CT CN CB CM).out n m [LV "drop",x]=some (.del x):=by
 have e1:jb (LV "drop")=some [LV "name"]:=by decide+kernel
 have e2:decide (LV "drop"∈o7)=false:=by decide+kernel
 have r1:cL n (LV "name") x=some (.txt x):=fJ hx;have ok:¬([LV "name"].all okd=false):=by rw[Mc,List.all_nil,show okd (LV "name")=true from h1];decide
 constructor
 .intro e
  unfold cf.out du;dsimp only;rw[e1];dsimp only;rw[if_neg (by simp),if_neg ok];simp only[Mr,List.zip_nil_right,cT,r1,Mz,oS e]
 .intro R e
  unfold cf.out du;dsimp only;rw[e1];dsimp only;rw[if_neg (by simp),if_neg ok];simp only[Mr,List.zip_nil_right,cT,r1,Mz,oV e,e2];rw[if_neg (by decide+kernel),if_neg (by decide),if_pos trivial,e];rfl
theorem uv(h1:okd "new" =true)(h2:okd "name" =true)(hu:U "copy" =true)(hx:isNm x)(hy:isNm y):
  (rowOf m y=none->(du okd ans U CT CN CB CM).out n m [LV "copy",x,y]=some (.jK CN))/\
  ∀R,rowOf m y=some R->(du okd ans U CT CN CB CM).out n m [LV "copy",x,y]=some (.put x R):=by
 have e1:jb (LV "copy")=some [LV "new",LV "name"]:=by decide+kernel
 have e2:decide (LV "copy"∈o7)=false:=by decide+kernel
 have r1:cL n (LV "new") x=some (.txt x):=lA hx;have r2:cL n (LV "name") y=some (.txt y):=fJ hy;have ok:¬([LV "new",LV "name"].all okd=false):=by rw[Mc,Mc,List.all_nil,show okd (LV "new")=true from h1,show okd (LV "name")=true from h2];decide
 constructor
 .intro e
  unfold cf.out du;dsimp only;rw[e1];dsimp only;rw[if_neg (by simp),if_neg ok];simp only[Mr,List.zip_nil_right,cT,r1,r2,Mz,iB,oS e,Option.map_none]
 .intro R e
  have r3:jr U CB CM (LV "copy") [.txt x,.row R]=some (.ok R):=by
   unfold jr;rw[if_neg (by rw[show U (LV "copy")=true from hu];decide)];dsimp only;rw[if_pos (.inr rfl)]
  unfold cf.out du;dsimp only;rw[e1];dsimp only;rw[if_neg (by simp),if_neg ok];simp only[Mr,List.zip_nil_right,cT,r1,r2,Mz,iB,oV e,e2];rw[if_neg (by decide+kernel),if_neg (by decide),if_neg (by decide+kernel),r3]
theorem pf(h1:okd "new" =true)(h2:okd "name" =true)(hu:U "join" =true)(hx:isNm x)(hy:isNm y)(hz:isNm z):
  ((rowOf m y=none\/rowOf m z=none)->(du okd ans U CT CN CB CM).out n m [LV "join",x,y,z]=some (.jK CN))/\
  ∀R S,rowOf m y=some R->rowOf m z=some S->R.length<=60->S.length<=60->(du okd ans U CT CN CB CM).out n m [LV "join",x,y,z]=some (if 60<R.length+S.length then .jK CB else .put x (R++S)):=by
 have e1:jb (LV "join")=some [LV "new",LV "name",LV "name"]:=by decide+kernel
 have e2:decide (LV "join"∈o7)=false:=by decide+kernel
 have r1:cL n (LV "new") x=some (.txt x):=lA hx;have r2:cL n (LV "name") y=some (.txt y):=fJ hy;have r3:cL n (LV "name") z=some (.txt z):=fJ hz;have ok:¬([LV "new",LV "name",LV "name"].all okd=false):=by rw[Mc,Mc,Mc,List.all_nil,show okd (LV "new")=true from h1,show okd (LV "name")=true from h2];decide
 constructor
 .intro e
  unfold cf.out du;dsimp only;rw[e1];dsimp only;rw[if_neg (by simp),if_neg ok]
  cases ey:rowOf m y with
  |none=>simp only[Mr,List.zip_nil_right,cT,r1,r2,r3,Mz,iB,oS ey,Option.map_none]
  |some R=>
   rcases e with e|e
   .rw[ey]at e;cases e
   .simp only[Mr,List.zip_nil_right,cT,r1,r2,r3,Mz,iB,oV ey,oS e,Option.map_none]
 .intro R S ey ez l1 l2
  have r4:jr U CB CM (LV "join") [.txt x,.row R,.row S]=some (if 60<R.length+S.length then .error CB else .ok (R++S)):=by
   unfold jr;rw[if_neg (by rw[show U (LV "join")=true from hu];decide)];dsimp only;rw[if_pos ⟨rfl,l1,l2⟩]
   split<;>rfl
  unfold cf.out du;dsimp only;rw[e1];dsimp only;rw[if_neg (by simp),if_neg ok];simp only[Mr,List.zip_nil_right,cT,r1,r2,r3,Mz,iB,oV ey,oV ez,e2];rw[if_neg (by decide+kernel),if_neg (by decide),if_neg (by decide+kernel),r4];by_cases c:60<R.length+S.length
  .rw[if_pos c,if_pos c]
  .rw[if_neg c,if_neg c]
theorem BG{xs:List Int}(h1:okd "new" =true)(h2:okd "order" =true)(hu:U "star" =true)(hx:isNm x)(o:Ord n xs)(n1:1<=n)(n12:n<=12):
  (du okd ans U CT CN CB CM).out n m [LV "star",x,mj (aX n xs)]=some (.put x (jh n xs)):=by
 have e1:jb (LV "star")=some [LV "new",LV "order"]:=by decide+kernel
 have e2:decide (LV "star"∈o7)=false:=by decide+kernel
 have r1:cL n (LV "new") x=some (.txt x):=lA hx;have r2:cL n (LV "order") (mj (aX n xs))=some (.ord xs):=yT o n1 n12;have ol:(xs.length:Int)=n:=by have:=o.length;lia
 have ok:¬([LV "new",LV "order"].all okd=false):=by rw[Mc,Mc,List.all_nil,show okd (LV "new")=true from h1,show okd (LV "order")=true from h2];decide
 have r3:jr U CB CM (LV "star") [.txt x,.ord xs]=some (.ok (jh n xs)):=by
  unfold jr;rw[if_neg (by rw[show U (LV "star")=true from hu];decide)];dsimp only;rw[ol];rw[if_pos ⟨rfl,o,by lia⟩]
 have g2:nD m (LV "order") (.ord xs)=some (.ord xs):=if_neg (by decide+kernel);unfold cf.out du;dsimp only;rw[e1];dsimp only;rw[if_neg (by simp),if_neg ok];simp only[Mr,List.zip_nil_right,cT,r1,r2,Mz,iB,g2,e2];rw[if_neg (by decide+kernel),if_neg (by decide),if_neg (by decide+kernel),r3]
theorem BU{xs:List Int}(h1:okd "new" =true)(h2:okd "order" =true)(hu:U "home" =true)(hx:isNm x)(o:Ord n xs)(n1:1<=n)(n12:n<=12):
  (du okd ans U CT CN CB CM).out n m [LV "home",x,mj (aX n xs)]=some (.put x (ja xs)):=by
 have e1:jb (LV "home")=some [LV "new",LV "order"]:=by decide+kernel
 have e2:decide (LV "home"∈o7)=false:=by decide+kernel
 have r1:cL n (LV "new") x=some (.txt x):=lA hx;have r2:cL n (LV "order") (mj (aX n xs))=some (.ord xs):=yT o n1 n12;have ol:(xs.length:Int)=n:=by have:=o.length;lia
 have ok:¬([LV "new",LV "order"].all okd=false):=by rw[Mc,Mc,List.all_nil,show okd (LV "new")=true from h1,show okd (LV "order")=true from h2];decide
 have r3:jr U CB CM (LV "home") [.txt x,.ord xs]=some (.ok (ja xs)):=by
  unfold jr;rw[if_neg (by rw[show U (LV "home")=true from hu];decide)];dsimp only;rw[ol];rw[if_neg (fun z=>absurd z.1 (by decide+kernel)),if_pos ⟨rfl,o,by lia⟩]
 have g2:nD m (LV "order") (.ord xs)=some (.ord xs):=if_neg (by decide+kernel);unfold cf.out du;dsimp only;rw[e1];dsimp only;rw[if_neg (by simp),if_neg ok];simp only[Mr,List.zip_nil_right,cT,r1,r2,Mz,iB,g2,e2];rw[if_neg (by decide+kernel),if_neg (by decide),if_neg (by decide+kernel),r3]
theorem rE{k:Int}{f:Bool}(h1:okd "name" =true)(h2:okd "number" =true)(hx:isNm x)(k0:0<=k)(k9:k<10^9)(hR:rowOf m x=none):
  (du okd ans U CT CN CB CM).out n m [eW f,x,aM k]=some (.jK CN):=by
 have e1:jb (eW f)=some [LV "name",LV "number"]:=by cases f<;>decide+kernel
 have r1:cL n (LV "name") x=some (.txt x):=fJ hx;have r2:cL n (LV "number") (aM k)=some (.num k):=sP k0 k9;unfold cf.out du;dsimp only;rw[e1];dsimp only;rw[if_neg (by simp),if_neg (by show¬([LV "name",LV "number"].all okd=false);rw[Mc,Mc,List.all_nil,show okd (LV "name")=true from h1,show okd (LV "number")=true from h2];decide)];simp only[Mr,List.zip_nil_right,cT,r1,r2,Mz,oS hR]
end
def EW:Sp:=fun vs H Q _=>∃(l:MB)(es:List V)(row:List (Int×Int))(k n:Int)(f:Bool),vs=[.ref l,.int k,.str (eW f)]/\H l=some (.lst es)/\cP H es row/\Good n row/\row.length<=1000/\1<=k/\k<row.length/\∀l' es' H',H l'=none->H' l'=some (.lst es')->cP H' es' (t7 row (k-1).toNat f)->ah H H'->Q (.ref l') H'
structure Lu(P:MD)(w:ME)(K:W.Frag)(mg:Str->Option MA)(base:MN):Prop extends T1 mg K where
 fV:mg "min" =none
 lN:mg "max" =none
theorem B6(p q:Int):(if q<p then q else p)=min p q:=by split<;>lia
theorem CH(p q:Int):(if q>p then q else p)=max p q:=by split<;>lia
section
variable{P:MD}{w:ME}{K:W.Frag}{mg:Str->Option MA}{base:MN}
theorem bG:aF ["_law_row_here","_law_k","_law_way","_law_one","_law_other","_law_c","_law_d","_law_a","_law_b"] ["_law_row_here","_law_k","_law_way"] (au (top 121)):=⟨rfl,rfl,rfl,by decide+kernel,rfl,by decide+kernel,by decide+kernel⟩
theorem G8{f:MB}{fd:MM}(F:dJ K "_law_moved" "_law_moved" (top 121) f fd)(T:Lu P w K mg base):aS P w K mg base fQ 1 f fd ["_law_row_here","_law_k","_law_way"] EW:=by
 refine F.ok bG (fun vs H Q E h=>?_) (fun cdv A outer s H vs Q E hr h=>?_)
 .obtain⟨l,es,row,k,n,fw,rfl,_⟩:=h
  rfl
 .obtain⟨l,es,row,k,n,fw,rfl,hl,hx,hg,rl,k1,k2,kk⟩:=h
  have hu:=iY hr;refine⟨_,(ag (mB (cp (aa (aO (ax (K:=K) rfl) (pv 0) (av cO (pv 1) ai) (fun _ _=>rfl)) (aa (aO (ax (K:=K) rfl) (pv 0) (pv 1) (fun _ _=>rfl)) af))) (eG (K:=K) (n:=2) rfl rfl (bh (eG (K:=K) (n:=2) rfl rfl (bh (aC (i:=7) bG.nd rfl (Or.inl rfl)) (bh (aC (i:=8) bG.nd rfl (Or.inl rfl)) eC))) (bh (eG (K:=K) (n:=2) rfl rfl (bh (aC (i:=5) bG.nd rfl (Or.inl rfl)) (bh (aC (i:=6) bG.nd rfl (Or.inl rfl)) eC))) eC))))
   (ag (aQ (aE bY (pv 2) az (aH _)) (ag (aw (i:=3) bG.nd rfl (Or.inl rfl) (fH hu (iS (bQ (pv 5) (pv 6) (bQ (pv 6) (pv 5) iA)) rfl rfl (by simp) (by decide)) (pv 7) (pv 7) ⟨rfl,rfl,rfl,rfl⟩))
   (ag (aw (i:=4) bG.nd rfl (Or.inl rfl) (fH hu (iS (bQ (pv 5) (pv 6) (bQ (pv 6) (pv 5) iA)) rfl rfl (by simp) (by decide)) (pv 8) (pv 8) ⟨rfl,rfl,rfl,rfl⟩))
   (aj (aA (av dC (av dC (bq (bR (K:=K) rfl) (pv 0) bS (bu (av cO (pv 1) ai))) (bf (aa (cp (aa (pv 5) (aa (pv 6) af))) (aa (cp (aa (ar (gn rfl) rfl T.fV (by decide+kernel) (aa (pv 3) (aa (pv 4) af))) (aa (ar (jP rfl) rfl T.lN (by decide+kernel) (aa (pv 3) (aa (pv 4) af))) af))) af)))) (bq (bR (K:=K) rfl) (pv 0) (bu (av bp (pv 1) ai)) bS)))))) aB)
   (ag (aw (i:=3) bG.nd rfl (Or.inl rfl) (fH hu (iS (bQ (pv 7) (pv 8) (bQ (pv 8) (pv 7) iA)) rfl rfl (by simp) (by decide)) (pv 5) (pv 5) ⟨rfl,rfl,rfl,rfl⟩))
   (ag (aw (i:=4) bG.nd rfl (Or.inl rfl) (fH hu (iS (bQ (pv 7) (pv 8) (bQ (pv 8) (pv 7) iA)) rfl rfl (by simp) (by decide)) (pv 6) (pv 6) ⟨rfl,rfl,rfl,rfl⟩))
   (aj (aA (av dC (av dC (bq (bR (K:=K) rfl) (pv 0) bS (bu (av cO (pv 1) ai))) (bf (aa (cp (aa (ar (gn rfl) rfl T.fV (by decide+kernel) (aa (pv 3) (aa (pv 4) af))) (aa (ar (jP rfl) rfl T.lN (by decide+kernel) (aa (pv 3) (aa (pv 4) af))) af))) (aa (cp (aa (pv 7) (aa (pv 8) af))) af)))) (bq (bR (K:=K) rfl) (pv 0) (bu (av bp (pv 1) ai)) bS)))))))),?_⟩
  have big:(10000000:Nat)<=MG:=by decide
  have two:2<=MG:=by decide
  have xl:=hx.length;obtain⟨v1,hv1⟩:∃v,es[(k-1).toNat]?=some v:=⟨_,LZ (by lia)⟩;obtain⟨v2,hv2⟩:∃v,es[k.toNat]?=some v:=⟨_,LZ (by lia)⟩;obtain⟨ts,a,b,rfl,hts,hr1⟩:=hx.get hv1;obtain⟨tt,c,d,rfl,htt,hr2⟩:=hx.get hv2;have er1:row.getD (k-1).toNat (0,0)=(a,b):=by rw[Me,hr1];rfl
  have er2:row.getD ((k-1).toNat+1) (0,0)=(c,d):=by rw[show(k-1).toNat+1=k.toNat by lia,Me,hr2];rfl
  have g1:=hg (a,b) (Mf hr1);have g2:=hg (c,d) (Mf hr2);simp only at g1 g2;have at1:m9 es (k-1)=some (.ref ts):=by rw[←Int.toNat_of_nonneg (show 0<=k-1 by lia)];exact aR hv1
  have at2:m9 es k=some (.ref tt):=by rw[←Int.toNat_of_nonneg (show 0<=k by lia)];exact aR hv2
  refine⟨_,rfl,_,rfl,_,_,rfl,rfl,l,_,_,_,rfl,rfl,aG.of hl,at1,_,rfl,_,rfl,l,_,_,_,rfl,rfl,aG.of hl,at2,two,fun tp ftp=>?_⟩;have s1:ah H (upd H tp (.tup [.ref ts,.ref tt])):=ah.new ftp;have htp:upd H tp (.tup [.ref ts,.ref tt]) tp=some (.tup [.ref ts,.ref tt]):=ae;generalize upd H tp (.tup [.ref ts,.ref tt])=H1 at s1 htp⊢;refine⟨tp,_,rfl,dH.of htp,rfl,_,_,rfl,ts,_,rfl,dH.of (s1 _ _ hts),rfl,_,_,rfl,_,_,rfl,rfl,?_⟩;refine⟨_,_,rfl,tt,_,rfl,dH.of (s1 _ _ htt),rfl,_,_,rfl,_,_,rfl,rfl,rfl,?_⟩;refine⟨_,rfl,rfl,_,rfl,?_⟩
  cases fw with
  |true=>
   refine dD (fun _=>?_) (fun c=>absurd (decide_eq_true rfl) c);have ne:c≠d:=by lia
   refine fun p1 f1=>⟨_,rfl,_,rfl,_,rfl,_,rfl,ae,[(Sum.inl c,.int d),(Sum.inl d,.int c)],rfl,(show 2<=15 by decide),p1,rfl,.inl ⟨_,.inl ae⟩,_,rfl,_,rfl,_,cK.k (k:=Sum.inl a) ae,?_⟩;rw[jm _ _ _ ne];have s2:ah H1 (upd (upd H1 p1 (.dK [])) p1 (.dK (dB [] [(Sum.inl c,.int d),(Sum.inl d,.int c)]))):=fun b o e=>by
    rw[ao (aq e f1),ao (aq e f1)];exact e
   generalize upd (upd H1 p1 (.dK [])) p1 (.dK (dB [] [(Sum.inl c,.int d),(Sum.inl d,.int c)]))=H2 at s2⊢;refine fun p2 f2=>⟨_,rfl,_,rfl,_,rfl,_,rfl,ae,[(Sum.inl c,.int d),(Sum.inl d,.int c)],rfl,(show 2<=15 by decide),p2,rfl,.inl ⟨_,.inl ae⟩,_,rfl,_,rfl,_,cK.k (k:=Sum.inl b) ae,?_⟩;rw[jm _ _ _ ne];have s3:ah H2 (upd (upd H2 p2 (.dK [])) p2 (.dK (dB [] [(Sum.inl c,.int d),(Sum.inl d,.int c)]))):=fun b o e=>by
    rw[ao (aq e f2),ao (aq e f2)];exact e
   generalize upd (upd H2 p2 (.dK [])) p2 (.dK (dB [] [(Sum.inl c,.int d),(Sum.inl d,.int c)]))=H3 at s3⊢;have s3:=(s1.trans s2).trans s3;refine⟨_,rfl,_,rfl,_,_,rfl,rfl,k-1,rfl,l,es,rfl,aG.of (s3 _ _ hl),fun q1 e1=>?_⟩;rw[DP (by lia) (by lia)];have s4:ah H3 (upd H3 q1 (.lst (es.take (k-1).toNat))):=ah.new e1;have h4:upd H3 q1 (.lst (es.take (k-1).toNat)) q1=some (.lst (es.take (k-1).toNat)):=ae;generalize upd H3 q1 (.lst (es.take (k-1).toNat))=H4 at s4 h4⊢;refine⟨_,rfl,_,rfl,two,fun tq1 ftq1=>⟨_,rfl,_,rfl,_,_,rfl,_,rfl,_,rfl,_,_,rfl,two,fun tq2 ftq2=>⟨two,fun lp flp=>?_⟩⟩⟩;have k1:ah H4 (upd H4 tq1 (.tup [.int c,.int d])):=ah.new ftq1;have z1:upd H4 tq1 (.tup [.int c,.int d]) tq1=some (.tup [.int c,.int d]):=ae;generalize upd H4 tq1 (.tup [.int c,.int d])=H5 at k1 z1 ftq2 flp⊢;have k2:ah H5 (upd H5 tq2 (.tup [.int (if bw b (c,d)<bw a (c,d)then bw b (c,d)else bw a (c,d)),.int (if bw b (c,d)>bw a (c,d)then bw b (c,d)else bw a (c,d))])):=ah.new ftq2;have z2:upd H5 tq2 (.tup [.int (if bw b (c,d)<bw a (c,d)then bw b (c,d)else bw a (c,d)),.int (if bw b (c,d)>bw a (c,d)then bw b (c,d)else bw a (c,d))]) tq2=some (.tup [.int (if bw b (c,d)<bw a (c,d)then bw b (c,d)else bw a (c,d)),.int (if bw b (c,d)>bw a (c,d)then bw b (c,d)else bw a (c,d))]):=ae;generalize upd H5 tq2 (.tup [.int (if bw b (c,d)<bw a (c,d)then bw b (c,d)else bw a (c,d)),.int (if bw b (c,d)>bw a (c,d)then bw b (c,d)else bw a (c,d))])=H6 at k2 z2 flp⊢;have k3:ah H6 (upd H6 lp (.lst [.ref tq1,.ref tq2])):=ah.new flp;have hlp:upd H6 lp (.lst [.ref tq1,.ref tq2]) lp=some (.lst [.ref tq1,.ref tq2]):=ae;generalize upd H6 lp (.lst [.ref tq1,.ref tq2])=H7 at k3 hlp⊢;rw[B6,CH]at z2;have xp:cP H7 [.ref tq1,.ref tq2] (Et (a,b) (c,d) true):= .cons (k3 _ _ (k2 _ _ z1)) (.cons (k3 _ _ z2) .nil);have s7:=k1.trans (k2.trans k3);have a7:=(s3.trans s4).trans s7;refine⟨q1,lp,_,_,rfl,rfl,s7 _ _ h4,hlp,by rw[Ma];show _+2<=MG;lia,fun q2 e2=>?_⟩;have s8:ah H7 (upd H7 q2 (.lst (es.take (k-1).toNat++[.ref tq1,.ref tq2]))):=ah.new e2;have h8:upd H7 q2 (.lst (es.take (k-1).toNat++[.ref tq1,.ref tq2])) q2=some (.lst (es.take (k-1).toNat++[.ref tq1,.ref tq2])):=ae;generalize upd H7 q2 (.lst (es.take (k-1).toNat++[.ref tq1,.ref tq2]))=H8 at s8 h8⊢;refine⟨_,rfl,_,rfl,_,_,rfl,rfl,k+1,rfl,?_⟩;unfold lO;refine⟨l,es,rfl,aG.of (s8 _ _ (a7 _ _ hl)),fun q3 e3=>?_⟩;rw[cutD (by lia)];have s9:ah H8 (upd H8 q3 (.lst (es.drop (k+1).toNat))):=ah.new e3;have h9:upd H8 q3 (.lst (es.drop (k+1).toNat)) q3=some (.lst (es.drop (k+1).toNat)):=ae;generalize upd H8 q3 (.lst (es.drop (k+1).toNat))=H9 at s9 h9⊢;refine⟨q2,q3,_,_,rfl,rfl,s9 _ _ h8,h9,by rw[LY,Ma,List.length_drop];show _+2+_<=MG;lia,fun q4 e4=>?_⟩;have sA:=s8.trans (s9.trans (ah.new (o:= .lst (es.take (k-1).toNat++[.ref tq1,.ref tq2]++es.drop (k+1).toNat)) e4));refine kk q4 _ _ ((a7.trans (s8.trans s9)).free e4) ae ?_ (a7.trans sA);unfold t7;rw[er1,er2,show(k-1).toNat+2=(k+1).toNat by lia];have hxA:=hx.keep (ah.bI (a7.trans sA));exact((hxA.take _).append (xp.keep (ah.bI sA))).append (hxA.drop _)
  |false=>
   refine dD (fun c=>absurd (of_decide_eq_true c) (by intro z;injection z with z;exact absurd z (by decide))) (fun _=>?_);have ne:a≠b:=by lia
   refine fun p1 f1=>⟨_,rfl,_,rfl,_,rfl,_,rfl,ae,[(Sum.inl a,.int b),(Sum.inl b,.int a)],rfl,(show 2<=15 by decide),p1,rfl,.inl ⟨_,.inl ae⟩,_,rfl,_,rfl,_,cK.k (k:=Sum.inl c) ae,?_⟩;rw[jm _ _ _ ne];have s2:ah H1 (upd (upd H1 p1 (.dK [])) p1 (.dK (dB [] [(Sum.inl a,.int b),(Sum.inl b,.int a)]))):=fun b o e=>by
    rw[ao (aq e f1),ao (aq e f1)];exact e
   generalize upd (upd H1 p1 (.dK [])) p1 (.dK (dB [] [(Sum.inl a,.int b),(Sum.inl b,.int a)]))=H2 at s2⊢;refine fun p2 f2=>⟨_,rfl,_,rfl,_,rfl,_,rfl,ae,[(Sum.inl a,.int b),(Sum.inl b,.int a)],rfl,(show 2<=15 by decide),p2,rfl,.inl ⟨_,.inl ae⟩,_,rfl,_,rfl,_,cK.k (k:=Sum.inl d) ae,?_⟩;rw[jm _ _ _ ne];have s3:ah H2 (upd (upd H2 p2 (.dK [])) p2 (.dK (dB [] [(Sum.inl a,.int b),(Sum.inl b,.int a)]))):=fun b o e=>by
    rw[ao (aq e f2),ao (aq e f2)];exact e
   generalize upd (upd H2 p2 (.dK [])) p2 (.dK (dB [] [(Sum.inl a,.int b),(Sum.inl b,.int a)]))=H3 at s3⊢;have s3:=(s1.trans s2).trans s3;refine⟨_,rfl,_,rfl,_,_,rfl,rfl,k-1,rfl,l,es,rfl,aG.of (s3 _ _ hl),fun q1 e1=>?_⟩;rw[DP (by lia) (by lia)];have s4:ah H3 (upd H3 q1 (.lst (es.take (k-1).toNat))):=ah.new e1;have h4:upd H3 q1 (.lst (es.take (k-1).toNat)) q1=some (.lst (es.take (k-1).toNat)):=ae;generalize upd H3 q1 (.lst (es.take (k-1).toNat))=H4 at s4 h4⊢;refine⟨_,rfl,_,rfl,_,_,rfl,_,rfl,_,rfl,_,_,rfl,two,fun tq1 ftq1=>⟨_,rfl,_,rfl,two,fun tq2 ftq2=>⟨two,fun lp flp=>?_⟩⟩⟩;have k1:ah H4 (upd H4 tq1 (.tup [.int (if bw d (a,b)<bw c (a,b)then bw d (a,b)else bw c (a,b)),.int (if bw d (a,b)>bw c (a,b)then bw d (a,b)else bw c (a,b))])):=ah.new ftq1;have z1:upd H4 tq1 (.tup [.int (if bw d (a,b)<bw c (a,b)then bw d (a,b)else bw c (a,b)),.int (if bw d (a,b)>bw c (a,b)then bw d (a,b)else bw c (a,b))]) tq1=some (.tup [.int (if bw d (a,b)<bw c (a,b)then bw d (a,b)else bw c (a,b)),.int (if bw d (a,b)>bw c (a,b)then bw d (a,b)else bw c (a,b))]):=ae;generalize upd H4 tq1 (.tup [.int (if bw d (a,b)<bw c (a,b)then bw d (a,b)else bw c (a,b)),.int (if bw d (a,b)>bw c (a,b)then bw d (a,b)else bw c (a,b))])=H5 at k1 z1 ftq2 flp⊢;have k2:ah H5 (upd H5 tq2 (.tup [.int a,.int b])):=ah.new ftq2;have z2:upd H5 tq2 (.tup [.int a,.int b]) tq2=some (.tup [.int a,.int b]):=ae;generalize upd H5 tq2 (.tup [.int a,.int b])=H6 at k2 z2 flp⊢;have k3:ah H6 (upd H6 lp (.lst [.ref tq1,.ref tq2])):=ah.new flp;have hlp:upd H6 lp (.lst [.ref tq1,.ref tq2]) lp=some (.lst [.ref tq1,.ref tq2]):=ae;generalize upd H6 lp (.lst [.ref tq1,.ref tq2])=H7 at k3 hlp⊢;rw[B6,CH]at z1;have xp:cP H7 [.ref tq1,.ref tq2] (Et (a,b) (c,d) false):= .cons (k3 _ _ (k2 _ _ z1)) (.cons (k3 _ _ z2) .nil);have s7:=k1.trans (k2.trans k3);have a7:=(s3.trans s4).trans s7;refine⟨q1,lp,_,_,rfl,rfl,s7 _ _ h4,hlp,by rw[Ma];show _+2<=MG;lia,fun q2 e2=>?_⟩;have s8:ah H7 (upd H7 q2 (.lst (es.take (k-1).toNat++[.ref tq1,.ref tq2]))):=ah.new e2;have h8:upd H7 q2 (.lst (es.take (k-1).toNat++[.ref tq1,.ref tq2])) q2=some (.lst (es.take (k-1).toNat++[.ref tq1,.ref tq2])):=ae;generalize upd H7 q2 (.lst (es.take (k-1).toNat++[.ref tq1,.ref tq2]))=H8 at s8 h8⊢;refine⟨_,rfl,_,rfl,_,_,rfl,rfl,k+1,rfl,?_⟩;unfold lO;refine⟨l,es,rfl,aG.of (s8 _ _ (a7 _ _ hl)),fun q3 e3=>?_⟩;rw[cutD (by lia)];have s9:ah H8 (upd H8 q3 (.lst (es.drop (k+1).toNat))):=ah.new e3;have h9:upd H8 q3 (.lst (es.drop (k+1).toNat)) q3=some (.lst (es.drop (k+1).toNat)):=ae;generalize upd H8 q3 (.lst (es.drop (k+1).toNat))=H9 at s9 h9⊢;refine⟨q2,q3,_,_,rfl,rfl,s9 _ _ h8,h9,by rw[LY,Ma,List.length_drop];show _+2+_<=MG;lia,fun q4 e4=>?_⟩;have sA:=s8.trans (s9.trans (ah.new (o:= .lst (es.take (k-1).toNat++[.ref tq1,.ref tq2]++es.drop (k+1).toNat)) e4));refine kk q4 _ _ ((a7.trans (s8.trans s9)).free e4) ae ?_ (a7.trans sA);unfold t7;rw[er1,er2,show(k-1).toNat+2=(k+1).toNat by lia];have hxA:=hx.keep (ah.bI (a7.trans sA));exact((hxA.take _).append (xp.keep (ah.bI sA))).append (hxA.drop _)
end
end Sw
namespace L2
open PySem PySem.Spec PyProof.Rows
theorem J0{i:Nat}{v:V}{σ:St}{H:Hp}{k:St->Hp->Prop}(h:k (σ.set i (some v)) H):cu i v σ H k:=h
theorem iN{t u:TS}{D:Ends}{σ:St}{H:Hp}(R:St->Hp->Prop)(h1:∀D':Ends,(∀σ' H',R σ' H'->D'.nx σ' H')->t D' σ H)(h2:∀σ' H',R σ' H'->u D σ' H'):Bd t u D σ H:=h1 _ h2
end L2
namespace Sw
open PySem L2
theorem KD{K:W.Frag}{H:Hp}{l m:MB}{vs ws:List V}{r q:List (Int×Int)}{Q:VK}(h1:H l=some (.lst vs))(x1:cP H vs r)(h2:H m=some (.lst ws))(x2:cP H ws q)(hq:Q (.bl (decide (r=q))) H):GI K (.ref l) (.ref m) H Q:=by
 obtain⟨P,dx,dy,d1,d2,c1,c2,dd,e⟩:=Lv (K:=K) (Q:=fun v _=>v= .bl (!decide (r=q))) h1 x1 h2 x2 rfl;refine⟨P,dx,dy,d1,d2,c1,c2,dd,?_⟩;have:PyData.eqv dx dy=decide (r=q):=by
  injection e with e
  simpa using e
 rw[this];exact hq
def JY(row:List (Int×Int)):Prop:=∀e∈row,0<=e.1/\0<=e.2/\e.1<100/\e.2<100
theorem vI{row:List (Int×Int)}(h:JY row):(fM row).length<=row.length*6+4:=by
 unfold fM
 split
 .rename_i z
  rw[z];decide+kernel
 .have h1:=StrLaws.join_length_le (LV ",") (row.map iE)
  have h2:=StrLaws.sumLen_le (B:=5) (row.map iE) (fun y hy=>by
   obtain⟨⟨a,b⟩,he,rfl⟩:=List.mem_map.mp hy;obtain⟨a0,b0,a9,b9⟩:=h _ he;unfold iE;rw[Str.length_append,Str.length_append];have l1:(aM a).length<=2:=PyProof.Rows.toString_length_le a0 (by decide) (show a<10^2 by lia);have l2:(aM b).length<=2:=PyProof.Rows.toString_length_le b0 (by decide) (show b<10^2 by lia);have:(LV "-").length=1:=by decide+kernel
   dsimp only;lia)
  have h3:(LV ",").length=1:=by decide+kernel
  rw[LW]at h1 h2;rw[h3]at h1;lia
def vP:Sp:=fun vs H Q _=>∃(l:MB)(es:List V)(row:List (Int×Int)),vs=[.ref l]/\H l=some (.lst es)/\cP H es row/\row.length<=70/\JY row/\∀H',ah H H'->Q (.str (fM row)) H'
structure Kn(mg:Str->Option MA)(K:W.Frag):Prop extends T1 mg K where
 eQ:mg "str" =none
def CI:Sp:=fun vs H Q _=>∃(t:MB)(n:Int)(xs:List Int),vs=[.ref t]/\H t=some (.tup (xs.map V.int))/\Ord n xs/\1<=n/\n<=12/\∀H',ah H H'->Q (.str (mj (aX n xs))) H'
structure Kp(P:MD)(w:ME)(K:W.Frag)(mg:Str->Option MA)(base:MN):Prop extends T1 mg K where
 eQ:mg "str" =none
 dM:FnAt P w K mg base "_law_rounds" 1 ["_law_order_here"] fL
def JU(r:List Int):Str:=LV "(" ++sY r++LV ")"
theorem yX{r:List Int}(h:∀x∈r,1<=x/\x<=12)(l:r.length<=12):(sY r).length<=40:=by
 rw[←Cw fun x hx=>by have:=h x hx;lia,HF];have h1:=StrLaws.join_length_le (LV " ") (r.map aM);have h2:=StrLaws.sumLen_le (B:=2) (r.map aM) (fun y hy=>by
  obtain⟨a,ha,rfl⟩:=List.mem_map.mp hy;have:=h a ha;exact PyProof.Rows.toString_length_le (by lia) (by decide) (show a<10^2 by lia))
 have h3:(LV " ").length=1:=by decide+kernel
 rw[LW]at h1 h2;rw[h3]at h1;unfold lX;lia
section
variable{P:MD}{w:ME}{K:W.Frag}{mg:Str->Option MA}{base:MN}
theorem mx:aF ["_law_row_here"] ["_law_row_here"] (au (top 125)):=⟨rfl,rfl,rfl,by decide+kernel,rfl,by decide+kernel,by decide+kernel⟩
theorem G9{f:MB}{fd:MM}(F:dJ K "_law_row_word" "_law_row_word" (top 125) f fd)(T:Kn mg K):aS P w K mg base fQ 1 f fd ["_law_row_here"] vP:=by
 refine F.ok mx (fun vs H Q E h=>?_) (fun cdv A outer s H vs Q E hr h=>?_)
 .obtain⟨l,es,row,rfl,_⟩:=h
  rfl
 .obtain⟨l,es,row,rfl,hl,hx,h60,hs,k⟩:=h
  refine⟨_,(ag (aQ (aE (tf hr.units) (pv 0) (bf af) (aH _)) (aj (aA az)) aB)
   (aj (aA (bD (K:=K) rfl PySem.F.plainAttrs_str PySem.F.slot_str_join PySem.F.type_str_join (gb (K:=K) rfl) az (aa (bJ (N:=(["_law_a","_law_b"]:List Str)) (ix:=([none,none]:List (Option Nat))) (aW rfl rfl) rfl (aU (K:=K) rfl (pv 0)) (fun _ _ _ _=>(eG (K:=K) (n:=2) rfl rfl (bh (aC (i:=0) (show List.Nodup (["_law_a","_law_b"]:List Str)from by decide+kernel) rfl (Or.inl rfl)) (bh (aC (i:=1) (show List.Nodup (["_law_a","_law_b"]:List Str)from by decide+kernel) rfl (Or.inl rfl)) eC)))) (fun _ _ _ _=>bg) (fun _ _ _ _=>(av aI (av aI (aY eD rfl T.eQ (by decide+kernel) (aa (pv 0) af)) az) (aY eD rfl T.eQ (by decide+kernel) (aa (pv 1) af))))) af))))),?_⟩
  have big:(10000000:Nat)<=MG:=by decide
  have el:=hx.length;refine⟨_,rfl,Mw _,fun le fle=>?_⟩;have s1:ah H (upd H le (.lst [])):=ah.new fle;refine KD (s1 _ _ hl) (hx.keep (ah.bI s1)) (ws:=[]) (q:=[]) ae .nil ⟨_,rfl,?_⟩;generalize upd H le (.lst [])=H1 at s1⊢;by_cases hz:row=[]
  .subst hz
   exact Gp (decide_eq_true rfl) (k H1 s1)
  .refine jW (decide_eq_false hz) ?_
   have rl:=List.length_pos_iff.mpr hz;have hl1:=s1 _ _ hl;have hx1:=hx.keep (ah.bI s1);refine⟨rfl,_,rfl,l,rfl,⟨_,aG.of hl1⟩,Ca (K:=K) (a:=l) (xs:=es) (fun j ys σ' H'=>ys=((row.take j).map iE).map V.str/\(∃v0 v1,σ'=[v0,v1])/\H'=H1) (by lia) ⟨rfl,⟨none,none,rfl⟩,rfl⟩ (fun j ys σ' H' _ q=>by rw[q.2.2];exact aG.of hl1) (fun j ys σ' H' q=>by rw[q.1,LW,LW,Ma];lia) ?_ ?_⟩
   .rintro j ys σ' H' x R hx' ⟨rfl,⟨v0,v1,rfl⟩,rfl⟩ done
    obtain⟨t,b,c,rfl,ht,hr'⟩:=hx1.get hx';obtain⟨a0,b0,a9,b9⟩:=hs (b,c) (Mf hr');dsimp only at a0 b0 a9 b9;have al:=fB a0 (by lia);have bl:=fB b0 (by lia);have dl:(LV "-").length=1:=by decide+kernel
    refine⟨t,_,rfl,dH.of ht,rfl,_,_,rfl,_,_,rfl,rfl,?_⟩;refine⟨_,rfl,b,rfl,eT a0 (by lia),_,_,rfl,rfl,(by show(aM b).length+(LV "-").length<=MG;lia),_,rfl,c,rfl,eT b0 (by lia),_,_,rfl,rfl,(by show(aM b++LV "-").length+(aM c).length<=MG;rw[Str.length_append];lia),?_⟩;refine done _ _ _ ⟨?_,⟨_,_,rfl⟩,rfl⟩;rw[aK iE hr',L7];rfl
   .rintro ys σ' H' q ⟨rfl,⟨v0,v1,rfl⟩,e0⟩ fq
    have e0:=e0.symm;subst e0;rw[Mi (by lia)];refine⟨_,q,row.map iE,rfl,rfl,aG.of ae,bK (B:=19) (by decide+kernel) (fun y hy=>?_) (by decide) (by rw[LW];lia),?_⟩
    .obtain⟨⟨b,c⟩,he,rfl⟩:=List.mem_map.mp hy
     obtain⟨a0,b0,a9,b9⟩:=hs _ he;exact nZ a0 b0 (by lia) (by lia)
    .have kk:=k _ (s1.trans (ah.new (o:= .lst ((row.map iE).map V.str)) fq))
     unfold fM at kk;rw[if_neg hz]at kk;exact kk
theorem gz:aF ["_law_order_here","_law_some"] ["_law_order_here"] (au (top 126)):=⟨rfl,rfl,rfl,by decide+kernel,rfl,by decide+kernel,by decide+kernel⟩
theorem Gn{f:MB}{fd:MM}(F:dJ K "_law_order_word" "_law_order_word" (top 126) f fd)(T:Kp P w K mg base):aS P w K mg base fQ 2 f fd ["_law_order_here"] CI:=by
 refine F.ok gz (fun vs H Q E h=>?_) (fun cdv A outer s H vs Q E hr h=>?_)
 .obtain⟨l,ws,S,rfl,_⟩:=h
  rfl
 .obtain⟨t,n,xs,rfl,ht,o,n1,n2,k⟩:=h
  refine⟨_,(ag (fu (i:=1) gz.nd rfl rfl (N:=(["_law_part"]:List Str)) (ix:=([none]:List (Option Nat))) (aW rfl rfl) rfl (aU (K:=K) rfl (ak T.dM (hr.mono (by first|decide|lia)) rfl (aa (pv 0) af))) (fun _ _ _ _=>(aC (i:=0) (show List.Nodup (["_law_part"]:List Str)from by decide+kernel) rfl (Or.inl rfl))) (fun _ _ _ _=>bg) (fun _ _ _ _=>(bD (K:=K) rfl PySem.F.plainAttrs_str PySem.F.slot_str_join PySem.F.type_str_join (gb (K:=K) rfl) az (aa (bJ (N:=(["_law_thing"]:List Str)) (ix:=([none]:List (Option Nat))) (aW rfl rfl) rfl (aU (K:=K) rfl (pv 0)) (fun _ _ _ _=>(aC (i:=0) (show List.Nodup (["_law_thing"]:List Str)from by decide+kernel) rfl (Or.inl rfl))) (fun _ _ _ _=>bg) (fun _ _ _ _=>(aY eD rfl T.eQ (by decide+kernel) (aa (pv 0) af)))) af))))
   (aj (aA (bD (K:=K) rfl PySem.F.plainAttrs_str PySem.F.slot_str_join PySem.F.type_str_join (gb (K:=K) rfl) az (aa (bJ (N:=(["_law_word"]:List Str)) (ix:=([none]:List (Option Nat))) (aW rfl rfl) rfl (aU (K:=K) rfl (pv 1)) (fun _ _ _ _=>(aC (i:=0) (show List.Nodup (["_law_word"]:List Str)from by decide+kernel) rfl (Or.inl rfl))) (fun _ _ _ _=>bg) (fun _ _ _ _=>(av aI (av aI az (pv 0)) az))) af))))),?_⟩
  have big:(10000000:Nat)<=MG:=by decide
  have q:=jU o;have rl:=nh (rs:=aX n xs) fun r hr=>(q.2.1 r hr).1;refine⟨_,rfl,t,n,xs,rfl,ht,o,by lia,fun l ws H1 fl hl xl _ _ s1=>?_⟩;have wl:=xl.length;have gg:∀r∈aX n xs,r.length<=12/\∀x∈r,1<=x/\x<=12:=fun r hr'=>⟨by have:=(q.2.1 r hr').2.1;lia,fun x hx=>by have:=(q.2.1 r hr').2.2 x hx;lia⟩;refine⟨l,rfl,⟨_,aG.of hl⟩,gI (K:=K) (a:=l) (xs:=ws) (k:=0) (fun i ys σ' H'=>ys=(((aX n xs).take i).map sY).map V.str/\(∃v0,σ'=[v0])/\ah H1 H') (by lia) ⟨rfl,⟨none,rfl⟩,ah.refl _⟩ (fun i ys σ' H' _ q=>aG.of (q.2.2 _ _ hl)) (fun i ys σ' H' q=>by rw[q.1,LW,LW,Ma];lia) ?_ ?_⟩
  .rintro i ys σ' H2 x R hx ⟨rfl,⟨v0,rfl⟩,s2⟩ done
   obtain⟨b,r,rfl,hb,hr'⟩:=(xl.keep s2).get hx;have g:=gg r (Mf hr');refine⟨rfl,_,rfl,b,rfl,⟨_,aG.of hb⟩,gI (K:=K) (a:=b) (xs:=r.map V.int) (k:=0) (fun i ys σ' H'=>ys=((r.take i).map aM).map V.str/\(∃v0,σ'=[v0])/\H'=H2) (by rw[LW];lia) ⟨rfl,⟨none,rfl⟩,rfl⟩ (fun i ys σ' H' _ q=>by rw[q.2.2];exact aG.of hb) (fun i ys σ' H' q=>by rw[q.1,LW,LW,Ma];lia) ?_ ?_⟩
   .rintro j zs σ2 H' x' R' hx' ⟨rfl,⟨v1,rfl⟩,rfl⟩ done'
    obtain⟨z,rfl,hz⟩:=fY hx';have zz:=g.2 z (Mf hz);refine⟨_,rfl,z,rfl,eT (by lia) (by lia),done' _ _ _ ⟨?_,⟨_,rfl⟩,rfl⟩⟩;rw[aK aM hz,L7];rfl
   .rintro zs σ2 H' q' ⟨rfl,⟨v1,rfl⟩,e0⟩ fq
    have e0:=e0.symm;subst e0;rw[Mi (by rw[LW];lia)];refine⟨_,q',r.map aM,rfl,rfl,aG.of ae,bK (B:=9) (by decide+kernel) (fun y hy=>?_) (by decide) (by rw[LW];lia),done _ _ _ ⟨?_,⟨_,rfl⟩,s2.trans (ah.new fq)⟩⟩
    .obtain⟨z,hz,rfl⟩:=List.mem_map.mp hy
     have:=g.2 z hz;exact fB (by lia) (by lia)
    .rw[aK sY hr',L7]
     rfl
  .rintro ys σ' H2 lq ⟨rfl,⟨v0,rfl⟩,s2⟩ fq
   rw[Mi (by lia)];have s3:=s1.trans (s2.trans (ah.new (o:= .lst (((aX n xs).map sY).map V.str)) fq));have hq:upd H2 lq (.lst (((aX n xs).map sY).map V.str)) lq=some (.lst (((aX n xs).map sY).map V.str)):=ae;generalize upd H2 lq (.lst (((aX n xs).map sY).map V.str))=H3 at s3 hq⊢;refine⟨rfl,_,rfl,lq,rfl,⟨_,aG.of hq⟩,gI (K:=K) (a:=lq) (xs:=((aX n xs).map sY).map V.str) (k:=0) (fun i ys σ' H'=>ys=(((aX n xs).take i).map JU).map V.str/\(∃v0,σ'=[v0])/\H'=H3) (by rw[LW,LW];lia) ⟨rfl,⟨none,rfl⟩,rfl⟩ (fun i ys σ' H' _ q=>by rw[q.2.2];exact aG.of hq) (fun i ys σ' H' q=>by rw[q.1,LW,LW,Ma];lia) ?_ ?_⟩
   .rintro i ys σ' H' x R hx ⟨rfl,⟨v0,rfl⟩,rfl⟩ done
    obtain⟨r,hr',rfl⟩:∃r,(aX n xs)[i]?=some r/\x= .str (sY r):=by
     rw[LX,LX]at hx
     cases e:(aX n xs)[i]? with
     |none=>rw[e]at hx;cases hx
     |some r=>rw[e]at hx;exact⟨r,rfl,(My hx).symm⟩
    have g:=gg r (Mf hr');have tl:=yX g.2 g.1;have bl:(LV "(").length=1:=by decide+kernel
    have cl:(LV ")").length=1:=by decide+kernel
    refine⟨_,rfl,_,_,rfl,rfl,(by show(LV "(").length+(sY r).length<=MG;lia),_,_,rfl,rfl,(by show(LV "(" ++sY r).length+(LV ")").length<=MG;rw[Str.length_append];lia),done _ _ _ ⟨?_,⟨_,rfl⟩,rfl⟩⟩;rw[aK JU hr',L7];rfl
   .rintro ys σ' H' lr ⟨rfl,⟨v0,rfl⟩,e0⟩ fr
    have e0:=e0.symm;subst e0;rw[Mi (by rw[LW,LW];exact Ms _)];refine⟨_,lr,(aX n xs).map JU,rfl,rfl,aG.of ae,bK (B:=202) (by decide+kernel) (fun y hy=>?_) (by decide) (by rw[LW];lia),k _ (s3.trans (ah.new fr))⟩;obtain⟨r,hr',rfl⟩:=List.mem_map.mp hy;have g:=gg r hr';have tl:=yX g.2 g.1;have bl:(LV "(").length=1:=by decide+kernel
    have cl:(LV ")").length=1:=by decide+kernel
    unfold JU;rw[Str.length_append,Str.length_append];lia
end
def Bc:Sp:=fun vs H Q _=>∃(k t:MB)(kvs:List (Key×V))(m:Kept)(n kk:Int)(wd x0 x1 x2:Str),vs=[.str wd,.ref t,.ref k,.int kk]/\1<=n/\n<=12/\hZ n m/\H k=some (.dK kvs)/\bj H kvs m/\H t=some (.lst ([x0,x1,x2].map V.str))/\
 ((wd=LV "copy"/\∃R,rowOf m x1=some R/\∀v,dY H v R->Q v H)\/
 (wd=LV "join"/\∃R S,rowOf m x1=some R/\rowOf m x2=some S/\(60<R.length+S.length->Q (.str (LV "!NoBound")) H)/\(R.length+S.length<=60->∀l' es' H',H l'=none->H' l'=some (.lst es')->cP H' es' (R++S)->ah H H'->Q (.ref l') H'))\/
 (∃f R,wd=eW f/\rowOf m x0=some R/\(¬(1<=kk/\kk<R.length)->∀H',ah H H'->Q (.str (LV "!NoMove")) H')/\(1<=kk->kk<R.length->∀l' es' H',H l'=none->H' l'=some (.lst es')->cP H' es' (t7 R (kk-1).toNat f)->ah H H'->Q (.ref l') H'))\/
 (wd=LV "drop"/\∀H',ah H H'->Q .cE H'))
structure IU(P:MD)(w:ME)(K:W.Frag)(mg:Str->Option MA)(base:MN):Prop extends T1 mg K where
 kK:FnAt P w K mg base "_law_moved" 1 ["_law_row_here","_law_k","_law_way"] EW
section
variable{P:MD}{w:ME}{K:W.Frag}{mg:Str->Option MA}{base:MN}
theorem uf:aF ["_law_word","_law_told","_law_kept","_law_k"] ["_law_word","_law_told","_law_kept","_law_k"] (au (top 128)):=⟨rfl,rfl,rfl,by decide+kernel,rfl,by decide+kernel,by decide+kernel⟩
theorem EJ{f:MB}{fd:MM}(F:dJ K "_law_due" "_law_due" (top 128) f fd)(T:IU P w K mg base):aS P w K mg base fQ 2 f fd ["_law_word","_law_told","_law_kept","_law_k"] Bc:=by
 refine F.ok uf (fun vs H Q E h=>?_) (fun cdv A outer s H vs Q E hr h=>?_)
 .obtain⟨k,t,kvs,m,n,kk,wd,x0,x1,x2,rfl,_⟩:=h
  rfl
 .obtain⟨kd,t,kvs,m,n,kk,wd,x0,x1,x2,rfl,n1,n2,gm,hk,km,ht,k⟩:=h
  have hu:=iY hr;refine⟨_,(ag (aQ (aE bY (pv 0) az (aH _)) (aj (aA (dS hu (pv 2) (aO (ax (K:=K) rfl) (pv 1) ai (fun _ _=>rfl)) (fun _ _=>rfl)))) aB)
   (ag (aQ (aE bY (pv 0) az (aH _)) (ag (aQ (aE mV (av bp (ar (aN (K:=K) rfl) rfl T.bP (by decide+kernel) (aa (dS hu (pv 2) (aO (ax (K:=K) rfl) (pv 1) ai (fun _ _=>rfl)) (fun _ _=>rfl)) af)) (ar (aN (K:=K) rfl) rfl T.bP (by decide+kernel) (aa (dS hu (pv 2) (aO (ax (K:=K) rfl) (pv 1) ai (fun _ _=>rfl)) (fun _ _=>rfl)) af))) ai (aH _)) (aj (aA az)) aB)
   (aj (aA (av dC (dS hu (pv 2) (aO (ax (K:=K) rfl) (pv 1) ai (fun _ _=>rfl)) (fun _ _=>rfl)) (dS hu (pv 2) (aO (ax (K:=K) rfl) (pv 1) ai (fun _ _=>rfl)) (fun _ _=>rfl)))))) aB)
   (ag (aQ (aE (wC (K:=K) rfl) (pv 0) (cp (aa az (aa az af))) rfl) (ag (aQ (eL (u4 vS rQ ai (pv 3) (ar (aN (K:=K) rfl) rfl T.bP (by decide+kernel) (aa (dS hu (pv 2) (aO (ax (K:=K) rfl) (pv 1) ai (fun _ _=>rfl)) (fun _ _=>rfl)) af)))) (aj (aA az)) aB)
   (aj (aA (ak T.kK (hr.mono (by first|decide|lia)) rfl (@aa _ _ _ _ _ (dS hu (pv 2) (aO (ax (K:=K) rfl) (pv 1) ai (fun _ _=>rfl)) (fun _ _=>rfl)) (@aa _ _ _ _ _ (pv 3) (@aa _ _ _ _ _ (pv 0) af aL) aL) kq))))) aB)
   (aj (aA Bs))))),?_⟩
  have big:(10000000:Nat)<=MG:=by decide
  have at0:m9 ([x0,x1,x2].map V.str) 0=some (V.str x0):=aR (j:=0) (xs:=[x0,x1,x2].map V.str) rfl;have at1:m9 ([x0,x1,x2].map V.str) 1=some (V.str x1):=aR (j:=1) (xs:=[x0,x1,x2].map V.str) rfl;have at2:m9 ([x0,x1,x2].map V.str) 2=some (V.str x2):=aR (j:=2) (xs:=[x0,x1,x2].map V.str) rfl;have get:∀{H':Hp}{x:Str}{R:List (Int×Int)},ah H H'->rowOf m x=some R->∃b es,cK H' kd (kV (.inr x)) (some (.ref b))/\H' b=some (.lst es)/\cP H' es R:=fun{H'}{x}{R} s e=>by
   rcases(km.same s).get x with⟨e1,e2⟩|⟨R',v,e1,e2,e3⟩
   .rw[e]at e1;cases e1
   .rw[e]at e1
    cases e1;obtain⟨b,es,rfl,hb,xb⟩:=e3;exact⟨b,es,by rw[←e2];exact cK.k (s _ _ hk),hb,xb⟩
  have dn:∀{x y:Str},x≠y->¬(decide (V.str x=V.str y)=true):=fun h z=>h (by have:=of_decide_eq_true z;cases this;rfl);rcases k with⟨rfl,R,er,k⟩|⟨rfl,R,S,er,es,k1,k2⟩|⟨fw,R,rfl,er,k1,k2⟩|⟨rfl,k⟩
  .refine⟨_,rfl,rfl,_,rfl,oU ?_⟩
   obtain⟨b,es,g,hb,xb⟩:=get (ah.refl _) er;refine⟨_,rfl,_,rfl,t,_,_,_,rfl,rfl,aG.of ht,at1,kd,_,rfl,g,?_⟩;exact k _ ⟨b,es,rfl,hb,xb⟩
  .refine⟨_,rfl,rfl,_,rfl,bZ (dn (by decide+kernel)) ?_⟩
   refine⟨_,rfl,rfl,_,rfl,oU ?_⟩;obtain⟨b1,es1,g1,hb1,xb1⟩:=get (ah.refl _) er;obtain⟨b2,es2,g2,hb2,xb2⟩:=get (ah.refl _) es;have l1:=xb1.length;have l2:=xb2.length;have gR:R.length<=60:=(gm _ (bO er)).2.1;have gS:S.length<=60:=(gm _ (bO es)).2.1;refine⟨_,rfl,_,rfl,t,_,_,_,rfl,rfl,aG.of ht,at1,kd,_,rfl,g1,b1,_,rfl,.inl (aG.of hb1),_,rfl,_,rfl,t,_,_,_,rfl,rfl,aG.of ht,at2,kd,_,rfl,g2,b2,_,rfl,.inl (aG.of hb2),_,_,rfl,rfl,_,_,rfl,rfl,_,rfl,dD (fun c=>?_) (fun c=>?_)⟩
   .have c:=of_decide_eq_true c
    exact k1 (by lia)
   .have c:¬((60:Int)<(es1.length:Int)+(es2.length:Int)):=fun z=>c (decide_eq_true z)
    refine⟨_,rfl,_,rfl,t,_,_,_,rfl,rfl,aG.of ht,at1,kd,_,rfl,g1,_,rfl,_,rfl,t,_,_,_,rfl,rfl,aG.of ht,at2,kd,_,rfl,g2,b1,b2,_,_,rfl,rfl,hb1,hb2,by lia,fun l fl=>?_⟩;have sn:=ah.new (o:= .lst (es1++es2)) fl;exact k2 (by lia) l _ _ fl ae ((xb1.append xb2).keep (ah.bI sn)) sn
  .have w1:eW fw≠LV "copy" :=by cases fw<;>decide+kernel
   have w2:eW fw≠LV "join" :=by cases fw<;>decide+kernel
   refine⟨_,rfl,rfl,_,rfl,bZ (dn w1) ?_⟩;refine⟨_,rfl,rfl,_,rfl,bZ (dn w2) ?_⟩;refine⟨_,rfl,(by show 2<=MG;lia),fun tp ft=>?_⟩;have sn:=ah.new (o:= .tup [V.str (LV "forth"),V.str (LV "back")]) ft;have htp:upd H tp (.tup [V.str (LV "forth"),V.str (LV "back")]) tp=some (.tup [V.str (LV "forth"),V.str (LV "back")]):=ae;generalize upd H tp (.tup [V.str (LV "forth"),V.str (LV "back")])=H1 at sn htp⊢;have iv:BI (V.str (eW fw)) [V.str (LV "forth"),V.str (LV "back")]=true:=by cases fw<;>decide+kernel
   refine⟨tp,_,rfl,.inr (dH.of htp),rfl,rfl,_,rfl,?_⟩;refine ki iv ?_;obtain⟨b,es,g,hb,xb⟩:=get sn er;have xl:=xb.length;have ht1:=sn _ _ ht;have no:∀{b:Bool},b=false->(!b)=true:=fun h=>by rw[h];rfl
   refine⟨_,rfl,_,_,rfl,rfl,_,rfl,dD (fun c=>?_) (fun c=>?_)⟩
   .have c:=of_decide_eq_true c
    refine⟨_,rfl,_,rfl,t,_,_,_,rfl,rfl,aG.of ht1,at0,kd,_,rfl,g,b,_,rfl,.inl (aG.of hb),_,_,rfl,rfl,_,rfl,?_⟩;by_cases c2:kk<(es.length:Int)
    .refine bZ (by simp[c2]) ?_
     refine⟨_,rfl,_,rfl,t,_,_,_,rfl,rfl,aG.of ht1,at0,kd,_,rfl,g,_,rfl,_,rfl,?_⟩;have gR:=gm _ (bO er);refine⟨b,es,R,kk,n,fw,rfl,hb,xb,gR.1,(by have:R.length<=60:=gR.2.1;lia),c,by lia,fun l' es' H' fl hl xl' sm=>?_⟩;exact k2 c (by lia) l' es' H' (sn.free fl) hl xl' (sn.trans sm)
    .refine ki (by simp[c2]) ?_
     exact k1 (by lia) _ sn
   .have c:¬((1:Int)<=kk):=fun z=>c (decide_eq_true z)
    refine⟨_,rfl,ki (by decide) ?_⟩;exact k1 (by lia) _ sn
  .have w1:LV "drop"≠LV "copy" :=by decide+kernel
   have w2:LV "drop"≠LV "join" :=by decide+kernel
   refine⟨_,rfl,rfl,_,rfl,bZ (dn w1) ?_⟩;refine⟨_,rfl,rfl,_,rfl,bZ (dn w2) ?_⟩;refine⟨_,rfl,(by show 2<=MG;lia),fun tp ft=>?_⟩;have sn:=ah.new (o:= .tup [V.str (LV "forth"),V.str (LV "back")]) ft;have htp:upd H tp (.tup [V.str (LV "forth"),V.str (LV "back")]) tp=some (.tup [V.str (LV "forth"),V.str (LV "back")]):=ae;generalize upd H tp (.tup [V.str (LV "forth"),V.str (LV "back")])=H1 at sn htp⊢;have iv:¬(BI (V.str (LV "drop")) [V.str (LV "forth"),V.str (LV "back")]=true):=by decide+kernel
   refine⟨tp,_,rfl,.inr (dH.of htp),rfl,rfl,_,rfl,bZ iv ?_⟩;exact k _ sn
end
def Fd:Sp:=fun vs H Q _=>∃(t:MB)(n:Int)(xs:List Int),vs=[.ref t]/\H t=some (.tup (xs.map V.int))/\Ord n xs/\1<=n/\n<=12/\∀l es H',H l=none->H' l=some (.lst es)->cP H' es (ja xs)->ah H H'->Q (.ref l) H'
theorem zE{n:Int}{ys:List Int}(o:Ord n ys)(f:Fix n 1 ys)(n1:1<=n):fG 1 ys=[]:=by
 have e:ld ys 1=1:=by
  apply Classical.byContradiction;intro ne;have:=iH (m:=0) o f (by lia) ne;lia
 show(if ld ys (((0:Nat):Int)+1)=((0:Nat):Int)+1 then fG 0 ys else _)=[];rw[if_pos (by simpa using e)];rfl
section
variable{P:MD}{w:ME}{K:W.Frag}{mg:Str->Option MA}{base:MN}
theorem df:aF ["_law_order_here","_law_goals","_law_found","_law_b","_law_a"] ["_law_order_here"] (au (top 123)):=⟨rfl,rfl,rfl,by decide+kernel,rfl,by decide+kernel,by decide+kernel⟩
theorem Ha{f:MB}{fd:MM}(F:dJ K "_law_home" "_law_home" (top 123) f fd)(T:T1 mg K):aS P w K mg base fQ 1 f fd ["_law_order_here"] Fd:=by
 refine F.ok df (fun vs H Q E h=>?_) (fun cdv A outer s H vs Q E hr h=>?_)
 .obtain⟨t,n,xs,rfl,_⟩:=h
  rfl
 .obtain⟨t,n,xs,rfl,ht,o,n1,n12,k⟩:=h
  have hu:=iY hr;refine⟨_,(ag (aw (i:=1) df.nd rfl (Or.inl rfl) (aY (gU (K:=K) rfl) rfl T.mL (by decide+kernel) (aa (pv 0) af)))
   (ag (aw (i:=2) df.nd rfl (Or.inl rfl) (bf af))
   (ag (dE PassesOwn.never rfl (rX rfl T.bL (@aa _ _ _ _ _ (ar (aN (K:=K) rfl) rfl T.bP (by decide+kernel) (aa (pv 0) af)) (@aa _ _ _ _ _ ai (@aa _ _ _ _ _ (vR oz ai) af Fi) ju) cj)) (aC (i:=3) df.nd rfl (Or.inr rfl)) (ag (aw (i:=4) df.nd rfl (Or.inr rfl) (aO (ax (K:=K) rfl) (pv 1) (av cO (pv 3) ai) (fun _ _=>rfl)))
   (aj (aQ (aE gH (pv 4) (pv 3) (aH _)) (ag (fu (i:=1) df.nd rfl rfl (N:=(["_law_goal","_law_a","_law_b"]:List Str)) (ix:=([none,some 4,some 3]:List (Option Nat))) (aW rfl rfl) rfl (aU (K:=K) rfl (pv 1)) (fun _ _ _ _=>(aC (i:=0) (show List.Nodup (["_law_goal","_law_a","_law_b"]:List Str)from by decide+kernel) rfl (Or.inl rfl))) (fun _ _ _ _=>bg) (fun _ _ _ _=>(fH hu (iS (bQ (pv 1) (pv 2) (bQ (pv 2) (pv 1) iA)) rfl rfl (by simp) (by decide)) (pv 0) (pv 0) ⟨rfl,rfl,rfl,rfl⟩)))
   (aj (dh (bD (K:=K) rfl PySem.F.plainAttrs_list PySem.F.slot_list_insert PySem.F.type_list_insert Ag (pv 2) (aa ai (aa (cp (aa (pv 4) (aa (pv 3) af))) af)))))) aB))))
   (aj (aA (pv 2)))))),?_⟩
  have ol:=o.length;have big:(100000:Nat)<=MG:=by decide
  refine⟨_,rfl,t,_,rfl,.inr (dH.of ht),fun lv hlv=>?_⟩;have s1:ah H (upd H lv (.lst (xs.map V.int))):=ah.new hlv;have h1:upd H lv (.lst (xs.map V.int)) lv=some (.lst (xs.map V.int)):=ae;generalize upd H lv (.lst (xs.map V.int))=H1 at s1 h1⊢;refine⟨Mw _,fun l fl=>?_⟩;have s2:ah H1 (upd H1 l (.lst [])):=ah.new fl;have hl:upd H1 l (.lst []) l=some (.lst []):=ae;have nlv:l≠lv:=(aq h1 fl).symm;have fl0:H l=none:=s1.free fl;generalize upd H1 l (.lst [])=H2 at s2 hl⊢;have h2:=s2 _ _ h1;have ht2:=s2 _ _ (s1 _ _ ht);refine⟨_,rfl,t,_,rfl,.inr (dH.of ht2),1,rfl,_,1,rfl,⟨by rw[LW];lia,by rw[LW];lia,by decide,by decide⟩,?_⟩;refine uK (fun i σ H'=>i<=xs.length/\∃lv ys es row v3 v4,σ=[some (.ref t),some (.ref lv),some (.ref l),v3,v4]/\ah H H'/\l≠lv/\H' lv=some (.lst (ys.map V.int))/\H' l=some (.lst es)/\cP H' es row/\row.length<=i/\Ord n ys/\Fix n (xs.length-i) ys/\ja xs=fG (xs.length-i) ys++row)
   ⟨Mw _,lv,xs,[],[],_,_,rfl,s1.trans s2,nlv,h2,hl,.nil,Ms _,o,nR o,by rw[Mo];rfl⟩ ?_ ?_
  .rintro i σ H3 hi ⟨il,lv,ys,es,row,v3,v4,rfl,s3,nlv,h3,hl3,x3,rl,oy,fy,hm⟩
   rw[LW]at hi;have hi:i+1<xs.length:=by lia
   obtain⟨m,em⟩:∃m:Nat,xs.length-i=m+1:=⟨xs.length-i-1,by lia⟩;have eg:(((xs.map V.int).length:Int)-(i:Int))=(m:Int)+1:=by rw[LW];lia
   have em':xs.length-(i+1)=m:=by lia
   rw[em]at fy hm;have hmn:(m:Int)+1<=n:=by lia
   rw[eg];have lx:=x3.length;refine⟨_,rfl,_,rfl,_,_,rfl,rfl,lv,_,_,_,rfl,rfl,aG.of h3,fO (by lia) (iz oy (by lia) hmn),?_⟩;refine⟨_,rfl,_,rfl,rfl,_,rfl,dD (fun c=>?_) (fun c=>?_)⟩
   .have c:ld ys ((m:Int)+1)≠(m:Int)+1:=by simpa using c
    have lt:=iH oy fy hmn c;obtain⟨y,ey⟩:∃y,ld ys ((m:Int)+1)=y:=⟨_,rfl⟩;have of:=jy oy fy hmn c;have oo:=kL (e:=(ld ys ((m:Int)+1),(m:Int)+1)) oy ⟨lt.1,lt.2,hmn⟩;have hs:fG (m+1) ys=fG m (ys.map (bw · (ld ys ((m:Int)+1),(m:Int)+1)))++[(ld ys ((m:Int)+1),(m:Int)+1)]:=by
     conv=>lhs;unfold fG
     rw[if_neg c]
    rw[ey]at lt of oo hs⊢;have yl:=oy.length;refine⟨_,rfl,lv,rfl,⟨_,aG.of h3⟩,gI (K:=K) (a:=lv) (xs:=ys.map V.int) (k:=0) (fun j zs σ' H'=>zs=((ys.take j).map (bw · (y,(m:Int)+1))).map V.int/\(∃v,σ'=[v,some (.int y),some (.int ((m:Int)+1))])/\ah H3 H') (by rw[LW];lia) ⟨rfl,⟨none,rfl⟩,ah.refl _⟩ (fun j zs σ' H' _ z=>aG.of (z.2.2 _ _ h3)) (fun j zs σ' H' z=>by rw[z.1,LW,LW,Ma];lia) ?_ ?_⟩
    .rintro j zs σ' H' v R hv ⟨rfl,⟨v0,rfl⟩,sj⟩ done
     obtain⟨z,rfl,hz⟩:=fY hv;refine fun pd fpd=>?_;refine⟨_,rfl,_,rfl,_,rfl,_,rfl,ae,[(Sum.inl y,.int ((m:Int)+1)),(Sum.inl ((m:Int)+1),.int y)],rfl,(show 2<=15 by decide),pd,rfl,.inl ⟨_,.inl ae⟩,_,rfl,_,rfl,_,cK.k (k:=(Sum.inl z:Key)) ae,?_⟩;rw[jm y ((m:Int)+1) z (by lia),tN];refine done _ _ _ ⟨?_,⟨_,rfl⟩,sj.trans (ah.new fpd)⟩;rw[Mq,hz,L7,L7];rfl
    rintro zs σ' H6 lg' ⟨rfl,⟨v0,rfl⟩,s6⟩ flg';rw[LW,List.take_length];have nl':l≠lg':=aq (s6 _ _ hl3) flg';have s7:=s6.trans (ah.new (o:= .lst ((ys.map (bw · (y,(m:Int)+1))).map V.int)) flg');have hg:upd H6 lg' (.lst ((ys.map (bw · (y,(m:Int)+1))).map V.int)) lg'=some (.lst ((ys.map (bw · (y,(m:Int)+1))).map V.int)):=ae;generalize upd H6 lg' (.lst ((ys.map (bw · (y,(m:Int)+1))).map V.int))=H7 at s7 hg⊢;have hl7:=s7 _ _ hl3;have x7:=x3.keep (ah.bI s7);refine⟨_,rfl,.inl ⟨rfl,_,aG.of hl7⟩,_,rfl,_,rfl,(by show 2<=MG;decide),fun te hte=>?_⟩;have z1:ah H7 (upd H7 te (.tup [.int y,.int ((m:Int)+1)])):=ah.new hte;have ht1:upd H7 te (.tup [.int y,.int ((m:Int)+1)]) te=some (.tup [.int y,.int ((m:Int)+1)]):=ae;generalize upd H7 te (.tup [.int y,.int ((m:Int)+1)])=H8 at z1 ht1⊢;have hl8:=z1 _ _ hl7;refine⟨l,_,0,_,rfl,rfl,hl8,by decide,by lia,by lia,?_⟩;have kt:∀b zs,H8 b=some (.tup zs)->upd H8 l (.lst (es.take (0:Int).toNat++V.ref te::es.drop (0:Int).toNat)) b=some (.tup zs):=fun b zs e=>by
     rw[ao (uq e hl8 (by intro z;cases z))];exact e
    refine⟨by lia,lg',_,V.ref te::es,(y,(m:Int)+1)::row,_,_,rfl,ah.put ((s3.trans s7).trans z1) fl0,nl',?_,ae,.cons (kt _ _ ht1) ((x7.keep (ah.bI z1)).keep kt),by rw[L8];lia,oo,?_,?_⟩
    .rw[ao nl'.symm];exact z1 _ _ hg
    .rw[em'];exact of
    .rw[em',hm,hs,Mp];rfl
   .have c:ld ys ((m:Int)+1)=(m:Int)+1:=by simpa using c
    refine⟨by lia,lv,ys,es,row,_,_,rfl,s3,nlv,h3,hl3,x3,by lia,oy,?_,?_⟩
    .rw[em'];exact lK fy c
    .rw[em',hm]
     conv=>lhs;unfold fG
     rw[if_pos c]
  .rintro σ H3 ⟨il,lv,ys,es,row,v3,v4,rfl,s3,nlv,h3,hl3,x3,rl,oy,fy,hm⟩
   have e1:xs.length-(((xs.map V.int).length:Int)-1).toNat=1:=by rw[LW];lia
   rw[e1]at fy hm;rw[zE oy fy n1,List.nil_append]at hm;rw[←hm]at x3;exact⟨_,rfl,k l es H3 fl0 hl3 x3 s3⟩
end
def xF:Sp:=fun vs H Q _=>∃(t:MB)(n:Int)(xs:List Int),vs=[.ref t]/\H t=some (.tup (xs.map V.int))/\Ord n xs/\n<=50/\∀l es H',H l=none->H' l=some (.lst es)->cP H' es (jh n xs)->ah H H'->Q (.ref l) H'
structure TStr9(P:MD)(w:ME)(K:W.Frag)(mg:Str->Option MA)(base:MN):Prop extends T1 mg K where
 jc:FnAt P w K mg base "rounds" 3 ["order"] fL
theorem Cr{ns:List Int}:dw (ns.map V.int) (some 1) none=ns.tail.map V.int:=by
 have e:HT.pJ (ns.map V.int).length 0 (some 1)=min 1 ns.length:=by
  show(if(1:Int)<0 then((1:Int)+((ns.map V.int).length:Int)).toNat else min (1:Int).toNat (ns.map V.int).length)=_;rw[if_neg (by decide),LW];rfl
 have e2:HT.pJ (ns.map V.int).length (ns.map V.int).length none=ns.length:=by rw[LW];rfl
 unfold dw;rw[e,e2,Mi (by rw[List.length_drop,LW];exact Ms _)]
 cases ns with
 |nil=>rfl
 |cons a r=>
  have:min 1 (a::r).length=1:=by rw[L8];lia
  rw[this];rfl
section
variable{P:MD}{w:ME}{K:W.Frag}{mg:Str->Option MA}{base:MN}
theorem Dr:aF ["order"] ["order"] (au (top 38)):=⟨rfl,rfl,rfl,by decide+kernel,rfl,by decide+kernel,by decide+kernel⟩
theorem EB{f:MB}{fd:MM}(F:dJ K "star" "star" (top 38) f fd)(T:TStr9 P w K mg base):aS P w K mg base fQ 4 f fd ["order"] xF:=by
 refine F.ok Dr (fun vs H Q E h=>?_) (fun cdv A outer s H vs Q E hr h=>?_)
 .obtain⟨t,n,xs,rfl,_⟩:=h
  rfl
 .obtain⟨t,n,xs,rfl,ht,o,hn,k⟩:=h
  refine⟨_,(aj (aA (Bm (N:=(["found","thing"]:List Str)) (ix:=([none,none]:List (Option Nat))) (aW rfl rfl) rfl (aU (K:=K) rfl (ak T.jc (hr.mono (by first|decide|lia)) rfl (aa (pv 0) af))) (fun _ _ _ _=>(aC (i:=0) (show List.Nodup (["found","thing"]:List Str)from by decide+kernel) rfl (Or.inl rfl))) (fun _ _ _ _=>(aU (K:=K) rfl (bq (bR (K:=K) rfl) (pv 0) (bu ai) bS))) (fun _ _ _ _=>(aC (i:=1) (show List.Nodup (["found","thing"]:List Str)from by decide+kernel) rfl (Or.inl rfl))) (fun _ _ _ _=>(cp (aa (aO (ax (K:=K) rfl) (pv 0) ai (fun _ _=>rfl)) (aa (pv 1) af))))))),?_⟩;have rl:=yA (xs:=xs) hn;have re:=fun r=>uG (r:=r) o hn;refine⟨_,rfl,t,n,xs,rfl,ht,o,by lia,fun l ws H1 fl hl x1 fr nl s1=>⟨l,rfl,⟨_,aG.of hl⟩,?_⟩⟩;have wl:=x1.length;refine Gr (K:=K) (a:=l) (xs:=ws) (k:=0) (fun i ys σ' H'=>(∃v0 v1,σ'=[v0,v1])/\ah H1 H'/\cP H' ys ((((aX n xs).take i).map fW).flatten)/\ys.length<=50*i/\i<=50) ⟨⟨none,none,rfl⟩,ah.refl _,.nil,Mw _,Mw _⟩ (fun i ys σ' H' _ q=>aG.of (q.2.1 _ _ hl)) (fun i ys σ' H' q=>by have:=q.2.2.2;lia) ?_ ?_
  .rintro i ys σ' H' x R hx ⟨⟨v0,v1,rfl⟩,s2,x2,l2,i2⟩ done
   obtain⟨a,r,rfl,ha,hr'⟩:=x1.get hx;have ha2:=s2 _ _ ha;have rlen:=re r (Mf hr');have cy:=jM o (Mf hr');have ilt:i<ws.length:=(List.getElem?_eq_some_iff.mp hx).1;refine⟨_,rfl,1,rfl,a,_,rfl,aG.of ha2,fun p fp=>⟨p,rfl,⟨_,aG.of ae⟩,?_⟩⟩;rw[Cr];have s3:=s2.trans (ah.new (o:= .lst (r.tail.map V.int)) fp);have x3:=x2.keep (ah.bI (ah.new (o:= .lst (r.tail.map V.int)) fp));have h3:upd H' p (.lst (r.tail.map V.int)) p=some (.lst (r.tail.map V.int)):=ae;have ha3:upd H' p (.lst (r.tail.map V.int)) a=some (.lst (r.map V.int)):=ah.new fp _ _ ha2;generalize upd H' p (.lst (r.tail.map V.int))=H3 at s3 x3 h3 ha3⊢;have et:(((aX n xs).take (i+1)).map fW).flatten=(((aX n xs).take i).map fW).flatten++fW r:=by
    rw[aK fW hr',List.flatten_append,List.flatten_cons,List.flatten_nil,Mo]
   have tl:r.tail.length=r.length-1:=List.length_tail;have hd0:r[0]?=some (r.headD 0):=by
    match r,cy.1 with
    |b::t',_=>rfl
   refine Eg (K:=K) (a:=p) (xs:=r.tail.map V.int) (k:=1) (fun j ys' σ'' H''=>(∃v1,σ''=[some (.ref a),v1])/\ah H3 H''/\cP H'' ys' ((((aX n xs).take i).map fW).flatten++(r.tail.take j).map (fun y=>(r.headD 0,y)))/\ys'.length<=50*i+j/\j<=50) ⟨⟨_,rfl⟩,ah.refl _,by rw[List.take_zero,List.map_nil,Mo];exact x3,by lia,Mw _⟩ (fun j ys' σ'' H'' _ q=>aG.of (q.2.1 _ _ h3)) (fun j ys' σ'' H'' q=>by have:=q.2.2.2;lia) ?_ ?_
   .rintro j ys' σ'' H'' y S hy ⟨⟨v1,rfl⟩,s4,x4,l4,j4⟩ fin
    obtain⟨z,rfl,hz⟩:=fY hy;have jlt:j<r.tail.length:=(List.getElem?_eq_some_iff.mp hz).1;refine⟨_,rfl,a,_,_,_,rfl,rfl,aG.of (s4 _ _ ha3),fO (by decide) hd0,_,rfl,(by show 2<=MG;decide),fun te fte=>fin _ _ _ ⟨⟨_,rfl⟩,s4.trans (ah.new fte),?_,by rw[LY,List.length_singleton];lia,by lia⟩⟩;rw[aK (fun y=>(r.headD 0,y)) hz,←Mp];exact cP.snoc (x4.keep (ah.bI (ah.new fte))) ae
   .rintro ys' σ'' H'' ⟨⟨v1,rfl⟩,s4,x4,l4,j4⟩
    refine done _ _ _ ⟨⟨_,_,rfl⟩,s3.trans s4,?_,?_,by lia⟩
    .rw[et]
     rw[LW,List.take_length]at x4;exact x4
    .rw[LW]at l4;lia
  .rintro ys σ' H' p ⟨⟨v0,v1,rfl⟩,s2,x2,_,_⟩ fp
   rw[Mi (by lia)]at x2;exact k p ys _ ((s1.trans s2).free fp) ae (x2.keep (ah.bI (ah.new fp))) ((s1.trans s2).trans (ah.new fp))
end
structure LJ(P:MD)(w:ME)(K:W.Frag)(mg:Str->Option MA)(base:MN):Prop extends T1 mg K where
 dM:FnAt P w K mg base "_law_rounds" 1 ["_law_order_here"] fL
section
variable{P:MD}{w:ME}{K:W.Frag}{mg:Str->Option MA}{base:MN}
theorem gh:aF ["_law_order_here","_law_found","_law_some"] ["_law_order_here"] (au (top 122)):=⟨rfl,rfl,rfl,by decide+kernel,rfl,by decide+kernel,by decide+kernel⟩
theorem CK{f:MB}{fd:MM}(F:dJ K "_law_star" "_law_star" (top 122) f fd)(T:LJ P w K mg base):aS P w K mg base fQ 2 f fd ["_law_order_here"] xF:=by
 refine F.ok gh (fun vs H Q E h=>?_) (fun cdv A outer s H vs Q E hr h=>?_)
 .obtain⟨t,n,xs,rfl,_⟩:=h
  rfl
 .obtain⟨t,n,xs,rfl,ht,o,hn,k⟩:=h
  refine⟨_,(ag (aw (i:=1) gh.nd rfl (Or.inl rfl) (bf af))
   (ag (dE PassesOwn.never rfl (aU (K:=K) rfl (ak T.dM (hr.mono (by first|decide|lia)) rfl (aa (pv 0) af))) (aC (i:=2) gh.nd rfl (Or.inr rfl)) (aj (aw (i:=1) gh.nd rfl (Or.inl rfl) (av dC (pv 1) (bJ (N:=(["_law_thing","_law_some"]:List Str)) (ix:=([none,some 2]:List (Option Nat))) (aW rfl rfl) rfl (aU (K:=K) rfl (bq (bR (K:=K) rfl) (pv 2) (bu ai) bS)) (fun _ _ _ _=>(aC (i:=0) (show List.Nodup (["_law_thing","_law_some"]:List Str)from by decide+kernel) rfl (Or.inl rfl))) (fun _ _ _ _=>bg) (fun _ _ _ _=>(cp (aa (aO (ax (K:=K) rfl) (pv 1) ai (fun _ _=>rfl)) (aa (pv 0) af)))))))))
   (aj (aA (pv 1))))),?_⟩
  have rl:=yA (xs:=xs) hn;have re:=fun r=>uG (r:=r) o hn;have big:(10000000:Nat)<=MG:=by decide
  refine⟨Mw _,fun l0 fl0=>?_⟩;have s0:ah H (upd H l0 (.lst [])):=ah.new fl0;have h0:upd H l0 (.lst []) l0=some (.lst []):=ae;generalize upd H l0 (.lst [])=H0 at s0 h0⊢;refine⟨_,rfl,t,n,xs,rfl,s0 _ _ ht,o,by lia,fun l ws H1 fl hl x1 fr nl s1=>⟨l,rfl,⟨_,aG.of hl⟩,?_⟩⟩;have wl:=x1.length;refine ig (K:=K) (a:=l) (xs:=ws) (fun i σ H'=>∃(lf:MB)(es:List V)(v2:Option V),σ=[some (.ref t),some (.ref lf),v2]/\H lf=none/\ah H1 H'/\H' lf=some (.lst es)/\cP H' es ((((aX n xs).take i).map fW).flatten)/\es.length<=50*i) ⟨l0,[],_,rfl,fl0,ah.refl _,s1 _ _ h0,.nil,Mw _⟩ (fun i σ H' _ q=>by obtain⟨_,_,_,_,_,q,_⟩:=q;exact aG.of (q _ _ hl)) ?_ ?_
  .rintro i x σ H2 hx ⟨lf,es,v2,rfl,flf,s2,hlf,x2,l2⟩
   obtain⟨a,r,rfl,ha,hr'⟩:=(x1.keep s2).get hx;have rlen:=re r (Mf hr');have cy:=jM o (Mf hr');have ilt:i<ws.length:=(List.getElem?_eq_some_iff.mp hx).1;have et:(((aX n xs).take (i+1)).map fW).flatten=(((aX n xs).take i).map fW).flatten++fW r:=by
    rw[aK fW hr',List.flatten_append,List.flatten_cons,List.flatten_nil,Mo]
   have tl:r.tail.length=r.length-1:=List.length_tail;have hd0:r[0]?=some (r.headD 0):=by
    match r,cy.1 with
    |b::t',_=>rfl
   refine⟨_,rfl,_,rfl,1,rfl,a,_,rfl,aG.of ha,fun p fp=>⟨p,rfl,⟨_,aG.of ae⟩,?_⟩⟩;rw[Cr];have s3:ah H2 (upd H2 p (.lst (r.tail.map V.int))):=ah.new fp;have h3:upd H2 p (.lst (r.tail.map V.int)) p=some (.lst (r.tail.map V.int)):=ae;generalize upd H2 p (.lst (r.tail.map V.int))=H3 at s3 h3⊢;refine gI (K:=K) (a:=p) (xs:=r.tail.map V.int) (k:=0) (fun j ys σ' H'=>(∃v,σ'=[v,some (.ref a)])/\ah H3 H'/\cP H' ys ((r.tail.take j).map fun y=>(r.headD 0,y))) (by rw[LW];lia) ⟨⟨none,rfl⟩,ah.refl _,.nil⟩ (fun j ys σ' H' _ z=>aG.of (z.2.1 _ _ h3)) (fun j ys σ' H' z=>by have:=z.2.2.length;rw[LW,Ma]at this;lia) ?_ ?_
   .rintro j ys σ' H4 y S hy ⟨⟨v,rfl⟩,s4,x4⟩ done
    obtain⟨z,rfl,hz⟩:=fY hy;refine⟨_,rfl,a,_,_,_,rfl,rfl,aG.of (s4 _ _ (s3 _ _ ha)),fO (by decide) hd0,_,rfl,(by show 2<=MG;decide),fun te fte=>done _ _ _ ⟨⟨_,rfl⟩,s4.trans (ah.new fte),?_⟩⟩;rw[aK (fun y=>(r.headD 0,y)) hz];exact cP.snoc (x4.keep (ah.bI (ah.new fte))) ae
   .rintro ys σ' H4 q ⟨⟨v,rfl⟩,s4,x4⟩ fq
    rw[LW,List.take_length]at x4;have yl:=x4.length;rw[LW]at yl;have s5:ah H4 (upd H4 q (.lst ys)):=ah.new fq;have h5:upd H4 q (.lst ys) q=some (.lst ys):=ae;generalize upd H4 q (.lst ys)=H5 at s5 h5⊢;have sA:=s3.trans (s4.trans s5);refine⟨lf,q,es,ys,rfl,rfl,sA _ _ hlf,h5,by lia,fun g fg=>?_⟩;refine⟨g,es++ys,_,rfl,(s0.trans (s1.trans (s2.trans sA))).free fg,s2.trans (sA.trans (ah.new fg)),ae,?_,by rw[LY];lia⟩;rw[et];exact((x2.keep (ah.bI sA)).append (x4.keep (ah.bI s5))).keep (ah.bI (ah.new fg))
  .rintro σ H2 ⟨lf,es,v2,rfl,flf,s2,hlf,x2,l2⟩
   rw[Mi (by lia)]at x2;exact⟨_,rfl,k lf es H2 flf hlf x2 (s0.trans (s1.trans s2))⟩
end
theorem ur{n:Int}:Good n []:=fun e h=>absurd h (Mn)
theorem DU{n r:Int}(h1:2<=n)(r0:0<=r)(r3:r<3):∃m:Int,m9 [V.int n,V.int n,V.int (if(3:Int)<n then 3 else n)] r=some (.int m)/\1<=m/\m<=n:=by
 have:r=0\/r=1\/r=2:=by lia
 rcases this with rfl|rfl|rfl
 .exact⟨n,rfl,by lia,by lia⟩
 .exact⟨n,rfl,by lia,by lia⟩
 .exact⟨_,rfl,by split<;>lia,by split<;>lia⟩
theorem Ba{n one r:Int}(h1:2<=n)(o1:1<=one)(o2:one<=n)(r0:0<=r)(r1:r<n-1):1<=1+(one+r)%n/\1+(one+r)%n<=n/\1+(one+r)%n≠one:=by
 have m0:=Int.emod_nonneg (one+r) (by lia:n≠0);have m1:=Int.emod_lt_of_pos (one+r) (by lia:0<n);refine⟨by lia,by lia,fun z=>?_⟩;by_cases h:one+r<n
 .rw[Int.emod_eq_of_lt (by lia) h]at z
  lia
 .have e:(one+r)%n=one+r-n:=by
   rw[←Int.sub_emod_right,Int.emod_eq_of_lt (by lia) (by lia)]
  rw[e]at z;lia
def BD:Sp:=fun vs H Q _=>∃(p:MB)(c:Nat)(n m:Int),vs=[.ref p,.int n,.int m]/\br H p c/\c<=90000/\1<=n/\n<=100/\0<=m/\m<=100/\
 ∀l es row H',H l=none->H' l=some (.lst es)->cP H' es row->Good n row->(row.length:Int)<=m->br H' p (c+300)->aP p H H'->Q (.ref l) H'
structure Lk(P:MD)(w:ME)(K:W.Frag)(mg:Str->Option MA)(base:MN):Prop extends T1 mg K where
 ay:FnAt P w K mg base "_law_take" 1 ["_law_purse_here","_law_many"] jD
 fV:mg "min" =none
 lN:mg "max" =none
section
variable{P:MD}{w:ME}{K:W.Frag}{mg:Str->Option MA}{base:MN}
theorem dZ:aF ["_law_purse_here","_law_n","_law_most","_law_found","_law_near","_law_k","_law_one","_law_other"] ["_law_purse_here","_law_n","_law_most"] (au (top 119)):=⟨rfl,rfl,rfl,by decide+kernel,rfl,by decide+kernel,by decide+kernel⟩
theorem Hu{f:MB}{fd:MM}(F:dJ K "_law_row" "_law_row" (top 119) f fd)(T:Lk P w K mg base):aS P w K mg base fQ 2 f fd ["_law_purse_here","_law_n","_law_most"] BD:=by
 refine F.ok dZ (fun vs H Q E h=>?_) (fun cdv A outer s H vs Q E hr h=>?_)
 .obtain⟨p,c,n,m,rfl,_⟩:=h
  rfl
 .obtain⟨p,c,n,m,rfl,pu,hc,hn,hn2,hm,hm2,k⟩:=h
  refine⟨_,(ag (aw (i:=3) dZ.nd rfl (Or.inl rfl) (bf af))
   (ag (aQ (aE rQ (pv 1) ai (aH _)) (aj (aA (pv 3))) aB)
   (ag (aw (i:=4) dZ.nd rfl (Or.inl rfl) (aO (ax (K:=K) rfl) (bf (@aa _ _ _ _ _ (pv 1) (@aa _ _ _ _ _ (pv 1) (@aa _ _ _ _ _ (ar (gn rfl) rfl T.fV (by decide+kernel) (aa (pv 1) (aa ai af))) af cj) aL) aL)) (ak T.ay (hr.mono (by first|decide|lia)) rfl (aa (pv 0) (aa ai af))) (fun _ _=>rfl)))
   (ag (dE PassesOwn.never rfl (cN rfl T.bL (aa (ak T.ay (hr.mono (by first|decide|lia)) rfl (aa (pv 0) (aa (av bp (pv 2) ai) af))) af)) (aC (i:=5) dZ.nd rfl (Or.inl rfl)) (ag (aw (i:=6) dZ.nd rfl (Or.inl rfl) (av bp ai (ak T.ay (hr.mono (by first|decide|lia)) rfl (aa (pv 0) (aa (pv 4) af)))))
   (ag (aw (i:=7) dZ.nd rfl (Or.inl rfl) (av bp ai (av dU (av bp (pv 6) (ak T.ay (hr.mono (by first|decide|lia)) rfl (aa (pv 0) (aa (av cO (pv 1) ai) af)))) (pv 1))))
   (aj (dh (bD (K:=K) rfl PySem.F.plainAttrs_list PySem.F.slot_list_append PySem.F.type_list_append eV (pv 3) (aa (cp (aa (ar (gn rfl) rfl T.fV (by decide+kernel) (aa (pv 6) (aa (pv 7) af))) (aa (ar (jP rfl) rfl T.lN (by decide+kernel) (aa (pv 6) (aa (pv 7) af))) af))) af)))))))
   (aj (aA (pv 3))))))),?_⟩
  refine⟨Mw _,fun l hl=>?_⟩;have npl:p≠l:=by obtain⟨_,e⟩:=pu.at;exact aq e hl
  refine⟨_,rfl,_,_,rfl,rfl,_,rfl,dD (fun c2=>?_) (fun c2=>?_)⟩
  .exact⟨_,rfl,k l [] [] _ hl ae .nil ur (by simpa using hm) ((pu.upd npl).mono (by lia) (by lia)) (aP.new hl)⟩
  .have c2:2<=n:=by simpa using c2
   refine⟨_,rfl,_,rfl,_,rfl,_,_,rfl,(by show 3<=MG;decide),fun l2 hl2=>?_⟩;have np2:p≠l2:=by obtain⟨_,e⟩:=(pu.upd npl (o:= .lst [])).at;exact aq e hl2
   have nl2:l≠l2:=by intro z;subst z;rw[ae]at hl2;cases hl2
   refine⟨_,rfl,p,c,3,rfl,(pu.upd npl).upd np2,by lia,by decide,by decide,fun r H1 r0 r1 pu1 s1=>?_⟩;obtain⟨near,hat,q1,q2⟩:=DU c2 r0 r1;refine⟨l2,_,_,_,rfl,rfl,aG.of (s1 l2 _ np2.symm ae),hat,?_⟩;have sa:aP p H H1:=(aP.new hl).trans ((aP.new hl2).trans s1);have hl1:H1 l=some (.lst []):=s1 l _ npl.symm (by rw[ao nl2,ae]);refine⟨_,rfl,_,rfl,_,_,rfl,rfl,p,c+1,m+1,rfl,pu1,by lia,by lia,by lia,fun r2 H2 r20 r21 pu2 s2=>⟨r2,rfl,by lia,by lia,?_⟩⟩;refine eU (fun i σ H'=>∃es row v5 v6 v7,σ=[some (.ref p),some (.int n),some (.int m),some (.ref l),some (.int near),v5,v6,v7]/\aP p H H'/\H' l=some (.lst es)/\cP H' es row/\Good n row/\row.length=i/\br H' p (c+2+2*i))
    ⟨[],[],none,none,none,rfl,sa.trans s2,s2 l _ npl.symm hl1,.nil,ur,rfl,pu2⟩ ?_ ?_
   .rintro i σ H' hi ⟨es,row,v5,v6,v7,rfl,s3,h3,x3,g3,l3,pu3⟩
    have hi2:(i:Int)<r2:=by lia
    refine⟨_,rfl,_,rfl,p,_,near,rfl,pu3,by lia,by lia,by lia,fun r3 H4 r30 r31 pu4 s4=>⟨_,_,rfl,rfl,?_⟩⟩;refine⟨_,rfl,_,rfl,_,rfl,_,_,rfl,rfl,p,_,n-1,rfl,pu4,by lia,by lia,by lia,fun r4 H5 r40 r41 pu5 s5=>⟨_,_,rfl,rfl,_,rfl,_,_,rfl,rfl,(by show(0:Int)<n;lia),_,_,rfl,rfl,?_⟩⟩;have h5:H5 l=some (.lst es):=s5 l _ npl.symm (s4 l _ npl.symm h3);obtain⟨o1,o2,o3⟩:=Ba (n:=n) (one:=1+r3) (r:=r4) c2 (by lia) (by lia) r40 r41;refine⟨_,rfl,.inl ⟨rfl,_,aG.of h5⟩,_,rfl,_,rfl,_,_,rfl,_,rfl,_,rfl,_,_,rfl,(by show 2<=MG;decide),fun t ht=>?_⟩;have nlt:l≠t:=aq h5 ht;have lx:=x3.length;have npt:p≠t:=by obtain⟨_,e⟩:=pu5.at;exact aq e ht
    refine⟨l,_,_,rfl,rfl,(by rw[ao nlt];exact h5),?_,?_⟩
    .have:(100:Nat)<MG:=by decide
     lia
    .refine⟨es++[.ref t],row++[(if 1+(1+r3+r4)%n<1+r3 then 1+(1+r3+r4)%n else 1+r3,if 1+(1+r3+r4)%n>1+r3 then 1+(1+r3+r4)%n else 1+r3)],_,_,_,rfl,?_,ae,?_,?_,?_,?_⟩
     .intro b o hb e
      have e5:=s5 b o hb (s4 b o hb (s3 b o hb e));rw[ao (aq e hl),ao (aq e5 ht)];exact e5
     .refine cP.snoc (cP.keep (fun b xs e=>?_) (aP.JZ s5 pu4 (aP.JZ s4 pu3 x3))) (by rw[ao (Ne.symm nlt),ae])
      rw[ao (uq e h5 (by intro z;cases z)),ao (aq e ht)];exact e
     .refine g3.append fun e he=>?_
      rw[List.mem_singleton.mp he];dsimp only
      split<;>split<;>lia
     .rw[LY,l3];rfl
     .refine br.mono ((pu5.upd npt).upd npl) (by lia) (by lia)
   .rintro σ H' ⟨es,row,v5,v6,v7,rfl,s3,h3,x3,g3,l3,pu3⟩
    refine⟨_,rfl,k l es row H' hl h3 x3 g3 (by rw[l3];lia) (pu3.mono (by lia) (by lia)) s3⟩
end
structure TO(P:MD)(w:ME)(K:W.Frag)(mg:Str->Option MA)(base:MN):Prop extends T1 mg K where
 ay:FnAt P w K mg base "_law_take" 1 ["_law_purse_here","_law_many"] jD
section
variable{P:MD}{w:ME}{K:W.Frag}{mg:Str->Option MA}{base:MN}
theorem bo:aF ["_law_purse_here","_law_n","_law_sort","_law_left","_law_at","_law_some","_law_goals","_law_k","_law_found","_law_one","_law_other"] ["_law_purse_here","_law_n"] (au (top 118)):=⟨rfl,rfl,rfl,by decide+kernel,rfl,by decide+kernel,by decide+kernel⟩
theorem Bt{f:MB}{fd:MM}(F:dJ K "_law_order" "_law_order" (top 118) f fd)(T:TO P w K mg base):aS P w K mg base fQ 3 f fd ["_law_purse_here","_law_n"] ym:=by
 refine F.ok bo (fun vs H Q E h=>?_) (fun cdv A outer s H vs Q E hr h=>?_)
 .obtain⟨p,c,n,rfl,_⟩:=h
  rfl
 .obtain⟨p,c,n,rfl,pu,hc,hn,hn2,k⟩:=h
  have hu:=iY hr;refine⟨_,(ag (aw (i:=2) bo.nd rfl (Or.inl rfl) (ak T.ay (hr.mono (by first|decide|lia)) rfl (aa (pv 0) (aa ai af))))
   (ag (aw (i:=3) bo.nd rfl (Or.inr rfl) (aY (qp rfl) rfl T.mL (by decide+kernel) (aa (aY oW rfl T.bL (by decide+kernel) (aa ai (aa (av bp (pv 1) ai) af))) af)))
   (ag (aQ (aE rQ (pv 2) ai (aH _)) (ag (aw (i:=8) bo.nd rfl (Or.inl rfl) (bf af))
   (ag (dE PassesOwn.never rfl (cN rfl T.bL (aa (pv 1) af)) (aC (i:=7) bo.nd rfl (Or.inl rfl)) (aj (dh (bD (K:=K) rfl PySem.F.plainAttrs_list PySem.F.slot_list_append PySem.F.type_list_append eV (pv 8) (aa (bD (K:=K) rfl PySem.F.plainAttrs_list PySem.F.slot_list_pop PySem.F.type_list_pop vd (pv 3) (aa (ak T.ay (hr.mono (by first|decide|lia)) rfl (aa (pv 0) (aa (ar (aN (K:=K) rfl) rfl T.bP (by decide+kernel) (aa (pv 3) af)) af))) af)) af)))))
   (aj (aA (aY (cB (K:=K) rfl) rfl T.gj (by decide+kernel) (aa (pv 8) af)))))) aB)
   (ag (aQ (aE bY (pv 2) ai (aH _)) (ag (dE PassesOwn.never rfl (cN rfl T.bL (aa (ak T.ay (hr.mono (by first|decide|lia)) rfl (aa (pv 0) (aa ai af))) af)) (aC (i:=7) bo.nd rfl (Or.inl rfl)) (ag (aw (i:=9) bo.nd rfl (Or.inl rfl) (ak T.ay (hr.mono (by first|decide|lia)) rfl (aa (pv 0) (aa (pv 1) af))))
   (ag (aw (i:=10) bo.nd rfl (Or.inl rfl) (ak T.ay (hr.mono (by first|decide|lia)) rfl (aa (pv 0) (aa (pv 1) af))))
   (aj (mB (cp (aa (aO (ax (K:=K) rfl) (pv 3) (pv 10) (fun _ _=>rfl)) (aa (aO (ax (K:=K) rfl) (pv 3) (pv 9) (fun _ _=>rfl)) af))) (eG (K:=K) (n:=2) rfl rfl (bh (oY (pv 3) (pv 9) set_list) (bh (oY (pv 3) (pv 10) set_list) eC))))))))
   (aj (aA (aY (cB (K:=K) rfl) rfl T.gj (by decide+kernel) (aa (pv 3) af))))) aB)
   (ag (aw (i:=4) bo.nd rfl (Or.inr rfl) (ak T.ay (hr.mono (by first|decide|lia)) rfl (aa (pv 0) (aa (pv 1) af))))
   (ag (fu (i:=5) bo.nd rfl rfl (N:=(["_law_k","_law_left","_law_at","_law_purse_here","_law_n"]:List Str)) (ix:=([none,some 3,some 4,some 0,some 1]:List (Option Nat))) (aW rfl rfl) rfl (cN rfl T.bL (aa (pv 1) af)) (fun _ _ _ _=>(aC (i:=0) (show List.Nodup (["_law_k","_law_left","_law_at","_law_purse_here","_law_n"]:List Str)from by decide+kernel) rfl (Or.inl rfl))) (fun _ _ _ _=>bg) (fun _ _ _ _=>(bD (K:=K) rfl PySem.F.plainAttrs_list PySem.F.slot_list_pop PySem.F.type_list_pop vd (pv 1) (aa (av dU (av bp (pv 2) (ak T.ay (hr.mono (by first|decide|lia)) rfl (aa (pv 3) (aa (pv 4) af)))) (ar (aN (K:=K) rfl) rfl T.bP (by decide+kernel) (aa (pv 1) af))) af))))
   (ag (aw (i:=6) bo.nd rfl (Or.inr rfl) og)
   (ag (dE PassesOwn.never rfl (cN rfl T.bL (aa (pv 1) af)) (aC (i:=7) bo.nd rfl (Or.inl rfl)) (aj (tq hu (pv 6) (aO (ax (K:=K) rfl) (pv 5) (pv 7) (fun _ _=>rfl)) (aO (ax (K:=K) rfl) (pv 5) (av dU (av bp (pv 7) ai) (pv 1)) (fun _ _=>rfl)) rfl)))
   (aj (aA (aY (cB (K:=K) rfl) rfl T.gj (by decide+kernel) (aa (bJ (N:=(["_law_thing","_law_goals"]:List Str)) (ix:=([none,some 6]:List (Option Nat))) (aW rfl rfl) rfl (jT rfl T.bL (aa ai (aa (av bp (pv 1) ai) af))) (fun _ _ _ _=>(aC (i:=0) (show List.Nodup (["_law_thing","_law_goals"]:List Str)from by decide+kernel) rfl (Or.inl rfl))) (fun _ _ _ _=>bg) (fun _ _ _ _=>(dS hu (pv 1) (pv 0) (fun _ _=>rfl)))) af)))))))))))),?_⟩
  refine⟨_,rfl,p,c,4,rfl,pu,by lia,by decide,by decide,fun r H1 r0 r1 pu1 s1=>?_⟩;refine⟨_,rfl,_,_,rfl,rfl,.inr ⟨_,_,rfl,fun rg hrg=>⟨rg,_,_,rfl,ae,by lia,by lia,by lia,by lia,fun l hl=>?_⟩⟩⟩;have sa:aP p H (upd H1 rg (.tR 1 (n+1))):=s1.trans (aP.new hrg);have nl:H l=none:=by
   cases e:H l with
   |none=>rfl
   |some o=>
    by_cases z:l=p
    .obtain⟨xs,e'⟩:=(pu1.upd (pu1.ne hrg) (o:= .tR 1 (n+1))).at
     rw[z,e']at hl;cases hl
    .rw[sa l o z e]at hl
     cases hl
  have pu2:br (upd (upd H1 rg (.tR 1 (n+1))) l (.lst ((eB 1 (n+1)).map V.int))) p (c+1):=by
   have p2:=pu1.upd (pu1.ne hrg) (o:= .tR 1 (n+1));exact p2.upd (p2.ne hl)
  have npl:p≠l:=pu.ne nl;have s2:aP p H (upd (upd H1 rg (.tR 1 (n+1))) l (.lst ((eB 1 (n+1)).map V.int))):=aP.put sa nl;have h2:upd (upd H1 rg (.tR 1 (n+1))) l (.lst ((eB 1 (n+1)).map V.int)) l=some (.lst ((eB 1 (n+1)).map V.int)):=ae;generalize upd (upd H1 rg (.tR 1 (n+1))) l (.lst ((eB 1 (n+1)).map V.int))=H2 at pu2 s2 h2⊢;clear sa s1 pu1 hl hrg;have big:(100000:Nat)<=MG:=by decide
  refine⟨_,rfl,_,_,rfl,rfl,_,rfl,dD (fun _=>?_) (fun _=>?_)⟩
  ·
   refine⟨Mw _,fun lf hlf=>?_⟩;have nlf:l≠lf:=aq h2 hlf;have npf:p≠lf:=pu2.ne hlf;have hf:H lf=none:=eJ s2 npf hlf;refine⟨_,rfl,_,rfl,by lia,by lia,?_⟩;refine eU (fun i σ H'=>∃fs ls v4 v5 v6 v7 v9 v10,σ=[some (.ref p),some (.int n),some (.int r),some (.ref l),v4,v5,v6,v7,some (.ref lf),v9,v10]/\aP p H H'/\H' l=some (.lst (ls.map V.int))/\H' lf=some (.lst (fs.map V.int))/\fs.length=i/\Ord n (fs++ls)/\br H' p (c+1+i))
    ⟨[],eB 1 (n+1),_,_,_,_,_,_,rfl,aP.put s2 hf,by rw[ao nlf];exact h2,ae,rfl,mF n,pu2.upd npf⟩ ?_ ?_
   .rintro i σ H' hi ⟨fs,ls,v4,v5,v6,v7,v9,v10,rfl,s3,hl,hF,fl,o,pu3⟩
    have ol:=o.length;rw[LY]at ol;refine⟨_,rfl,.inl ⟨rfl,_,aG.of hF⟩,_,rfl,.inl ⟨rfl,_,aG.of hl⟩,_,rfl,_,rfl,l,_,rfl,.inl (aG.of hl),?_⟩;refine⟨p,_,_,rfl,pu3,by lia,by rw[LW];lia,by rw[LW];lia,fun r3 H4 r30 r31 pu4 s4=>?_⟩;rw[LW]at r31;obtain⟨y,hy⟩:=me (ns:=ls) (k:=r3.toNat) (by lia);have hl4:=s4 l _ npl.symm hl;have hF4:=s4 lf _ npf.symm hF;refine⟨l,_,r3,r3.toNat,_,rfl,rfl,hl4,by lia,by lia,(nN (o4 r30 (by rw[LW];exact r31))).1,yE hy,?_⟩;refine⟨lf,fs.map V.int,_,rfl,rfl,by rw[ao nlf.symm];exact hF4,by rw[LW];lia,?_⟩;refine⟨fs++[y],ls.eraseIdx r3.toNat,v4,v5,v6,_,v9,v10,rfl,aP.put (aP.put (s3.trans s4) nl) hf,?_,?_,?_,uJ o hy,?_⟩
    .rw[ao nlf,ae,lE]
    .rw[ae,L7];rfl
    .rw[LY,fl];rfl
    .exact(pu4.upd npl).upd npf
   .rintro σ H' ⟨fs,ls,v4,v5,v6,v7,v9,v10,rfl,s3,hl,hF,fl,o,pu3⟩
    have ol:=o.length;rw[LY]at ol;have:ls=[]:=List.length_eq_zero_iff.mp (by lia);subst this;rw[Mo]at o;refine⟨_,rfl,lf,_,rfl,.inl ⟨aG.of hF,fun t ht=>?_⟩⟩;have npt:p≠t:=pu3.ne ht;exact k t fs _ (eJ s3 npt ht) ae o ((pu3.upd npt).mono (by lia) (by lia)) (aP.put s3 (eJ s3 npt ht))
  .refine⟨_,rfl,rfl,_,rfl,dD (fun _=>?_) (fun _=>?_)⟩
   ·
    refine⟨_,rfl,p,c+1,4,rfl,pu2,by lia,by decide,by decide,fun r2 H3 r20 r21 pu3 s3=>⟨_,rfl,by lia,by lia,?_⟩⟩;refine eU (fun i σ H'=>∃ls v4 v5 v6 v7 v8 v9 v10,σ=[some (.ref p),some (.int n),some (.int r),some (.ref l),v4,v5,v6,v7,v8,v9,v10]/\aP p H H'/\H' l=some (.lst (ls.map V.int))/\Ord n ls/\br H' p (c+2+2*i))
     ⟨eB 1 (n+1),_,_,_,_,_,_,_,rfl,s2.trans s3,s3 l _ npl.symm h2,mF n,pu3⟩ ?_ ?_
    .rintro i σ H' hi ⟨ls,v4,v5,v6,v7,v8,v9,v10,rfl,s4,hl,o,pu4⟩
     have ol:=o.length;refine⟨_,rfl,_,rfl,p,_,_,rfl,pu4,by lia,by lia,by lia,fun a H5 a0 a1 pu5 s5=>?_⟩;refine⟨_,rfl,_,rfl,p,_,_,rfl,pu5,by lia,by lia,by lia,fun b H6 b0 b1 pu6 s6=>?_⟩;have hl6:=s6 l _ npl.symm (s5 l _ npl.symm hl);obtain⟨x,hx⟩:=me (ns:=ls) (k:=a.toNat) (by lia);obtain⟨y,hy⟩:=me (ns:=ls) (k:=b.toNat) (by lia);refine⟨_,rfl,_,rfl,l,_,_,_,rfl,rfl,aG.of hl6,fO b0 hy,_,rfl,_,rfl,l,_,_,_,rfl,rfl,aG.of hl6,fO a0 hx,(by show 2<=MG;decide),fun t ht=>?_⟩;have nlt:l≠t:=aq hl6 ht;have npt:p≠t:=pu6.ne ht;refine⟨t,_,rfl,dH.of ae,rfl,_,_,rfl,_,rfl,_,rfl,l,_,_,a.toNat,rfl,rfl,(by rw[ao nlt];exact hl6),o4 a0 (by rw[LW];lia),?_⟩;refine⟨_,_,rfl,_,rfl,_,rfl,l,_,_,b.toNat,rfl,rfl,ae,o4 b0 (by rw[List.length_set,LW];lia),rfl,?_⟩;refine⟨(ls.set a.toNat y).set b.toNat x,v4,v5,v6,_,v8,_,_,rfl,aP.put (aP.put (aP.put (s4.trans (s5.trans s6)) (eJ (s4.trans (s5.trans s6)) npt ht)) nl) nl,?_,swap_perm o hx hy,?_⟩
     .rw[ae,List.map_set,List.map_set]
     .exact((((pu6.upd npt).upd npl).upd npl)).mono (by lia) (by lia)
    .rintro σ H' ⟨ls,v4,v5,v6,v7,v8,v9,v10,rfl,s4,hl,o,pu4⟩
     refine⟨_,rfl,l,_,rfl,.inl ⟨aG.of hl,fun t ht=>?_⟩⟩;have npt:p≠t:=pu4.ne ht;exact k t ls _ (eJ s4 npt ht) ae o ((pu4.upd npt).mono (by lia) (by lia)) (aP.put s4 (eJ s4 npt ht))
   ·
    refine⟨_,rfl,_,rfl,p,_,_,rfl,pu2,by lia,by lia,by lia,fun a H3 a0 a1 pu3 s3=>?_⟩;have hl3:=s3 l _ npl.symm h2;refine⟨_,rfl,_,rfl,by lia,by lia,pB (k:=0) (fun i ys σ' H'=>∃fs ls v,ys=fs.map V.int/\σ'=[v,some (.ref l),some (.int a),some (.ref p),some (.int n)]/\aP p H H'/\H' l=some (.lst (ls.map V.int))/\fs.length=i/\Ord n (fs++ls)/\br H' p (c+2+i)) (by lia)
     ⟨[],eB 1 (n+1),none,rfl,rfl,s2.trans s3,hl3,rfl,mF n,pu3⟩ (fun i ys σ' H' ⟨fs,_,_,e,_,_,_,e2,_⟩=>by rw[e,LW,e2];exact Ms _) ?_ ?_⟩
    .rintro i ys σ' H' R hi ⟨fs,ls,v,rfl,rfl,s4,hl,fl,o,pu4⟩ done
     have ol:=o.length;rw[LY]at ol;refine⟨_,rfl,.inl ⟨rfl,_,aG.of hl⟩,_,rfl,_,rfl,_,rfl,p,_,_,rfl,pu4,by lia,by lia,by lia,fun r3 H5 r30 r31 pu5 s5=>?_⟩;have hl5:=s5 l _ npl.symm hl;have lpos:(0:Int)<((ls.map V.int).length:Int):=by rw[LW];lia
     refine⟨_,_,rfl,rfl,_,rfl,l,_,rfl,.inl (aG.of hl5),_,_,rfl,rfl,lpos,?_⟩;have m0:=Int.emod_nonneg (a+r3) (Int.ne_of_gt lpos);have m1:=Int.emod_lt_of_pos (a+r3) lpos;obtain⟨m,em⟩:∃m,(a+r3)%((ls.map V.int).length:Int)=m:=⟨_,rfl⟩;rw[em]at m0 m1;obtain⟨y,hy⟩:=me (ns:=ls) (k:=m.toNat) (by rw[LW]at m1;lia);refine⟨l,_,m,m.toNat,_,rfl,(by rw[←em]),hl5,by lia,(by rw[LW]at m1;lia),(nN (o4 m0 m1)).1,yE hy,done _ _ _ ?_⟩;refine⟨fs++[y],ls.eraseIdx m.toNat,_,by rw[L7];rfl,rfl,aP.put (s4.trans s5) nl,?_,?_,uJ o hy,pu5.upd npl⟩
     .rw[ae,lE]
     .rw[LY,fl];rfl
    .rintro ys σ' H' ps ⟨fs,ls,v,rfl,rfl,s4,hl,fl,o,pu4⟩ hps
     have ol:=o.length;rw[LY]at ol;have:ls=[]:=List.length_eq_zero_iff.mp (by lia);subst this;rw[Mo]at o;have np1:p≠ps:=pu4.ne hps;have f1:H ps=none:=eJ s4 np1 hps;have s5:=aP.put s4 f1 (o:= .lst (fs.map V.int));have pu5:=pu4.upd np1 (o:= .lst (fs.map V.int));have h5:upd H' ps (.lst (fs.map V.int)) ps=some (.lst (fs.map V.int)):=ae;generalize upd H' ps (.lst (fs.map V.int))=H5 at s5 pu5 h5⊢;refine fun pd hpd=>?_;have np2:p≠pd:=pu5.ne hpd;have f2:H pd=none:=eJ s5 np2 hpd;have n12:ps≠pd:=aq h5 hpd;have nz:∀{i:Nat}{x:Int},fs[i]?=some x->vf fs x=fs.getD ((i+1)%fs.length) 0:=fun h=>xS o.nodup h;refine⟨_,rfl,_,rfl,by lia,by lia,?_⟩;refine eU (fun i σ H'=>∃kvs v7 v8 v9 v10,σ=[some (.ref p),some (.int n),some (.int r),some (.ref l),some (.int a),some (.ref ps),some (.ref pd),v7,v8,v9,v10]/\aP p H H'/\H' ps=some (.lst (fs.map V.int))/\H' pd=some (.dK kvs)/\kvs.length<=i/\(∀j x,j<i->fs[j]?=some x->bV kvs (Sum.inl x:Key)=some (.int (vf fs x)))/\br H' p (c+200))
      ⟨[],_,_,_,_,rfl,aP.put s5 f2,by rw[ao n12];exact h5,ae,Ms _,fun j x h=>absurd h (Nat.not_lt_zero _),(pu5.upd np2).mono (by lia) (by lia)⟩ ?_ ?_
     .rintro i σ H' hi ⟨kvs,v7,v8,v9,v10,rfl,s6,h6,hd6,kl,kv,pu6⟩
      obtain⟨x,hx⟩:=me (ns:=fs) (k:=i) (by lia);have lpos:(0:Int)<n:=by lia
      have fln:(fs.length:Int)=n:=by lia
      have ei:((i:Int)+1)%n=(((i+1)%fs.length:Nat):Int):=by rw[←fln];rfl
      obtain⟨y,hy⟩:=me (ns:=fs) (k:=(i+1)%fs.length) (Nat.mod_lt _ (by lia));have hy':fs[(((i:Int)+1)%n).toNat]?=some y:=by rw[ei,Int.toNat_natCast];exact hy
      have hx':fs[(0+(i:Int)).toNat]?=some x:=by rw[Int.zero_add,Int.toNat_natCast];exact hx
      have ny:vf fs x=y:=by rw[nz hx,Me,hy];rfl
      refine⟨_,rfl,_,rfl,_,_,rfl,rfl,_,rfl,_,_,rfl,rfl,lpos,ps,_,_,_,rfl,rfl,aG.of h6,fO (Int.emod_nonneg _ (by lia)) (by rw[Int.zero_add];exact hy'),?_⟩;refine⟨_,rfl,_,rfl,_,rfl,ps,_,_,_,rfl,rfl,aG.of h6,fO (by lia) hx',pd,_,rfl,uB.k (k:=Sum.inl x) hd6 (by lia),?_⟩;refine⟨putK kvs (Sum.inl x) (.int y),_,v8,v9,v10,rfl,aP.put s6 f2,by rw[ao n12];exact h6,ae,?_,?_,pu6.upd np2⟩
      .have:=gM kvs (Sum.inl x:Key) (.int y)
       lia
      .intro j z hj hz
       rw[kO];by_cases e:z=x
       .subst e
        rw[if_pos rfl,ny]
       .rw[if_neg (by intro q;apply e;cases q;rfl)]
        have:j≠i:=by intro q;subst q;rw[hx]at hz;cases hz;exact e rfl
        exact kv j z (by lia) hz
     .rintro σ H' ⟨kvs,v7,v8,v9,v10,rfl,s6,h6,hd6,kl,kv,pu6⟩
      refine⟨_,rfl,_,_,rfl,rfl,1,n+1,rfl,⟨by decide,by decide,by lia,by lia⟩,pB (k:=0) (fun i ys σ' H''=>ys=((eB 1 (n+1)).take i).map (fun x=>V.int (vf fs x))/\(∃v,σ'=[v,some (.ref pd)])/\H''=H') (by lia) ⟨rfl,⟨none,rfl⟩,rfl⟩
       (fun i ys σ' H'' q=>by rw[q.1,LW,Ma];lia) ?_ ?_⟩
      .rintro i ys σ' H'' R hi ⟨rfl,⟨v,rfl⟩,rfl⟩ done
       have hin:1+(i:Int)∈fs:=o.mem.mpr (by lia);obtain⟨j,hj,hj2⟩:=Hq hin;refine⟨_,rfl,_,rfl,pd,.int (vf fs (1+(i:Int))),rfl,?_,done _ _ _ ⟨?_,⟨_,rfl⟩,rfl⟩⟩
       .have q:=cK.k (k:=(Sum.inl (1+(i:Int)):Key)) hd6
        rw[kv j _ (by lia) hj]at q;exact q
       .exact(aK (fun x=>V.int (vf fs x)) (gJ hi)).symm
      .rintro ys σ' H'' pl ⟨rfl,_,rfl⟩ hpl
       have np3:p≠pl:=pu6.ne hpl;have f3:=eJ s6 np3 hpl;refine⟨pl,_,rfl,.inl ⟨aG.of ae,fun t ht=>?_⟩⟩;have pu7:=pu6.upd np3 (o:= .lst (((eB 1 (n+1)).take (n+1-1).toNat).map (fun x=>V.int (vf fs x))));have s7:=aP.put s6 f3 (o:= .lst (((eB 1 (n+1)).take (n+1-1).toNat).map (fun x=>V.int (vf fs x))));have npt:p≠t:=pu7.ne ht;refine k t ((eB 1 (n+1)).map (vf fs)) _ (eJ s7 npt ht) ?_ (EH o) ((pu7.upd npt).mono (by lia) (by lia)) (aP.put s7 (eJ s7 npt ht));rw[ae,Md,Mi (by rw[a8];exact Ms _)];rfl
end
end Sw
namespace L2
open PySem PySem.Spec PyProof.Rows PySem.W
def J4(X:Cx)(hs:List ExceptHandler)(th:TH):Prop:=
 ∀(pins:List (MB×Obj))(s:MC)(σ:St)(H:Hp)(D:Ends)(e:MB)(cls:MA)(bb:Option MB),kF X pins σ H s e cls bb->th D σ cls e H->MP (model X.prog X.w) X.A (handleBy (.ref e) X.env hs) (SP X pins D) X.xe s
def KG(K:Frag)(D:MB)(i:Nat)(ts:TS)(th:TH):TH:=fun Dn σ cls e H=>∃C b,cls= .ref C/\DN K C D b/\
 if b=true then∀bb,ts {nx:=fun σ' H'=>Dn.nx (σ'.set i none) H',rt:=Dn.rt,bk:=fun σ' H'=>Dn.bk (σ'.set i none) H',ct:=fun σ' H'=>Dn.ct (σ'.set i none) H'} (σ.set i (some (.ref e))) (upd H e (.exc e C bb))else th Dn σ cls e H
def Ii(tb:(St->XK)->TS)(th:TH):TS:=fun D σ H=>tb (fun σ' cls _ H'=>∀e,H' e=none->th D σ' cls e H') D σ H
section
variable{X:Cx}{hs:List ExceptHandler}{th:TH}{ts:TS}{D:MB}{x n:Str}{np pos:Pos}{b₀:MQ}{suite:List MQ}{i:Nat}
theorem DO:J4 X [] Fn:=fun _ _ _ _ _ _ _ _ _ h=>h.elim
theorem Ak(hN:X.N.Nodup)(hi:X.N[i]?=some n)(hk:X.env.scope.names.lookup n=some .local)(hg:Gl X x)(hm:X.mg x=some (.ref D))(hb:∀e,pX (Xh X e) (b₀::suite) ts)(hr:J4 X hs th)(hdb:(x==("__debug__" :Str))=false:=by decide):
  J4 X (.ExceptHandler (some (.Name x np)) (some n) (b₀::suite) pos::hs) (KG X.K D i ts th):=by
 intro pins s σ H Dn e cls bb hh h;obtain⟨C,b,rfl,m,h⟩:=h;have I:=hh.inv;refine wpAny_handleBy_cons (codeAny_handlers_test (iy (X:=Xh X e) (I.J7 e) hg hm ?_ hdb)) (by intro q;cases q);refine mZ m I.je hh.KP ?_
 cases b with
 |false=>exact hr pins s σ H Dn e _ bb hh (by rw[if_neg Mx]at h;exact h)
 |true=>
  rw[if_pos rfl]at h;refine codeAny_handlers_suite_as (hh.lands fun h' hh'=>?_);refine gv (X:=X) (v:= .ref e) hh'.ze hN hi (.inl hk) rfl (fun s2 I2=>?_) (.inr hk);refine MK (hb e pins s2 _ _ _ (I2.J7 e) (h bb)) (fun f s₃ z=>?_) fun _ _ z=>False.elim z;have z:=z.FX I.ok
  cases f with
  |next=>obtain⟨σ',H',J,q⟩:=z;exact n4 J hN hi hk fun s' J'=>⟨_,H',J',q⟩
  |brk=>obtain⟨σ',H',J,q⟩:=z;exact n4 J hN hi hk fun s' J'=>⟨_,H',J',q⟩
  |cont=>obtain⟨σ',H',J,q⟩:=z;exact n4 J hN hi hk fun s' J'=>⟨_,H',J',q⟩
  |ret u=>obtain⟨v,σ',H',J,r,q⟩:=z;exact n4 J hN hi hk fun s' J'=>⟨v,_,H',J',r,q⟩
end
section
variable{X:Cx}
theorem Dp{body:List MQ}{h₀:ExceptHandler}{hs:List ExceptHandler}{pos:Pos}{tb:(St->XK)->TS}{th:TH}(hb:∀pins Es,pX (Xt X pins Es) body (tb Es))(hh:J4 X (h₀::hs) th)
  (hst:X.stack=X.env::X.outer:=by rfl) (hfr:X.env.frame=some X.env.locals:=by rfl):PS X (.Try body (h₀::hs) [] [] pos) (Ii tb th):=by
 intro pins s σ H D I h;refine wpAny_Try_except (MK (hb pins _ [] s σ H D I.toT h) (fun f s₁ z=>?_) fun ev s₁ z=>?_)
 .have z:=z.ofT
  cases f with
  |next=>exact wpAny_execs_nil z
  |brk=>exact z
  |cont=>exact z
  |ret u=>exact z
 .obtain⟨σ',H₁,s₁',I',e,cls,a0,B,H',bb,rfl,os,bare,F,q⟩:=z
  have ff:=I'.ok.frames;have fl:=F.fl;rw[hst]at ff fl;refine mD ff hfr fl F.lo fun h₄ held sm lo=>?_;refine iq (s:={s₁ with heap:=h₄}) held.1 held.2.1 held.2.2.1 held.2.2.2 lo fun h₅ fl5 sm5 lo5=>?_;have hd:kF X pins σ' H' {s₁ with heap:=h₅} e cls bb:=⟨H₁,s₁',B,a0,I',os,bare,F.move (by rw[hst];exact fl5) (sm.trans sm5) lo5⟩;exact hh pins _ σ' H' D e cls bb hd (q e hd.free)
end
section
variable{X:Cx}{K:W.Frag}
def C6:V->List V->Hp->VK->Prop:=fun x vs H Q=>∃(t:MB)(bs:List Bool)(b:Bool)(j:Nat),x= .ref t/\vs=[.bl b]/\H t=some (.lst (bs.map V.bl))/\bs[j]?=some b/\(∀m,m<j->bs[m]?≠some b)/\Q (.int (j:Int)) H
theorem zr:zW X "list.index" C6:=by
 intro pins s σ H x vs v us Q I rx rv h;obtain⟨l,bs,b,j,rfl,rfl,hH,hj,hno,q⟩:=h;cases rx;obtain⟨u,rfl,ru⟩:=rv.one;cases(show u=MA.bool b from ru);obtain⟨z,its,n,r,hl,e⟩:=I.qk hH;have eq:=iG r;subst eq;have jl:j<(bs.map MA.bool).length:=by
  rw[LW];exact(List.getElem?_eq_some_iff.mp hj).1
 have sz:(bs.map MA.bool).length<=MG:=by have:=r.length;lia
 refine call_meets F.slot_list_index ⟨_,e,rfl⟩ F.entry_list_index (F.args_list_index_2 _ _) (MeetsSeq.list_index l (bs.map MA.bool).toArray n (.bool b) (fun y=>y== .bool b) (fun y hy=>?_) j (by simpa using jl) ?_ ?_ ?_) ⟨e,?_⟩
 .obtain⟨c,_,rfl⟩:=List.mem_map.mp (Array.mem_def.mp hy)
  have:((MA.bool c==MA.bool b):Bool)=(c==b):=by cases c<;>cases b<;>rfl
  rw[this];exact fun prog w A E s Q hq=>(SeqAt.EqAt.bool_bool (A:=A) (s:=s) c b) prog w E Q hq
 .have:MG<2^63-1:=by decide
  lia
 .obtain⟨h1,h2⟩:=List.getElem?_eq_some_iff.mp hj
  simp[h2]
 .intro m hm lt
  have:=hno m lt;have hm':m<bs.length:=by simpa using hm
  rw[LZ hm']at this;simp;intro z;apply this;generalize bs[m]=c at z⊢;revert z;cases c<;>cases b<;>intro z<;>first|rfl|cases z
 .exact⟨.int (j:Int),H,I.tok _,⟨_,rfl⟩,q⟩
end
end L2
namespace Sw
open PySem L2
structure eX where
 (wD kR Apart cV o6 pN xC wY sF cg gV cH mz:MB)
structure Ld(mg:Str->Option MA)(cl:eX):Prop where
 CC:mg "Unlike" =some (.ref cl.wD)
 gD:mg "NoRounds" =some (.ref cl.kR)
 DL:mg "Apart" =some (.ref cl.Apart)
 hW:mg "NoMove" =some (.ref cl.cV)
 wW:mg "NotLeast" =some (.ref cl.o6)
 wA:mg "NotGreat" =some (.ref cl.pN)
 Bn:mg "NoTree" =some (.ref cl.xC)
 AB:mg "NoCars" =some (.ref cl.wY)
 zp:mg "NoChain" =some (.ref cl.sF)
 ip:mg "NoBound" =some (.ref cl.cg)
 cz:mg "NoText" =some (.ref cl.gV)
 jd:mg "NoName" =some (.ref cl.cH)
 uV:mg "StarError" =some (.ref cl.mz)
 aJ:mg "isinstance" =none
 tj:mg "ValueError" =none
def uU:List Str:=["Unlike","NoRounds","Apart","NoMove","NotLeast","NotGreat","NoTree","NoCars","NoChain","NoBound","NoText","NoName"]
structure iM(K:W.Frag)(cl:eX)(C:MB)(i:Nat):Prop where
 ei:uA K C
 em:DN K C cl.mz true
 ve:W.kitOne K (.ref C) (.type "ValueError")=some true
 bs:∃b1 b2 b3 b4 b5 b6 b7 b8 b9 b10 b11 b12,W.kitOne K (.ref C) (.ref cl.wD)=some b1/\W.kitOne K (.ref C) (.ref cl.kR)=some b2/\W.kitOne K (.ref C) (.ref cl.Apart)=some b3/\
  W.kitOne K (.ref C) (.ref cl.cV)=some b4/\W.kitOne K (.ref C) (.ref cl.o6)=some b5/\W.kitOne K (.ref C) (.ref cl.pN)=some b6/\W.kitOne K (.ref C) (.ref cl.xC)=some b7/\
  W.kitOne K (.ref C) (.ref cl.wY)=some b8/\W.kitOne K (.ref C) (.ref cl.sF)=some b9/\W.kitOne K (.ref C) (.ref cl.cg)=some b10/\W.kitOne K (.ref C) (.ref cl.gV)=some b11/\
  W.kitOne K (.ref C) (.ref cl.cH)=some b12/\[b1,b2,b3,b4,b5,b6,b7,b8,b9,b10,b11,b12]=(List.range 12).map fun j=>decide (j=i)
 lt:i<12
theorem fR{C:MB}(u:MA)(r:RelV (.ref C) u):u= .ref C:=r
def xg(i:Nat):Str:=LV "!" ++uU.getD i (LV "")
theorem cX.same {C:MB}{H H':Hp}{a d:MB}{n:Int}{m:Kept}(h:cX C H a d n m)(s:ah H H'):cX C H' a d n m:=by
 obtain⟨dx,fs,kvs,ha,hf,hd,ne,km,ml⟩:=h;exact⟨dx,fs,kvs,s _ _ ha,hf,s _ _ hd,ne,km.same s,ml⟩
theorem Jh:∀i,i<12->((List.range 12).map fun j=>decide (j=i)).count true=1:=by decide
theorem Kk:∀i,i<12->((List.range 12).map fun j=>decide (j=i))[i]?=some true/\(∀m,m<i->((List.range 12).map fun j=>decide (j=i))[m]?≠some true)/\(uU.map V.str)[i]?=some (V.str (uU.getD i (LV "")))/\(LV "!").length+(uU.getD i (LV "")).length<=MG:=by
 intro i h;refine⟨?_,fun m hm=>?_,?_,?_⟩
 .rw[LX,List.getElem?_range h];simp
 .rw[LX,List.getElem?_range (by lia)]
  simp only[Mz,ne_eq,Option.some.injEq,decide_eq_true_eq];lia
 .rw[LX,Me]
  have:i<uU.length:=h;rw[LZ this];rfl
 .have q:∀j,j<12->(uU.getD j (LV "")).length<=20:=by decide+kernel
  have:=q i h;have e:(LV "!").length=1:=by decide+kernel
  have big:(1000:Nat)<=MG:=by decide
  lia
def sV(K:W.Frag)(cl:eX)(C:MB)(L:cf):Sp:=fun vs H Q _=>∃(a d:MB)(t:Str)(n:Int)(m:Kept)(o:Out),vs=[.ref a,.str t]/\t.length<=990/\1<=n/\n<=12/\m.length<=40/\(∀p∈m,p.1.length<=990)/\cX C H a d n m/\L.out n m (Txt.split t (LV " "))=some o/\
 match o with
 | .jK c=>∃i,iM K cl c i/\∀H',ah H H'->Q (.str (xg i)) H'
 | .ans s=>∀H',ah H H'->Q (.str s) H'
 | .AG=>∀ks:List Str,ks.Perm (m.map (·.1))->PyProof.Rows.sortedS ks=true->∀H',ah H H'->Q (.str (jC ks)) H'
 | .put x R=>∀H',cX C H' a d n (kB m x R)->(∀b o,b≠d->H b=some o->H' b=some o)->Q (.str (LV "ok")) H'
 | .del x=>∀H',cX C H' a d n (lS m x)->(∀b o,b≠d->H b=some o->H' b=some o)->Q (.str (LV "ok")) H'
structure Fj(P:MD)(w:ME)(K:W.Frag)(mg:Str->Option MA)(base:MN)(cl:eX)(C:MB)(L:cf):Prop extends T1 mg K,Ld mg cl where
 pj:MethAt P w K mg base (lW P w) C "say" 30 ["self","row"] (Fg C L)
section
variable{P:MD}{w:ME}{K:W.Frag}{mg:Str->Option MA}{base:MN}{cl:eX}{C:MB}{L:cf}
theorem cF:aF ["_law_desk","_law_row_here","_law_names_here","e","_law_told","_law_some"] ["_law_desk","_law_row_here"] (au (top 127)):=⟨rfl,rfl,rfl,by decide+kernel,rfl,by decide+kernel,by decide+kernel⟩
theorem DC{f:MB}{fd:MM}(F:dJ K "_law_say" "_law_say" (top 127) f fd)(T:Fj P w K mg base cl C L):aS P w K mg base fQ 31 f fd ["_law_desk","_law_row_here"] (sV K cl C L):=by
 refine F.ok cF (fun vs H Q E h=>?_) (fun cdv A outer s H vs Q E hr h=>?_)
 .obtain⟨a,d,t,n,m,o,rfl,_⟩:=h
  rfl
 .obtain⟨a,d,t,n,m,o,rfl,ht,n1,n2,hm,hmw,hd,ho,k⟩:=h
  refine⟨_,(@ag _ _ _ _ _ (@aw _ _ 2 _ _ _ _ cF.nd rfl (Or.inl rfl) (@bf _ _ _ _ (@jN _ _ [V.str (LV "Unlike"),V.str (LV "NoRounds"),V.str (LV "Apart"),V.str (LV "NoMove"),V.str (LV "NotLeast"),V.str (LV "NotGreat"),V.str (LV "NoTree"),V.str (LV "NoCars"),V.str (LV "NoChain"),V.str (LV "NoBound")] rfl)) (by rfl) (by first|exact .inl rfl|exact .inr rfl))
   (@ag _ _ _ _ _ (aw (i:=2) cF.nd rfl (Or.inl rfl) (av dC (pv 2) (bf (aa az (aa az af)))))
   (@ag _ _ _ _ _ (Dp (fun _ _=>(aj (aw (i:=4) cF.nd rfl (Or.inl rfl) (Ad T.pj (hr.mono (by decide)) (pv 0) (aa (pv 1) af))))) (Ak (i:=3) cF.nd rfl rfl rfl T.uV (fun _=>(@ag _ _ _ _ _ (@aw _ _ 5 _ _ _ _ cF.nd rfl (Or.inl rfl) (@bf _ _ _ _ (@aa _ _ _ _ _ (ar (bE (K:=K) rfl) rfl T.aJ (by decide+kernel) (aa (pv 3) (aa (fN rfl T.CC) af))) (@aa _ _ _ _ _ (ar (bE (K:=K) rfl) rfl T.aJ (by decide+kernel) (aa (pv 3) (aa (fN rfl T.gD) af))) (@aa _ _ _ _ _ (ar (bE (K:=K) rfl) rfl T.aJ (by decide+kernel) (aa (pv 3) (aa (fN rfl T.DL) af))) (@aa _ _ _ _ _ (ar (bE (K:=K) rfl) rfl T.aJ (by decide+kernel) (aa (pv 3) (aa (fN rfl T.hW) af))) af cj) cj) cj) cj)) (by rfl) (by first|exact .inl rfl|exact .inr rfl))
   (@ag _ _ _ _ _ (@aw _ _ 5 _ _ _ _ cF.nd rfl (Or.inl rfl) (av dC (pv 5) (@bf _ _ _ _ (@aa _ _ _ _ _ (ar (bE (K:=K) rfl) rfl T.aJ (by decide+kernel) (aa (pv 3) (aa (fN rfl T.wW) af))) (@aa _ _ _ _ _ (ar (bE (K:=K) rfl) rfl T.aJ (by decide+kernel) (aa (pv 3) (aa (fN rfl T.wA) af))) (@aa _ _ _ _ _ (ar (bE (K:=K) rfl) rfl T.aJ (by decide+kernel) (aa (pv 3) (aa (fN rfl T.Bn) af))) (@aa _ _ _ _ _ (ar (bE (K:=K) rfl) rfl T.aJ (by decide+kernel) (aa (pv 3) (aa (fN rfl T.AB) af))) af cj) cj) cj) cj))) (by rfl) (by first|exact .inl rfl|exact .inr rfl))
   (@ag _ _ _ _ _ (@aw _ _ 5 _ _ _ _ cF.nd rfl (Or.inl rfl) (av dC (pv 5) (@bf _ _ _ _ (@aa _ _ _ _ _ (ar (bE (K:=K) rfl) rfl T.aJ (by decide+kernel) (aa (pv 3) (aa (fN rfl T.zp) af))) (@aa _ _ _ _ _ (ar (bE (K:=K) rfl) rfl T.aJ (by decide+kernel) (aa (pv 3) (aa (fN rfl T.ip) af))) (@aa _ _ _ _ _ (ar (bE (K:=K) rfl) rfl T.aJ (by decide+kernel) (aa (pv 3) (aa (fN rfl T.cz) af))) (@aa _ _ _ _ _ (ar (bE (K:=K) rfl) rfl T.aJ (by decide+kernel) (aa (pv 3) (aa (fN rfl T.jd) af))) af cj) cj) cj) cj))) (by rfl) (by first|exact .inl rfl|exact .inr rfl))
   (ag (aQ (PW.pt (j5 (aE gH (bD (K:=K) rfl PySem.F.plainAttrs_list PySem.F.slot_list_count PySem.F.type_list_count (zP (K:=K) rfl) (pv 5) (aa i3 af)) ai (aH _)) (jz (eL (eI (ar (bE (K:=K) rfl) rfl T.aJ (by decide+kernel) (aa (pv 3) (aa (iP (v:= .ty "ValueError") rfl T.tj (by decide+kernel) rfl) af)))))))) (aj (aA az)) aB)
   (aj (aA (av aI az (aO (ax (K:=K) rfl) (pv 2) (bD (K:=K) rfl PySem.F.plainAttrs_list PySem.F.slot_list_index PySem.F.type_list_index zr (pv 5) (aa i3 af)) (fun _ _=>rfl)))))))))) DO))
   (aj (aA (pv 4)))))),?_⟩
  have one:1<=MG:=by decide
  have two:2<=MG:=by decide
  have four:4<=MG:=by decide
  have eight:8<=MG:=by decide
  have ten:10<=MG:=by decide
  have twelve:12<=MG:=by decide
  refine⟨ten,fun l1 f1=>⟨_,rfl,two,fun l2 f2=>⟨l1,l2,_,_,rfl,rfl,ah.new f2 _ _ ae,ae,twelve,fun l3 f3=>?_⟩⟩⟩;have s3:=((ah.new (o:= .lst [.str (LV "Unlike"),.str (LV "NoRounds"),.str (LV "Apart"),.str (LV "NoMove"),.str (LV "NotLeast"),.str (LV "NotGreat"),.str (LV "NoTree"),.str (LV "NoCars"),.str (LV "NoChain"),.str (LV "NoBound")]) f1).trans (ah.new (o:= .lst [.str (LV "NoText"),.str (LV "NoName")]) f2)).trans (ah.new (o:= .lst ([.str (LV "Unlike"),.str (LV "NoRounds"),.str (LV "Apart"),.str (LV "NoMove"),.str (LV "NotLeast"),.str (LV "NotGreat"),.str (LV "NoTree"),.str (LV "NoCars"),.str (LV "NoChain"),.str (LV "NoBound")]++[.str (LV "NoText"),.str (LV "NoName")])) f3);have h3:upd (upd (upd H l1 (.lst [.str (LV "Unlike"),.str (LV "NoRounds"),.str (LV "Apart"),.str (LV "NoMove"),.str (LV "NotLeast"),.str (LV "NotGreat"),.str (LV "NoTree"),.str (LV "NoCars"),.str (LV "NoChain"),.str (LV "NoBound")])) l2 (.lst [.str (LV "NoText"),.str (LV "NoName")])) l3 (.lst ([.str (LV "Unlike"),.str (LV "NoRounds"),.str (LV "Apart"),.str (LV "NoMove"),.str (LV "NotLeast"),.str (LV "NotGreat"),.str (LV "NoTree"),.str (LV "NoCars"),.str (LV "NoChain"),.str (LV "NoBound")]++[.str (LV "NoText"),.str (LV "NoName")])) l3=some (.lst (uU.map V.str)):=ae;generalize upd (upd (upd H l1 (.lst [.str (LV "Unlike"),.str (LV "NoRounds"),.str (LV "Apart"),.str (LV "NoMove"),.str (LV "NotLeast"),.str (LV "NotGreat"),.str (LV "NoTree"),.str (LV "NoCars"),.str (LV "NoChain"),.str (LV "NoBound")])) l2 (.lst [.str (LV "NoText"),.str (LV "NoName")])) l3 (.lst ([.str (LV "Unlike"),.str (LV "NoRounds"),.str (LV "Apart"),.str (LV "NoMove"),.str (LV "NotLeast"),.str (LV "NotGreat"),.str (LV "NoTree"),.str (LV "NoCars"),.str (LV "NoChain"),.str (LV "NoBound")]++[.str (LV "NoText"),.str (LV "NoName")]))=H3 at s3 h3⊢;have hd3:=hd.same s3;obtain⟨dx,fs,kvs,ha,hf,_⟩:=id hd3;refine⟨_,rfl,a,dx,fs,rfl,ha,hf.say,_,rfl,a,d,t,n,m,o,rfl,ht,n1,n2,hm,hmw,hd3,ho,?_⟩
  cases o with
  |ans s'=>exact fun H' sm=>⟨_,rfl,k H' (s3.trans sm)⟩
  |AG=>exact fun ks pm so H' sm=>⟨_,rfl,k ks pm so H' (s3.trans sm)⟩
  |put x R=>exact fun H' dk sm=>⟨_,rfl,k H' dk fun b o hb e=>sm b o hb (s3 _ _ e)⟩
  |del x=>exact fun H' dk sm=>⟨_,rfl,k H' dk fun b o hb e=>sm b o hb (s3 _ _ e)⟩
  |jK c=>
   obtain⟨i,al,k⟩:=k;obtain⟨b1,b2,b3,b4,b5,b6,b7,b8,b9,b10,b11,b12,k1,k2,k3,k4,k5,k6,k7,k8,k9,k10,k11,k12,hc⟩:=al.bs;intro bb H4 sm e he;refine⟨c,true,rfl,al.em,oU fun bx=>?_⟩;have s5:ah H (upd H4 e (.exc e c bx)):=s3.trans (sm.trans (ah.new he));have h5:upd H4 e (.exc e c bx) l3=some (.lst (uU.map V.str)):=ah.new he _ _ (sm _ _ h3);have he5:upd H4 e (.exc e c bx) e=some (.exc e c bx):=ae;generalize upd H4 e (.exc e c bx)=H5 at s5 h5 he5⊢;refine⟨_,rfl,e,c,bx,_,_,_,rfl,he5,al.ei,fR,k1,_,rfl,e,c,bx,_,_,_,rfl,he5,al.ei,fR,k2,_,rfl,e,c,bx,_,_,_,rfl,he5,al.ei,fR,k3,_,rfl,e,c,bx,_,_,_,rfl,he5,al.ei,fR,k4,four,fun m1 g1=>?_⟩;have s6:=ah.new (o:= .lst [.bl b1,.bl b2,.bl b3,.bl b4]) g1;have q1:=ae (H:=H5) (a:=m1) (o:= .lst [.bl b1,.bl b2,.bl b3,.bl b4]);generalize upd H5 m1 (.lst [.bl b1,.bl b2,.bl b3,.bl b4])=H6 at s6 q1⊢;have he6:=s6 _ _ he5;refine⟨_,rfl,_,rfl,e,c,bx,_,_,_,rfl,he6,al.ei,fR,k5,_,rfl,e,c,bx,_,_,_,rfl,he6,al.ei,fR,k6,_,rfl,e,c,bx,_,_,_,rfl,he6,al.ei,fR,k7,_,rfl,e,c,bx,_,_,_,rfl,he6,al.ei,fR,k8,four,fun m2 g2=>?_⟩;have s7:=s6.trans (ah.new (o:= .lst [.bl b5,.bl b6,.bl b7,.bl b8]) g2);have q2:=ah.new (o:= .lst [.bl b5,.bl b6,.bl b7,.bl b8]) g2 _ _ q1;have q3:=ae (H:=H6) (a:=m2) (o:= .lst [.bl b5,.bl b6,.bl b7,.bl b8]);generalize upd H6 m2 (.lst [.bl b5,.bl b6,.bl b7,.bl b8])=H7 at s7 q2 q3⊢;refine⟨m1,m2,_,_,rfl,rfl,q2,q3,eight,fun m3 g3=>?_⟩;have s8:=s7.trans (ah.new (o:= .lst ([.bl b1,.bl b2,.bl b3,.bl b4]++[.bl b5,.bl b6,.bl b7,.bl b8])) g3);have q4:=ae (H:=H7) (a:=m3) (o:= .lst ([.bl b1,.bl b2,.bl b3,.bl b4]++[.bl b5,.bl b6,.bl b7,.bl b8]));generalize upd H7 m3 (.lst ([.bl b1,.bl b2,.bl b3,.bl b4]++[.bl b5,.bl b6,.bl b7,.bl b8]))=H8 at s8 q4⊢;have he8:=s8 _ _ he5;refine⟨_,rfl,_,rfl,e,c,bx,_,_,_,rfl,he8,al.ei,fR,k9,_,rfl,e,c,bx,_,_,_,rfl,he8,al.ei,fR,k10,_,rfl,e,c,bx,_,_,_,rfl,he8,al.ei,fR,k11,_,rfl,e,c,bx,_,_,_,rfl,he8,al.ei,fR,k12,four,fun m4 g4=>?_⟩;have s9:=s8.trans (ah.new (o:= .lst [.bl b9,.bl b10,.bl b11,.bl b12]) g4);have q5:=ah.new (o:= .lst [.bl b9,.bl b10,.bl b11,.bl b12]) g4 _ _ q4;have q6:=ae (H:=H8) (a:=m4) (o:= .lst [.bl b9,.bl b10,.bl b11,.bl b12]);generalize upd H8 m4 (.lst [.bl b9,.bl b10,.bl b11,.bl b12])=H9 at s9 q5 q6⊢;refine⟨m3,m4,_,_,rfl,rfl,q5,q6,twelve,fun m5 g5=>?_⟩;have s10:=s9.trans (ah.new (o:= .lst (([.bl b1,.bl b2,.bl b3,.bl b4]++[.bl b5,.bl b6,.bl b7,.bl b8])++[.bl b9,.bl b10,.bl b11,.bl b12])) g5);have q7:upd H9 m5 (.lst (([.bl b1,.bl b2,.bl b3,.bl b4]++[.bl b5,.bl b6,.bl b7,.bl b8])++[.bl b9,.bl b10,.bl b11,.bl b12])) m5=some (.lst ([b1,b2,b3,b4,b5,b6,b7,b8,b9,b10,b11,b12].map V.bl)):=ae;generalize upd H9 m5 (.lst (([.bl b1,.bl b2,.bl b3,.bl b4]++[.bl b5,.bl b6,.bl b7,.bl b8])++[.bl b9,.bl b10,.bl b11,.bl b12]))=H10 at s10 q7⊢;have he10:=s10 _ _ he5;rw[hc]at q7;have il:=al.lt;refine⟨_,rfl,.inl ⟨rfl,_,aG.of q7⟩,m5,_,true,rfl,rfl,q7,?_⟩;refine⟨rfl,_,rfl,bZ (by rw[Jh i il];decide) ?_⟩;refine⟨_,rfl,e,c,bx,_,_,_,rfl,he10,al.ei,(fun u r=>r),al.ve,_,rfl,bZ (by decide) ?_⟩;obtain⟨at1,at2,at3,ll⟩:=Kk i il;exact⟨_,rfl,_,rfl,.inl ⟨rfl,_,aG.of q7⟩,m5,_,true,i,rfl,rfl,q7,at1,at2,l3,_,(i:Int),_,rfl,rfl,aG.of (s10 _ _ h5),aR (j:=i) at3,_,_,rfl,rfl,ll,k _ (s5.trans s10)⟩
end
open Classical in
noncomputable def lJ(word:Str)(n:Int)(xs:List Wd):Option (Except MB Str):=
 match xs with
 |[.row R]=>if Good n R/\R.length<=60/\word=LV "show"then some (.ok (fM R))else none
 |_=>none
theorem lB{word:Str}{n:Int}{xs:List Wd}{r:Except MB Str}(h:lJ word n xs=some r):∃R,xs=[.row R]/\Good n R/\R.length<=60/\word=LV "show"/\r= .ok (fM R):=by
 unfold lJ at h
 split at h
 .rename_i R
  split at h
  .rename_i c
   cases h;exact⟨R,rfl,c.1,c.2.1,c.2.2,rfl⟩
  .cases h
 .cases h
theorem Al{n:Int}{R:List (Int×Int)}(g:Good n R)(l:R.length<=60):lJ (LV "show") n [.row R]=some (.ok (fM R)):=if_pos ⟨g,l,rfl⟩
theorem DW{L:cf}(hL:L.ans=lJ){word:Str}(hw:word≠LV "show"){vs:List V}{H:Hp}{Q:VK}{E:XK}(h:vi L word vs H Q E):False:=by
 obtain⟨n,l,us,xs,_,_,_,_,_,h⟩:=h;rw[hL]at h;rcases h with⟨s,e,_⟩|⟨c,e,_⟩
 .obtain⟨_,_,_,_,z,_⟩:=lB e
  exact hw z
 .obtain⟨_,_,_,_,z,_⟩:=lB e
  exact hw z
structure IC(P:MD)(w:ME)(K:W.Frag)(mg:Str->Option MA)(base:MN):Prop extends T1 mg K where
 oE:AF P w K mg base "one_word" 1 ["text"] Jq
 oA:FnAt P w K mg base "show_row" 1 ["row"] qY
section
variable{P:MD}{w:ME}{K:W.Frag}{mg:Str->Option MA}{base:MN}{L:cf}
theorem tK:aF ["n","given"] ["n","given"] (au (top 112)):=⟨rfl,rfl,rfl,by decide+kernel,rfl,by decide+kernel,by decide+kernel⟩
theorem Hg{f:MB}{fd:MM}(F:dJ K "show_kept" "show_kept" (top 112) f fd)(hL:L.ans=lJ)(T:IC P w K mg base):iZ P w K mg base (lW P w) 7 f fd ["n","given"] (vi L "show"):=by
 refine F.Lo tK (fun vs H Q E h=>?_) (fun cdv A outer s H vs Q E hr h=>?_)
 .obtain⟨n,l,us,xs,rfl,_⟩:=h
  rfl
 .obtain⟨n,l,us,xs,rfl,n1,n2,hl,hw,h⟩:=h
  rw[hL]at h;refine⟨_,(nJ (tF (tM T.oE nA (hr.mono (by decide)) rfl (nM (QE.of (ak T.oA (hr.mono (by first|decide|lia)) rfl (aa (aO (ax (K:=K) rfl) (pv 1) ai (fun _ _=>rfl)) af))) xU)))),?_⟩;rcases h with⟨s',e,k⟩|⟨c,e,k⟩
  .obtain⟨R,rfl,g,l60,_,er⟩:=lB e
   cases er
   cases hw with
   |cons w1 hw=>cases hw with
    |nil=>
     obtain⟨b,es,rfl,hb,xe⟩:=w1;have g0:∀e∈R,0<=e.1/\0<=e.2:=fun e he=>by have:=g e he;lia
     refine⟨_,rfl,l,_,0,_,rfl,rfl,aG.of hl,aR (j:=0) rfl,b,es,R,rfl,hb,xe,l60,fun e he=>by have:=g e he;lia,fun H1 s1=>?_⟩;have tl:=vA l60 fun e he=>by have:=g e he;lia
     refine⟨_,rfl,by lia,?_⟩;rw[tH g0];exact k _ s1
  .obtain⟨R,_,_,_,_,er⟩:=lB e
   cases er
end
noncomputable def t9(cl:eX):cf:=du (fun _=>true) lJ (fun _=>true) cl.gV cl.cH cl.cg cl.cV
def Kl(cl:eX)(c:MB)(i:Nat):Prop:=(c=cl.cH/\i=11)\/(c=cl.cV/\i=3)\/(c=cl.cg/\i=9)
def pk(cl:eX)(H:Hp)(n:Int)(v:V)(nm:Str):Out->Prop
 | .put x R=>x=nm/\dY H v R/\Good n R/\R.length<=60
 | .jK c=>∃i,Kl cl c i/\v= .str (xg i)
 | .del x=>x=nm/\v= .cE
 |_=>False
theorem pk.same {cl:eX}{H H':Hp}{n:Int}{v:V}{nm:Str}{o:Out}(h:pk cl H n v nm o)(s:ah H H'):pk cl H' n v nm o:=by
 cases o with
 |put x R=>exact⟨h.1,h.2.1.same s,h.2.2⟩
 |jK c=>exact h
 |del x=>exact h
 |ans _=>exact h
 |AG=>exact h
def FO(cl:eX)(H:Hp)(n:Int)(m:Kept)(t:MB):Prop:=∃(tx nm:Str)(v:V)(o:Out),H t=some (.tup [.str tx,.str nm,v])/\tx.length<=990/\isNm nm/\(t9 cl).out n m (Txt.split tx (LV " "))=some o/\pk cl H n v nm o
def Fc(cl:eX):Sp:=fun vs H Q _=>∃(G0:Hp)(p l kd:MB)(c:Nat)(n:Int)(ws:List Str)(kvs:List (Key×V))(m:Kept),vs=[.ref p,.int n,.ref l,.ref kd]/\ah G0 H/\G0 p=none/\br H p c/\c<=80000/\1<=n/\n<=12/\G0 l=some (.lst (ws.map V.str))/\ws.length=4/\(∀w∈ws,isNm w)/\G0 kd=some (.dK kvs)/\bj G0 kvs m/\hZ n m/\
 ∀t H',FO cl H' n m t->ah G0 H'->Q (.ref t) H'
theorem lD{α:Type}{f g:α->Nat}:∀{l:List α},(∀x∈l,f x<=g x)->(l.map f).sum<=(l.map g).sum
 |[],_=>Ms _
 |x::l,h=>by
  rw[L9,L9,List.sum_cons,List.sum_cons];have:=h x (by simp);have:=lD (f:=f) (g:=g) (l:=l) fun y hy=>h y (by simp[hy]);lia
theorem Bk{r:List Int}(h:∀x∈r,1<=x/\x<=12):(sY r).length<=3*r.length:=by
 have h1:=StrLaws.join_length_le (LV ",") (r.map aM);rw[Md,LW,show(LV ",").length=1 by decide+kernel]at h1;have h2:=lD (f:=(fun x:Str=>x.length)∘aM) (g:=fun _=>2) (l:=r) fun x hx=>PyProof.Rows.toString_length_le (by have:=h x hx;lia) (by decide) (show x<10^2 by have:=h x hx;lia);have h3:∀l:List Int,(l.map fun _=>2).sum=2*l.length:=fun l=>by induction l with
  |nil=>rfl
  |cons a l ih=>rw[L9,List.sum_cons,ih,L8];lia
 rw[h3]at h2;unfold sY;lia
theorem xA{n:Int}{xs:List Int}(o:Ord n xs)(n1:1<=n)(n12:n<=12):(mj (aX n xs)).length<=60:=by
 obtain⟨_,f2,f3,f4⟩:=qQ o n1 n12;have h1:=StrLaws.join_length_le (LV "") ((aX n xs).map fun r=>LV "(" ++sY r++LV ")");rw[Md,show(LV "").length=0 by decide+kernel]at h1;have h2:=lD (f:=(fun x:Str=>x.length)∘fun r=>LV "(" ++sY r++LV ")") (g:=fun r=>5*r.length) (l:=aX n xs) fun r hr=>by
  have q:=Bk (r:=r) fun x hx=>by have:=f3 r hr x hx;lia
  have ne:=(f2 r hr).1;have:1<=r.length:=by cases r with
   |nil=>exact absurd rfl ne
   |cons a l=>simp
  show(LV "(" ++sY r++LV ")").length<=_;rw[Str.length_append,Str.length_append,show(LV "(").length=1 by decide+kernel,show(LV ")").length=1 by decide+kernel];lia
 have h3:∀l:List (List Int),(l.map fun r=>5*r.length).sum=5*l.flatten.length:=fun l=>by induction l with
  |nil=>rfl
  |cons a l ih=>rw[L9,List.sum_cons,ih,List.flatten_cons,LY];lia
 rw[h3]at h2;unfold mj;lia
theorem uh(nm:Str)(R:List (Int×Int)):LV "row " ++nm++LV " " ++fM R=Str.join (LV " ") [LV "row",nm,fM R]:=by
 rw[←r6,show LV "row " =LV "row" ++LV " " by decide+kernel]
theorem ue:∀ts:List Str,(∀t∈ts,PyData.strOk t=true)->PyData.canLayAll0 (ts.map PyData.str)=true
 |[],_=>by simp[PyData.canLayAll0]
 |t::ts,h=>by
  have:=ue ts fun x hx=>h x (Mh _ hx);have h0:=h t Mg;simp[PyData.canLayAll0,PyData.canLay0,this,h0]
theorem pM:∀ts:List Str,PyData.depthAll (ts.map PyData.str)<=1
 |[]=>by simp[PyData.depthAll]
 |t::ts=>by
  have:=pM ts;simp only[L9,PyData.depthAll,PyData.depth];lia
theorem ub{K:W.Frag}{H:Hp}:∀ts:List Str,DatAll K H (fun _=>True) (ts.map V.str) (ts.map PyData.str)
 |[]=> .nil
 |t::ts=> .cons (.str t) (ub ts)
theorem Io(ts:List Str):PyData.eqv (.list (ts.map PyData.str)) (.list [])=decide (ts=[]):=by
 cases ts with
 |nil=>unfold PyData.eqv;rfl
 |cons a r=>unfold PyData.eqv;rfl
theorem Iy{K:W.Frag}{H:Hp}{t u:MB}{ts:List Str}{Q:VK}(h1:H t=some (.lst (ts.map V.str)))(h2:H u=some (.lst []))(ok:∀t∈ts,PyData.strOk t=true)(q:Q (.bl (decide (ts=[]))) H):GI K (.ref t) (.ref u) H Q:=by
 refine⟨fun _=>True,.list (ts.map PyData.str),.list [],.lst (aG.of h1) True.intro (ub ts),.lst (aG.of h2) True.intro .nil,?_,rfl,?_,?_⟩
 .unfold PyData.canLay0;exact ue ts ok
 .unfold PyData.depth;have:=pM ts;lia
 .rw[Io];exact q
def gL(wd y0 y1 y2:Str)(kk:Int):List Str:=if wd=LV "copy"then [y0,y1]else if wd=LV "join"then [y0,y1,y2]else if wd=LV "drop"then [y0]else [y0,aM kk]
def iV(wd y0 y1 y2:Str):List Str:=if wd=LV "copy"then [y1]else if wd=LV "join"then [y1,y2]else [y0]
def KZ(wd:Str):Prop:=wd=LV "copy"\/wd=LV "join"\/wd=LV "forth"\/wd=LV "back"\/wd=LV "drop"
theorem BX{cl:eX}{n:Int}{m:Kept}{wd y0 y1 y2:Str}{kk:Int}(w5:KZ wd)(k0:isNm y0)(k1:isNm y1)(k2:isNm y2)(kk0:0<=kk)(kk9:kk<10^9)(h:∃z∈iV wd y0 y1 y2,rowOf m z=none):
  (t9 cl).out n m (wd::gL wd y0 y1 y2 kk)=some (.jK cl.cH):=by
 obtain⟨z,hz,e⟩:=h;rcases w5 with rfl|rfl|rfl|rfl|rfl
 .have hz:z∈[y1]:=hz
  rw[List.mem_singleton.mp hz]at e;exact(uv rfl rfl rfl k0 k1).1 e
 .have hz:z∈[y1,y2]:=hz
  have e2:rowOf m y1=none\/rowOf m y2=none:=by
   rcases List.mem_cons.mp hz with h|h
   .rw[←h];exact .inl e
   .rw[←List.mem_singleton.mp h];exact .inr e
  exact(pf rfl rfl rfl k0 k1 k2).1 e2
 .have hz:z∈[y0]:=hz
  rw[List.mem_singleton.mp hz]at e;exact rE (f:=true) rfl rfl k0 kk0 kk9 e
 .have hz:z∈[y0]:=hz
  rw[List.mem_singleton.mp hz]at e;exact rE (f:=false) rfl rfl k0 kk0 kk9 e
 .have hz:z∈[y0]:=hz
  rw[List.mem_singleton.mp hz]at e;exact(uO rfl k0).1 e
def pK:List Str:=["row","row","row","star","home","copy","join","forth","back","drop"]
structure IJ(P:MD)(w:ME)(K:W.Frag)(mg:Str->Option MA)(base:MN):Prop extends T1 mg K where
 eQ:mg "str" =none
 ay:FnAt P w K mg base "_law_take" 1 ["_law_purse_here","_law_many"] jD
 ou:FnAt P w K mg base "_law_row" 2 ["_law_purse_here","_law_n","_law_most"] BD
 kT:FnAt P w K mg base "_law_order" 3 ["_law_purse_here","_law_n"] ym
 mX:FnAt P w K mg base "_law_star" 3 ["_law_order_here"] xF
 nj:FnAt P w K mg base "_law_home" 3 ["_law_order_here"] Fd
 bC:FnAt P w K mg base "_law_row_word" 1 ["_law_row_here"] vP
 gK:FnAt P w K mg base "_law_order_word" 2 ["_law_order_here"] CI
 oG:FnAt P w K mg base "_law_due" 3 ["_law_word","_law_told","_law_kept","_law_k"] Bc
section
variable{P:MD}{w:ME}{K:W.Frag}{mg:Str->Option MA}{base:MN}{cl:eX}
theorem bA:aF ["_law_purse_here","_law_n","_law_names_here","_law_kept","_law_word","_law_told","_law_k","_law_said","_law_wanted","_law_due_here","_law_row_here","_law_order_here"] ["_law_purse_here","_law_n","_law_names_here","_law_kept"] (au (top 129)):=⟨rfl,rfl,rfl,by decide+kernel,rfl,by decide+kernel,by decide+kernel⟩
theorem Gi{f:MB}{fd:MM}(F:dJ K "_law_deed" "_law_deed" (top 129) f fd)(T:IJ P w K mg base):aS P w K mg base fQ 5 f fd ["_law_purse_here","_law_n","_law_names_here","_law_kept"] (Fc cl):=by
 refine F.ok bA (fun vs H Q E h=>?_) (fun cdv A outer s H vs Q E hr h=>?_)
 .obtain⟨G0,p,l,kd,c,n,ws,kvs,m,rfl,_⟩:=h
  rfl
 .obtain⟨G0,p,l,kd,c,n,ws,kvs,m,rfl,g,gp,pu,hc,n1,n2,hl,wl,wn,hk,km,gm,k⟩:=h
  have hu:=iY hr;refine⟨_,(@ag _ _ _ _ _ (@aw _ _ 4 _ _ _ _ bA.nd rfl (Or.inl rfl) (@aO _ _ _ _ _ _ _ (ax (K:=K) rfl) (@bf _ _ _ _ (@jN _ _ [V.str (LV "row"),V.str (LV "row"),V.str (LV "row"),V.str (LV "star"),V.str (LV "home"),V.str (LV "copy"),V.str (LV "join"),V.str (LV "forth"),V.str (LV "back"),V.str (LV "drop")] rfl)) (ak T.ay (hr.mono (by first|decide|lia)) rfl (aa (pv 0) (aa ai af))) (fun _ _=>rfl)) (by rfl) (by first|exact .inl rfl|exact .inr rfl))
   (ag (fu (i:=5) bA.nd rfl rfl (N:=(["_law_k","_law_names_here","_law_purse_here"]:List Str)) (ix:=([none,some 2,some 0]:List (Option Nat))) (aW rfl rfl) rfl (cN rfl T.bL (aa ai af)) (fun _ _ _ _=>(aC (i:=0) (show List.Nodup (["_law_k","_law_names_here","_law_purse_here"]:List Str)from by decide+kernel) rfl (Or.inl rfl))) (fun _ _ _ _=>bg) (fun _ _ _ _=>(aO (ax (K:=K) rfl) (pv 1) (ak T.ay (hr.mono (by first|decide|lia)) rfl (aa (pv 2) (aa ai af))) (fun _ _=>rfl))))
   (ag (aQ (aE bY (pv 4) az (aH _)) (ag (aw (i:=10) bA.nd rfl (Or.inl rfl) (ak T.ou (hr.mono (by first|decide|lia)) rfl (@aa _ _ _ _ _ (pv 0) (@aa _ _ _ _ _ (pv 1) (@aa _ _ _ _ _ (aO (ax (K:=K) rfl) (bf (aa ai (aa ai af))) (aY mH rfl T.ua (by decide+kernel) (aa (lM bY (ak T.ay (hr.mono (by first|decide|lia)) rfl (aa (pv 0) (aa ai af))) ai (aH _)) af)) (fun _ _=>rfl)) af kq) aL) aL)))
   (aj (aA (cp (@aa _ _ _ _ _ (av aI (av aI (av aI az (aO (ax (K:=K) rfl) (pv 5) ai (fun _ _=>rfl))) az) (ak T.bC (hr.mono (by first|decide|lia)) rfl (aa (pv 10) af))) (@aa _ _ _ _ _ (aO (ax (K:=K) rfl) (pv 5) ai (fun _ _=>rfl)) (@aa _ _ _ _ _ (pv 10) af aL) kq) mq))))) aB)
   (ag (aQ (aE (wC (K:=K) rfl) (pv 4) (cp (aa az (aa az af))) rfl) (ag (aw (i:=11) bA.nd rfl (Or.inl rfl) (ak T.kT (hr.mono (by first|decide|lia)) rfl (aa (pv 0) (aa (pv 1) af))))
   (ag (aw (i:=10) bA.nd rfl (Or.inl rfl) (aO (ax (K:=K) rfl) (bf (aa (ak T.mX (hr.mono (by first|decide|lia)) rfl (aa (pv 11) af)) (aa (ak T.nj (hr.mono (by first|decide|lia)) rfl (aa (pv 11) af)) af))) (aY mH rfl T.ua (by decide+kernel) (aa (lM bY (pv 4) az (aH _)) af)) (fun _ _=>rfl)))
   (aj (aA (cp (@aa _ _ _ _ _ (av aI (av aI (av aI (av aI (pv 4) az) (aO (ax (K:=K) rfl) (pv 5) ai (fun _ _=>rfl))) az) (ak T.gK (hr.mono (by first|decide|lia)) rfl (aa (pv 11) af))) (@aa _ _ _ _ _ (aO (ax (K:=K) rfl) (pv 5) ai (fun _ _=>rfl)) (@aa _ _ _ _ _ (pv 10) af aL) kq) mq)))))) aB)
   (ag (aw (i:=6) bA.nd rfl (Or.inl rfl) (ak T.ay (hr.mono (by first|decide|lia)) rfl (aa (pv 0) (aa (av bp (ar (aN (K:=K) rfl) rfl T.bP (by decide+kernel) (aa (fH hu (pv 3) (aO (ax (K:=K) rfl) (pv 5) ai (fun _ _=>rfl)) (bf af) ⟨rfl,rfl,rfl,rfl⟩) af)) ai) af))))
   (ag (aw (i:=7) bA.nd rfl (Or.inl rfl) (fH hu (iS (bQ az (bq (bR (K:=K) rfl) (pv 5) bS (bu ai)) (bQ az (pv 5) (bQ az (bq (bR (K:=K) rfl) (pv 5) bS (bu ai)) iA))) rfl rfl (by simp) (by decide)) (pv 4) (bf (aa (aO (ax (K:=K) rfl) (pv 5) ai (fun _ _=>rfl)) (aa (aY eD rfl T.eQ (by decide+kernel) (aa (pv 6) af)) af))) ⟨rfl,rfl,rfl,rfl⟩))
   (ag (aw (i:=8) bA.nd rfl (Or.inl rfl) (fH hu (iS (bQ az (bq (bR (K:=K) rfl) (pv 5) (bu ai) (bu ai)) (bQ az (bq (bR (K:=K) rfl) (pv 5) (bu ai) bS) iA)) rfl rfl (by simp) (by decide)) (pv 4) (bq (bR (K:=K) rfl) (pv 5) bS (bu ai)) ⟨rfl,rfl,rfl,rfl⟩))
   (ag (aw (i:=9) bA.nd rfl (Or.inl rfl) az)
   (ag (aQ (aE (tf hr.units) (bJ (N:=(["_law_name","_law_kept"]:List Str)) (ix:=([none,some 3]:List (Option Nat))) (aW rfl rfl) rfl (aU (K:=K) rfl (pv 8)) (fun _ _ _ _=>(aC (i:=0) (show List.Nodup (["_law_name","_law_kept"]:List Str)from by decide+kernel) rfl (Or.inl rfl))) (fun _ _ _ _=>(tu (kD (rA hu (pv 0) (pv 1))))) (fun _ _ _ _=>(pv 0))) (bf af) (aH _)) (aj (aw (i:=9) bA.nd rfl (Or.inl rfl) (ak T.oG (hr.mono (by first|decide|lia)) rfl (@aa _ _ _ _ _ (pv 4) (@aa _ _ _ _ _ (pv 5) (@aa _ _ _ _ _ (pv 3) (@aa _ _ _ _ _ (pv 6) af aL) aL) aL) aL)))) aB)
   (aj (aA (cp (@aa _ _ _ _ _ (bD (K:=K) rfl PySem.F.plainAttrs_str PySem.F.slot_str_join PySem.F.type_str_join (gb (K:=K) rfl) az (aa (av dC (bf (aa (pv 4) af)) (pv 7)) af)) (@aa _ _ _ _ _ (aO (ax (K:=K) rfl) (pv 5) ai (fun _ _=>rfl)) (@aa _ _ _ _ _ (pv 9) af aL) kq) cj))))))))))))),?_⟩
  have big:(10000000:Nat)<=MG:=by decide
  refine⟨by show 10<=MG;lia,fun l0 f0=>?_⟩;have s0:ah H (upd H l0 (.lst (pK.map V.str))):=ah.new f0;have q0:upd H l0 (.lst (pK.map V.str)) l0=some (.lst (pK.map V.str)):=ae;have pu0:=pu.keep s0;have n0p:l0≠p:=fun z=>by
   obtain⟨ys,hy⟩:=pu.at;rw[z,hy]at f0;cases f0
  refine⟨_,rfl,p,c,10,rfl,pu0,by lia,by decide,by decide,fun r H2 r0 r1 pu1 x1=>?_⟩;obtain⟨j,rfl⟩:=Int.eq_ofNat_of_zero_le r0;have jl:j<pK.length:=by show j<10;lia
  have hwd:m9 (pK.map V.str) (j:Int)=some (.str pK[j]):=aR (j:=j) (by rw[LX,LZ jl];rfl);refine⟨l0,_,(j:Int),.str pK[j],rfl,rfl,aG.of (x1 _ _ n0p q0),hwd,?_⟩;have wdm:pK[j]∈pK:=List.getElem_mem jl;generalize pK[j]=wd at wdm⊢;have x2:=(s0.x (p:=p)).trans x1;clear hwd s0 q0 pu0 x1 f0 jl r0 r1;refine⟨3,rfl,by decide,by decide,pB (k:=0) (fun i ys σ' H'=>(∃xs:List Str,ys=xs.map V.str/\xs.length=i/\∀x∈xs,isNm x)/\(∃v,σ'=[v,some (.ref l),some (.ref p)])/\br H' p (c+1+i)/\aP p H H') (by decide) ⟨⟨[],rfl,rfl,fun w hw=>absurd hw Mn⟩,⟨none,rfl⟩,pu1,x2⟩ (fun i ys σ' H' ⟨⟨ws,e,l,_⟩,_⟩=>by rw[e,LW];lia) ?_ ?_⟩
  .rintro i ys σ' H' R hi ⟨⟨xs,rfl,xl,xn⟩,⟨v,rfl⟩,pui,xi⟩ done
   have hi:i<3:=hi;refine⟨_,rfl,_,rfl,p,c+1+i,4,rfl,pui,by lia,by decide,by decide,fun r H3 r0 r1 pu3 x3=>?_⟩;obtain⟨j,rfl⟩:=Int.eq_ofNat_of_zero_le r0;have jl:j<ws.length:=by lia
   refine⟨l,_,(j:Int),.str ws[j],rfl,rfl,aG.of ((ah.of g gp (xi.trans x3)) _ _ hl),aR (j:=j) (by rw[LX,LZ jl];rfl),?_⟩;refine done _ _ _ ⟨⟨xs++[ws[j]],by rw[L7];rfl,by rw[LY,xl];rfl,fun x hx=>?_⟩,⟨_,rfl⟩,pu3,xi.trans x3⟩;rcases List.mem_append.mp hx with h|h
   .exact xn x h
   .have:x=ws[j]:=by simpa using h
    rw[this];exact wn _ (List.getElem_mem jl)
  rintro ys σ' H3 l5 ⟨⟨xs,rfl,xl,xn⟩,_,pu3,x3⟩ f5;obtain⟨y0,y1,y2,rfl⟩:∃y0 y1 y2,xs=[y0,y1,y2]:=by
   match xs,xl with
   |[a,b,c],_=>exact⟨a,b,c,rfl⟩
  have k0:=xn y0 (by simp);have k1:=xn y1 (by simp);have k2:=xn y2 (by simp);have q5:upd H3 l5 (.lst ([y0,y1,y2].map V.str)) l5=some (.lst ([y0,y1,y2].map V.str)):=ae;have x5:aP p H (upd H3 l5 (.lst ([y0,y1,y2].map V.str))):=x3.trans (ah.new f5).x;have pu5:br (upd H3 l5 (.lst ([y0,y1,y2].map V.str))) p (c+4):=pu3.keep (ah.new f5);have n5p:l5≠p:=fun z=>by
   obtain⟨ys,hy⟩:=pu3.at;rw[z,hy]at f5;cases f5
  generalize upd H3 l5 (.lst ([y0,y1,y2].map V.str))=H5 at q5 x5 pu5⊢;clear x3 pu3 f5 x2 pu1 xn xl;have g5:=ah.of g gp x5;have fin:∀(G:Hp)(t:MB)(tx nm:Str)(v:V)(o:Out),G t=none->ah G0 G->tx.length<=990->isNm nm->(t9 cl).out n m (Txt.split tx (LV " "))=some o->pk cl G n v nm o->Q (.ref t) (upd G t (.tup [.str tx,.str nm,v])):=fun G t tx nm v o ht sG tl nn ho hd=>
   k t _ ⟨tx,nm,v,o,ae,tl,nn,ho,hd.same (ah.new ht)⟩ (sG.trans (ah.new ht))
  have sp1:(LV " ").length=1:=by decide+kernel
  have rw4:(LV "row ").length=4:=by decide+kernel
  have e0:=k0.2.1;have no0:=mU k0;by_cases cr:wd=LV "row"
  .subst cr
   refine⟨_,rfl,rfl,_,rfl,ki (by decide) ?_⟩;refine⟨_,rfl,_,rfl,by show 2<=MG;lia,fun l6 f6=>?_⟩;have q6:upd H5 l6 (.lst [V.int 6,V.int 60]) l6=some (.lst [V.int 6,V.int 60]):=ae;have n6p:l6≠p:=fun z=>by
    obtain⟨ys,hy⟩:=pu5.at;rw[z,hy]at f6;cases f6
   have pu6:br (upd H5 l6 (.lst [V.int 6,V.int 60])) p (c+4):=pu5.keep (ah.new f6);have g6:=g5.trans (ah.new (o:= .lst [V.int 6,V.int 60]) f6);have q56:=ah.new (o:= .lst [V.int 6,V.int 60]) f6 _ _ q5;generalize upd H5 l6 (.lst [V.int 6,V.int 60])=H6 at q6 pu6 g6 q56⊢;refine⟨_,rfl,p,c+4,8,rfl,pu6,by lia,by decide,by decide,fun t H7 t0 t1 pu7 x7=>⟨rfl,.inr ⟨_,rfl,?_⟩⟩⟩;have q57:=x7 _ _ n5p q56;obtain⟨mm,hmm,m6⟩:∃mm:Int,m9 [V.int 6,V.int 60] (if decide (V.int t=V.int 5)=true then 1 else 0)=some (.int mm)/\0<=mm/\mm<=60:=by
    split
    .exact⟨60,rfl,by lia,by lia⟩
    .exact⟨6,rfl,by lia,by lia⟩
   refine⟨l6,_,_,.int mm,rfl,rfl,aG.of (x7 _ _ n6p q6),hmm,p,c+5,n,mm,rfl,pu7,by lia,n1,by lia,m6.1,by lia,fun lr es R H8 fr hr xe gr lR pu8 x8=>?_⟩;have smx:JY R:=fun e he=>by have:=gr e he;lia
   have rl:=vI smx;have g8:=ah.of (ah.of g6 gp x7) gp x8;have q58:=x8 _ _ n5p q57;refine⟨_,rfl,l5,_,0,_,rfl,rfl,aG.of q58,aR (j:=0) rfl,_,_,rfl,rfl,(by rw[rw4];lia),_,_,rfl,rfl,(by rw[Str.length_append];lia),_,rfl,lr,es,R,rfl,hr,xe,by lia,smx,fun H9 s9=>⟨_,_,rfl,rfl,(by rw[Str.length_append,Str.length_append];lia),_,rfl,l5,_,0,_,rfl,rfl,aG.of (s9 _ _ q58),aR (j:=0) rfl,_,rfl,by show 3<=MG;lia,fun tt ft=>?_⟩⟩;refine fin H9 tt _ y0 (.ref lr) (.put y0 R) ft (g8.trans s9) (by rw[Str.length_append,Str.length_append,Str.length_append];lia) k0 ?_ ⟨rfl,⟨lr,es,rfl,s9 _ _ hr,xe.keep (fun b xs hb=>s9 _ _ hb)⟩,gr,by lia⟩;rw[uh,dX (by simp) fun t ht=>?_]
   .exact yj rfl rfl rfl k0 n2 gr (by lia)
   .simp only[Mb,Mn,or_false]at ht
    rcases ht with rfl|rfl|rfl
    .decide+kernel
    .exact no0
    .exact yS fun e he=>by have:=gr e he;lia
  refine⟨_,rfl,rfl,_,rfl,bZ (by simpa using cr) ?_⟩;refine⟨_,rfl,by show 2<=MG;lia,fun t6 f6=>?_⟩;have q6:upd H5 t6 (.tup [V.str (LV "star"),V.str (LV "home")]) t6=some (.tup [V.str (LV "star"),V.str (LV "home")]):=ae;have g6:=g5.trans (ah.new (o:= .tup [V.str (LV "star"),V.str (LV "home")]) f6);have pu6:br (upd H5 t6 (.tup [V.str (LV "star"),V.str (LV "home")])) p (c+4):=pu5.keep (ah.new f6);have q56:=ah.new (o:= .tup [V.str (LV "star"),V.str (LV "home")]) f6 _ _ q5;refine⟨t6,[LV "star",LV "home"].map V.str,rfl,.inr (dH.of q6),rfl,rfl,_,rfl,?_⟩;show ite (BI (.str wd) ([LV "star",LV "home"].map V.str)=true) _ _;rw[C4];generalize upd H5 t6 (.tup [V.str (LV "star"),V.str (LV "home")])=H6 at q6 g6 pu6 q56⊢;by_cases cs:wd∈[LV "star",LV "home"]
  .refine ki (decide_eq_true cs) ?_
   have wl5:wd.length<=5/\32∉signs wd:=by
    simp only[Mb,Mn,or_false]at cs;rcases cs with rfl|rfl<;>exact⟨by decide+kernel,by decide+kernel⟩
   refine⟨_,rfl,_,rfl,p,c+4,n,rfl,pu6,by lia,n1,by lia,fun to_ xs H7 fo ho oo pu7 x7=>?_⟩;have g7:=ah.of g6 gp x7;have q57:=x7 _ _ n5p q56;refine⟨_,rfl,to_,n,xs,rfl,ho,oo,by lia,fun ls es H8 fs hs xs8 s8=>⟨_,rfl,to_,n,xs,rfl,s8 _ _ ho,oo,n1,n2,fun lh eh H9 fh hh xh s9=>⟨by show 2<=MG;lia,fun l10 f10=>?_⟩⟩⟩;have q10:upd H9 l10 (.lst [V.ref ls,V.ref lh]) l10=some (.lst [V.ref ls,V.ref lh]):=ae;have s10:=ah.new (o:= .lst [V.ref ls,V.ref lh]) f10;generalize upd H9 l10 (.lst [V.ref ls,V.ref lh])=H10 at q10 s10⊢;have s710:=(s8.trans s9).trans s10;have sc:(jh n xs).length<=60:=by have:=AK oo (by lia);lia
   have hc':(ja xs).length<=60:=by have:=zB (by lia) oo;lia
   obtain⟨lx,ex,R,hat,hx10,xe10,gR,lR,hout⟩:∃(lx:MB)(ex:List V)(R:List (Int×Int)),m9 [V.ref ls,V.ref lh] (if decide (V.str wd=V.str (LV "home"))=true then 1 else 0)=some (.ref lx)/\H10 lx=some (.lst ex)/\cP H10 ex R/\Good n R/\R.length<=60/\(t9 cl).out n m [wd,y0,mj (aX n xs)]=some (.put y0 R):=by
    simp only[Mb,Mn,or_false]at cs;rcases cs with rfl|rfl
    .exact⟨ls,es,_,by rw[if_neg (by decide+kernel)];rfl,s10 _ _ (s9 _ _ hs),(xs8.keep (fun b xs hb=>s9 _ _ hb)).keep (fun b xs hb=>s10 _ _ hb),An oo,sc,BG rfl rfl rfl k0 oo n1 n2⟩
    .exact⟨lh,eh,_,by rw[if_pos (by decide+kernel)];rfl,s10 _ _ hh,xh.keep (fun b xs hb=>s10 _ _ hb),(xX (by lia) oo).good (Int.le_refl _),hc',BU rfl rfl rfl k0 oo n1 n2⟩
   refine⟨_,rfl,rfl,.inr ⟨_,rfl,l10,_,_,.ref lx,rfl,rfl,aG.of q10,hat,?_⟩⟩;have q510:=s710 _ _ q57;have ol:=xA oo n1 n2;refine⟨_,rfl,_,_,rfl,rfl,by lia,_,rfl,l5,_,0,_,rfl,rfl,aG.of q510,aR (j:=0) rfl,_,_,rfl,rfl,(by rw[Str.length_append];lia),_,_,rfl,rfl,(by rw[Str.length_append,Str.length_append];lia),_,rfl,to_,n,xs,rfl,s710 _ _ ho,oo,n1,n2,fun H11 s11=>⟨_,_,rfl,rfl,(by rw[Str.length_append,Str.length_append,Str.length_append];lia),_,rfl,l5,_,0,_,rfl,rfl,aG.of (s11 _ _ q510),aR (j:=0) rfl,_,rfl,by show 3<=MG;lia,fun tt ft=>?_⟩⟩;refine fin H11 tt _ y0 (.ref lx) (.put y0 R) ft ((g7.trans s710).trans s11) (by rw[Str.length_append,Str.length_append,Str.length_append,Str.length_append];lia) k0 ?_ ⟨rfl,⟨lx,ex,rfl,s11 _ _ hx10,xe10.keep (fun b xs hb=>s11 _ _ hb)⟩,gR,lR⟩;rw[r6,dX (by simp) fun t ht=>?_]
   .exact hout
   .simp only[Mb,Mn,or_false]at ht
    rcases ht with rfl|rfl|rfl
    .exact wl5.2
    .exact no0
    .exact En fun r hr x hx=>by have:=(qQ oo n1 n2).2.2.1 r hr x hx;lia
  refine bZ (by simpa using cs) ?_;have w5:KZ wd:=by
   unfold KZ;simp only[pK,Mb,Mn,or_false]at wdm;rcases wdm with rfl|rfl|rfl|rfl|rfl|rfl|rfl|rfl|rfl|rfl
   .exact absurd rfl cr
   .exact absurd rfl cr
   .exact absurd rfl cr
   .exact absurd (by simp) cs
   .exact absurd (by simp) cs
   .exact .inl rfl
   .exact .inr (.inl rfl)
   .exact .inr (.inr (.inl rfl))
   .exact .inr (.inr (.inr (.inl rfl)))
   .exact .inr (.inr (.inr (.inr rfl)))
  clear wdm cr cs q6;refine⟨_,rfl,_,rfl,kd,rfl,.inl ⟨kvs,.inl (g6 _ _ hk)⟩,_,rfl,l5,_,0,_,rfl,rfl,aG.of q56,aR (j:=0) rfl,Mw _,fun le fe=>?_⟩;have g7:=g6.trans (ah.new (o:= .lst []) fe);have qe:upd H6 le (.lst []) le=some (.lst []):=ae;have q57:=ah.new (o:= .lst []) fe _ _ q56;have pu7:br (upd H6 le (.lst [])) p (c+4):=pu6.keep (ah.new fe);generalize upd H6 le (.lst [])=H7 at g7 qe q57 pu7⊢;have hk7:=g7 _ _ hk;have km7:=km.same g7;obtain⟨o,b,ys,ho,hb,hy,hyl⟩:∃(o:Option V)(b:MB)(ys:List V),cK H7 kd (kV (.inr y0)) o/\o.getD (.ref le)= .ref b/\aG K H7 b ys/\ys.length<=60:=by
   rcases km7.get y0 with⟨e1,e2⟩|⟨R,v,e1,e2,lr,es,rfl,hl',xe⟩
   .exact⟨none,le,[],by rw[←e2];exact cK.k hk7,rfl,aG.of qe,by simp⟩
   .exact⟨some (.ref lr),lr,es,by rw[←e2];exact cK.k hk7,rfl,aG.of hl',by have:=xe.length;have:=(gm _ (bO e1)).2.1;dsimp only at this;lia⟩
  refine⟨o,ho,b,ys,by rw[hb],.inl hy,_,_,rfl,rfl,p,c+4,_,rfl,pu7,by lia,by lia,by lia,fun kk H8 kk0 kk1 pu8 x8=>?_⟩;have g8:=ah.of g7 gp x8;have q58:=x8 _ _ n5p q57;have kk9:kk<10^9:=by lia
  clear ho hb hy kk1 x8 pu8 pu7 g7 q57 hk7 km7 qe g6 q56 pu6 pu5 q5 g5;refine fun pd fd=>⟨_,rfl,2,rfl,l5,_,rfl,aG.of (ah.new fd _ _ q58),fun la fa=>⟨_,rfl,_,rfl,1,rfl,l5,_,rfl,aG.of (ah.new fa _ _ (ah.new fd _ _ q58)),fun lb fb=>?_⟩⟩;have A1:upd H8 pd (.dK []) pd=some (.dK []):=ae;have A2:=ah.new (o:= .lst (dw ([y0,y1,y2].map V.str) none (some 2))) fa;have A3:=ah.new (o:= .lst (dw ([y0,y1,y2].map V.str) none (some 1))) fb;have B1:=A3 _ _ (A2 _ _ A1);have B2:=A3 _ _ (show upd (upd H8 pd (.dK [])) la (.lst (dw ([y0,y1,y2].map V.str) none (some 2))) la=some (.lst ([y0,y1].map V.str))from ae);have B3:upd (upd (upd H8 pd (.dK [])) la (.lst (dw ([y0,y1,y2].map V.str) none (some 2)))) lb (.lst (dw ([y0,y1,y2].map V.str) none (some 1))) lb=some (.lst ([y0].map V.str)):=ae;have B0:=((ah.new (o:= .dK []) fd).trans A2).trans A3;generalize upd (upd (upd H8 pd (.dK [])) la (.lst (dw ([y0,y1,y2].map V.str) none (some 2)))) lb (.lst (dw ([y0,y1,y2].map V.str) none (some 1)))=H9 at B0 B1 B2 B3⊢;refine⟨B1,[(.inr (LV "copy"),.ref la),(.inr (LV "join"),.ref l5),(.inr (LV "drop"),.ref lb)],rfl,by show 3<=15;decide,?_⟩;rw[show dB [] [((.inr (LV "copy"):Key),V.ref la),(.inr (LV "join"),V.ref l5),(.inr (LV "drop"),V.ref lb)]=[(.inr (LV "copy"),.ref la),(.inr (LV "join"),.ref l5),(.inr (LV "drop"),.ref lb)] by kernel_rfl];have offd:∀{b:MB}{u:HO}{xs:List V},H9 b=some (.lst xs)->upd H9 pd u b=some (.lst xs):=fun{b u xs} e=>by
   rw[ao (fun z=>by rw[z,B1]at e;cases e)];exact e
  have C0:ah H8 (upd H9 pd (.dK [(.inr (LV "copy"),.ref la),(.inr (LV "join"),.ref l5),(.inr (LV "drop"),.ref lb)])):=fun b o e=>by
   have ne:b≠pd:=fun z=>by rw[z,fd]at e;cases e
   rw[ao ne];exact B0 _ _ e
  have C1:upd H9 pd (.dK [(.inr (LV "copy"),.ref la),(.inr (LV "join"),.ref l5),(.inr (LV "drop"),.ref lb)]) pd=some (.dK [(.inr (LV "copy"),.ref la),(.inr (LV "join"),.ref l5),(.inr (LV "drop"),.ref lb)]):=ae;have C2:=offd (u:= .dK [(.inr (LV "copy"),.ref la),(.inr (LV "join"),.ref l5),(.inr (LV "drop"),.ref lb)]) B2;have C3:=offd (u:= .dK [(.inr (LV "copy"),.ref la),(.inr (LV "join"),.ref l5),(.inr (LV "drop"),.ref lb)]) B3;generalize upd H9 pd (.dK [(.inr (LV "copy"),.ref la),(.inr (LV "join"),.ref l5),(.inr (LV "drop"),.ref lb)])=H10 at C0 C1 C2 C3⊢;clear B0 B1 B2 B3 offd A1 A2 A3;have q510:=C0 _ _ q58;refine⟨pd,rfl,.inl ⟨_,.inl C1⟩,_,rfl,_,rfl,l5,_,0,_,rfl,rfl,aG.of q510,aR (j:=0) rfl,_,rfl,kk,rfl,eT (by lia) (by lia),by show 2<=MG;lia,fun lc fc=>?_⟩;have D0:=C0.trans (ah.new (o:= .lst [V.str y0,V.str (LV (toString kk))]) fc);have DS:=ah.new (o:= .lst [V.str y0,V.str (LV (toString kk))]) fc;have D4:upd H10 lc (.lst [V.str y0,V.str (LV (toString kk))]) lc=some (.lst ([y0,aM kk].map V.str)):=ae;have D1:=DS _ _ C1;have D2:=DS _ _ C2;have D3:=DS _ _ C3;have D5:=DS _ _ q510;refine⟨_,cK.k (k:= .inr wd) D1,?_⟩;obtain⟨ls,hls,als⟩:∃ls,(bV ([(.inr (LV "copy"),.ref la),(.inr (LV "join"),.ref l5),(.inr (LV "drop"),.ref lb)]:List (Key×V)) (.inr wd:Key)).getD (.ref lc)= .ref ls/\upd H10 lc (.lst [V.str y0,V.str (LV (toString kk))]) ls=some (.lst ((gL wd y0 y1 y2 kk).map V.str)):=by
   rcases w5 with rfl|rfl|rfl|rfl|rfl
   .exact⟨la,by kernel_rfl,D2⟩
   .exact⟨l5,by kernel_rfl,D5⟩
   .exact⟨lc,by kernel_rfl,D4⟩
   .exact⟨lc,by kernel_rfl,D4⟩
   .exact⟨lb,by kernel_rfl,D3⟩
  rw[hls];generalize upd H10 lc (.lst [V.str y0,V.str (LV (toString kk))])=H11 at D0 als⊢;clear D1 D2 D3 D4 D5 DS hls C0 C1 C2 C3 q510 fa fb fc fd;have q511:=D0 _ _ q58;have g11:=g8.trans D0;clear D0 q58 g8;refine fun pe fpe=>⟨_,rfl,1,rfl,2,rfl,l5,_,rfl,aG.of (ah.new fpe _ _ q511),fun lg fg=>⟨_,rfl,1,rfl,l5,_,rfl,aG.of (ah.new fg _ _ (ah.new fpe _ _ q511)),fun lh fh=>?_⟩⟩;have A1:upd H11 pe (.dK []) pe=some (.dK []):=ae;have A2:=ah.new (o:= .lst (dw ([y0,y1,y2].map V.str) (some 1) (some 2))) fg;have A3:=ah.new (o:= .lst (dw ([y0,y1,y2].map V.str) (some 1) none)) fh;have B1:=A3 _ _ (A2 _ _ A1);have B2:=A3 _ _ (show upd (upd H11 pe (.dK [])) lg (.lst (dw ([y0,y1,y2].map V.str) (some 1) (some 2))) lg=some (.lst ([y1].map V.str))from ae);have B3:upd (upd (upd H11 pe (.dK [])) lg (.lst (dw ([y0,y1,y2].map V.str) (some 1) (some 2)))) lh (.lst (dw ([y0,y1,y2].map V.str) (some 1) none)) lh=some (.lst ([y1,y2].map V.str)):=ae;have B0:=((ah.new (o:= .dK []) fpe).trans A2).trans A3;generalize upd (upd (upd H11 pe (.dK [])) lg (.lst (dw ([y0,y1,y2].map V.str) (some 1) (some 2)))) lh (.lst (dw ([y0,y1,y2].map V.str) (some 1) none))=H12 at B0 B1 B2 B3⊢;refine⟨B1,[(.inr (LV "copy"),.ref lg),(.inr (LV "join"),.ref lh)],rfl,by show 2<=15;decide,?_⟩;rw[show dB [] ([(.inr (LV "copy"),.ref lg),(.inr (LV "join"),.ref lh)]:List (Key×V))=[(.inr (LV "copy"),.ref lg),(.inr (LV "join"),.ref lh)] by kernel_rfl];have offd:∀{b:MB}{u:HO}{xs:List V},H12 b=some (.lst xs)->upd H12 pe u b=some (.lst xs):=fun{b u xs} e=>by
   rw[ao (fun z=>by rw[z,B1]at e;cases e)];exact e
  have C0:ah H11 (upd H12 pe (.dK [(.inr (LV "copy"),.ref lg),(.inr (LV "join"),.ref lh)])):=fun b o e=>by
   have ne:b≠pe:=fun z=>by rw[z,fpe]at e;cases e
   rw[ao ne];exact B0 _ _ e
  have C1:upd H12 pe (.dK [(.inr (LV "copy"),.ref lg),(.inr (LV "join"),.ref lh)]) pe=some (.dK [(.inr (LV "copy"),.ref lg),(.inr (LV "join"),.ref lh)]):=ae;have C2:=offd (u:= .dK [(.inr (LV "copy"),.ref lg),(.inr (LV "join"),.ref lh)]) B2;have C3:=offd (u:= .dK [(.inr (LV "copy"),.ref lg),(.inr (LV "join"),.ref lh)]) B3;generalize upd H12 pe (.dK [(.inr (LV "copy"),.ref lg),(.inr (LV "join"),.ref lh)])=H13 at C0 C1 C2 C3⊢;clear B0 B1 B2 B3 offd A1 A2 A3;have q513:=C0 _ _ q511;refine⟨pe,rfl,.inl ⟨_,.inl C1⟩,_,rfl,_,rfl,1,rfl,l5,_,rfl,aG.of q513,fun li fi=>?_⟩;have DS:=ah.new (o:= .lst (dw ([y0,y1,y2].map V.str) none (some 1))) fi;have D0:=C0.trans DS;have D4:upd H13 li (.lst (dw ([y0,y1,y2].map V.str) none (some 1))) li=some (.lst ([y0].map V.str)):=ae;have D1:=DS _ _ C1;have D2:=DS _ _ C2;have D3:=DS _ _ C3;refine⟨_,cK.k (k:= .inr wd) D1,?_⟩;obtain⟨lw,hlw,alw⟩:∃lw,(bV ([(.inr (LV "copy"),.ref lg),(.inr (LV "join"),.ref lh)]:List (Key×V)) (.inr wd:Key)).getD (.ref li)= .ref lw/\upd H13 li (.lst (dw ([y0,y1,y2].map V.str) none (some 1))) lw=some (.lst ((iV wd y0 y1 y2).map V.str)):=by
   rcases w5 with rfl|rfl|rfl|rfl|rfl
   .exact⟨lg,by kernel_rfl,D2⟩
   .exact⟨lh,by kernel_rfl,D3⟩
   .exact⟨li,by kernel_rfl,D4⟩
   .exact⟨li,by kernel_rfl,D4⟩
   .exact⟨li,by kernel_rfl,D4⟩
  rw[hlw];generalize upd H13 li (.lst (dw ([y0,y1,y2].map V.str) none (some 1)))=H14 at D0 alw⊢;clear D1 D2 D3 D4 DS hlw C0 C1 C2 C3 q513 fg fh fi fpe;have q514:=D0 _ _ q511;have g14:=g11.trans D0;have als14:=D0 _ _ als;clear D0 q511 g11 als;refine J0 ?_;dsimp only;refine iN (t:=uQ _ _) (fun σ' H'=>σ'=([some (.ref p),some (.int n),some (.ref l),some (.ref kd),some (.str wd),some (.ref l5),some (.int kk),some (.ref ls),some (.ref lw),some (.str (LV "!NoName")),none,none]:St)/\H'=H14) (fun D' hD=>hD _ _ ⟨rfl,rfl⟩) ?_;rintro σ' H' ⟨rfl,e14⟩;rw[e14];clear e14;have hk14:=g14 _ _ hk;have km14:=km.same g14;have okn:∀{z:Str},isNm z->PyData.strOk z=true:=fun{z} h=>by
   unfold PyData.strOk;rw[Array.all_eq_true_iff_forall_mem];intro c hc;have:=h.2.2 c (by simpa [signs]using hc);simp only[Bool.and_eq_true,Bool.or_eq_true,decide_eq_true_eq];lia
  have wnm:∀z∈iV wd y0 y1 y2,isNm z:=fun z hz=>by
   unfold iV at hz
   split at hz
   .rw[List.mem_singleton.mp hz];exact k1
   .split at hz
    .simp only[Mb,Mn,or_false]at hz
     rcases hz with rfl|rfl
     .exact k1
     .exact k2
    .rw[List.mem_singleton.mp hz];exact k0
  have wlen:(iV wd y0 y1 y2).length<=2:=by
   unfold iV
   split
   .simp
   .split<;>simp
  refine iN (t:=vb _ _ _) (fun σ' H'=>∃(v:V)(o:Out),σ'=[some (.ref p),some (.int n),some (.ref l),some (.ref kd),some (.str wd),some (.ref l5),some (.int kk),some (.ref ls),some (.ref lw),some v,none,none]/\ah H14 H'/\(t9 cl).out n m (wd::gL wd y0 y1 y2 kk)=some o/\pk cl H' n v y0 o) (fun D' hD=>?_) ?_
  .refine⟨_,rfl,lw,rfl,⟨_,aG.of alw⟩,sD (K:=K) (a:=lw) (xs:=(iV wd y0 y1 y2).map V.str) (k:=0) (fun i zs σ' H'=>(∃v0,σ'=[v0,some (.ref kd)])/\ah H14 H'/\∃ts:List Str,zs=ts.map V.str/\ts.length<=i/\(∀t∈ts,isNm t)/\(ts=[]↔¬∃z∈(iV wd y0 y1 y2).take i,rowOf m z=none)) (by rw[LW];lia) ⟨⟨none,rfl⟩,ah.refl _,[],rfl,Mw _,fun t h=>absurd h Mn,by simp⟩ (fun i zs σ' H' _ ⟨_,sm,_⟩=>aG.of (sm _ _ alw)) (fun i zs σ' H' ⟨_,_,ts,e,tl,_⟩=>by rw[e,LW];exact tl) ?_ ?_⟩
   .rintro i zs σ' H' x R hx ⟨⟨v0,rfl⟩,sm,ts,rfl,tl,tn,ti⟩ done
    obtain⟨z,hz,rfl⟩:=ie hx;have tk:(iV wd y0 y1 y2).take (i+1)=(iV wd y0 y1 y2).take i++[z]:=by rw[Mq,hz];rfl
    have zn:=wnm z (Mf hz);rcases(km14.same sm).get z with⟨e1,e2⟩|⟨Rj,vj,e1,e2,_⟩
    .refine⟨_,rfl,_,rfl,kd,_,rfl,cK.k (k:= .inr z) (sm _ _ hk14),_,rfl,?_⟩
     rw[e2];refine⟨_,rfl,?_⟩;refine done _ (ts.map V.str++[V.str z]) H' ⟨⟨_,rfl⟩,sm,ts++[z],by rw[L7];rfl,by rw[LY];show _+1<=_;lia,fun t ht=>?_,?_⟩
     .rcases List.mem_append.mp ht with h|h
      .exact tn t h
      .have:t=z:=by simpa using h
       rw[this];exact zn
     .rw[tk]
      exact⟨fun q=>by simp at q,fun q=>absurd ⟨z,by simp,e1⟩ q⟩
    .refine⟨_,rfl,_,rfl,kd,_,rfl,cK.k (k:= .inr z) (sm _ _ hk14),_,rfl,?_⟩
     rw[e2];refine done _ (ts.map V.str) H' ⟨⟨_,rfl⟩,sm,ts,rfl,by lia,tn,?_⟩;rw[ti,tk];constructor
     .rintro q ⟨y,hy,hq⟩
      rcases List.mem_append.mp hy with h|h
      .exact q ⟨y,h,hq⟩
      .have:y=z:=by simpa using h
       rw[this,e1]at hq;cases hq
     .rintro q ⟨y,hy,hq⟩
      exact q ⟨y,Ml _ hy,hq⟩
   .rintro zs σ' H' lq ⟨_,sm,ts,rfl,tl,tn,ti⟩ fq
    rw[Mi (by rw[LW];exact Ms _)]at ti;have s1:ah H14 (upd H' lq (.lst (ts.map V.str))):=sm.trans (ah.new fq);have q1:upd H' lq (.lst (ts.map V.str)) lq=some (.lst (ts.map V.str)):=ae;generalize upd H' lq (.lst (ts.map V.str))=H15 at s1 q1⊢;refine⟨Mw _,fun lr fr=>?_⟩;have q2:=ah.new (o:= .lst []) fr _ _ q1;have s2:ah H14 (upd H15 lr (.lst [])):=s1.trans (ah.new fr);refine Iy q2 ae (fun t ht=>okn (tn t ht)) ?_;generalize upd H15 lr (.lst [])=H16 at s2⊢;refine⟨_,rfl,?_⟩;by_cases ce:ts=[]
    .refine ki (by simp[ce]) ?_
     have all:∀z∈iV wd y0 y1 y2,∃R,rowOf m z=some R:=fun z hz=>by
      cases e:rowOf m z with
      |none=>exact absurd ⟨z,hz,e⟩ (ti.mp ce)
      |some R=>exact⟨R,rfl⟩
     refine⟨_,rfl,_,rfl,_,rfl,_,rfl,kd,l5,kvs,m,n,kk,wd,y0,y1,y2,rfl,n1,n2,gm,s2 _ _ hk14,km14.same s2,s2 _ _ q514,?_⟩;have r3:LV "!NoMove" =xg 3:=by decide+kernel
     have r9:LV "!NoBound" =xg 9:=by decide+kernel
     rcases w5 with rfl|rfl|rfl|rfl|rfl
     .obtain⟨R,e⟩:=all y1 (by simp[iV])
      have gR:=gm _ (bO e);exact .inl ⟨rfl,R,e,fun v hv=>hD _ _ ⟨v,.put y0 R,rfl,s2,(uv rfl rfl rfl k0 k1).2 R e,rfl,hv,gR.1,gR.2.1⟩⟩
     .obtain⟨R,e⟩:=all y1 (by show y1∈[y1,y2];simp)
      obtain⟨S,f⟩:=all y2 (by show y2∈[y1,y2];simp);have gR:=gm _ (bO e);have gS:=gm _ (bO f);have oo:=(pf (okd:=fun _=>true) (ans:=lJ) (U:=fun _=>true) (CT:=cl.gV) (CN:=cl.cH) (CB:=cl.cg) (CM:=cl.cV) (n:=n) (m:=m) rfl rfl rfl k0 k1 k2).2 R S e f gR.2.1 gS.2.1;refine .inr (.inl ⟨rfl,R,S,e,f,fun big'=>?_,fun small l' es' H' _ hl' xl' s'=>?_⟩)
      .rw[if_pos big']at oo
       exact hD _ _ ⟨_,.jK cl.cg,rfl,s2,oo,9,.inr (.inr ⟨rfl,rfl⟩),by rw[r9]⟩
      .rw[if_neg (by lia)]at oo
       exact hD _ _ ⟨_,.put y0 (R++S),rfl,s2.trans s',oo,rfl,⟨l',es',rfl,hl',xl'⟩,gR.1.append gS.1,by rw[LY];lia⟩
     .obtain⟨R,e⟩:=all y0 (by show y0∈[y0];simp)
      have gR:=gm _ (bO e);have oo:=uD (okd:=fun _=>true) (ans:=lJ) (U:=fun _=>true) (CT:=cl.gV) (CN:=cl.cH) (CB:=cl.cg) (CM:=cl.cV) (n:=n) (m:=m) (f:=true) rfl rfl rfl k0 kk0 kk9 e gR.2.1;refine .inr (.inr (.inl ⟨true,R,rfl,e,fun nc H' s'=>?_,fun c1 c2 l' es' H' _ hl' xl' s'=>?_⟩))
      .rw[if_neg nc]at oo
       exact hD _ _ ⟨_,.jK cl.cV,rfl,s2.trans s',oo,3,.inr (.inl ⟨rfl,rfl⟩),by rw[r3]⟩
      .rw[if_pos ⟨c1,c2⟩]at oo
       exact hD _ _ ⟨_,.put y0 (t7 R (kk-1).toNat true),rfl,s2.trans s',oo,rfl,⟨l',es',rfl,hl',xl'⟩,yD (row:=R) gR.1 (by lia) true,by rw[Cc (row:=R) (by lia)];exact gR.2.1⟩
     .obtain⟨R,e⟩:=all y0 (by show y0∈[y0];simp)
      have gR:=gm _ (bO e);have oo:=uD (okd:=fun _=>true) (ans:=lJ) (U:=fun _=>true) (CT:=cl.gV) (CN:=cl.cH) (CB:=cl.cg) (CM:=cl.cV) (n:=n) (m:=m) (f:=false) rfl rfl rfl k0 kk0 kk9 e gR.2.1;refine .inr (.inr (.inl ⟨false,R,rfl,e,fun nc H' s'=>?_,fun c1 c2 l' es' H' _ hl' xl' s'=>?_⟩))
      .rw[if_neg nc]at oo
       exact hD _ _ ⟨_,.jK cl.cV,rfl,s2.trans s',oo,3,.inr (.inl ⟨rfl,rfl⟩),by rw[r3]⟩
      .rw[if_pos ⟨c1,c2⟩]at oo
       exact hD _ _ ⟨_,.put y0 (t7 R (kk-1).toNat false),rfl,s2.trans s',oo,rfl,⟨l',es',rfl,hl',xl'⟩,yD (row:=R) gR.1 (by lia) false,by rw[Cc (row:=R) (by lia)];exact gR.2.1⟩
     .obtain⟨R,e⟩:=all y0 (by show y0∈[y0];simp)
      exact .inr (.inr (.inr ⟨rfl,fun H' s'=>hD _ _ ⟨_,.del y0,rfl,s2.trans s',(uO rfl k0).2 R e,rfl,rfl⟩⟩))
    .refine bZ (by simp[ce]) ?_
     exact hD _ _ ⟨_,.jK cl.cH,rfl,s2,BX w5 k0 k1 k2 kk0 kk9 (Classical.not_not.mp fun q=>ce (ti.mpr q)),11,.inl ⟨rfl,rfl⟩,by rw[show xg 11=LV "!NoName" by decide+kernel]⟩
  rintro σ' H15 ⟨v,o,rfl,s15,ho,hd⟩;have q515:=s15 _ _ q514;have als15:=s15 _ _ als14;have wlen5:wd.length<=5/\32∉signs wd:=by
   rcases w5 with rfl|rfl|rfl|rfl|rfl<;>exact⟨by decide+kernel,by decide+kernel⟩
  have sln:(gL wd y0 y1 y2 kk).length<=3/\∀z∈gL wd y0 y1 y2 kk,z.length<=60/\32∉signs z:=by
   have a0:y0.length<=60/\32∉signs y0:=⟨by lia,no0⟩;have a1:y1.length<=60/\32∉signs y1:=⟨by have:=k1.2.1;lia,mU k1⟩;have a2:y2.length<=60/\32∉signs y2:=⟨by have:=k2.2.1;lia,mU k2⟩;have a3:(aM kk).length<=60/\32∉signs (aM kk):=⟨Mv (PyProof.Rows.toString_length_le kk0 (by decide) kk9) (by decide),ic kk0 (by lia)⟩;unfold gL
   split
   .exact⟨by simp,by simp[a0,a1]⟩
   .split
    .exact⟨by simp,by simp[a0,a1,a2]⟩
    .split
     .exact⟨by simp,by simp[a0]⟩
     .exact⟨by simp,by simp[a0,a3]⟩
  have jok:∀z∈wd::gL wd y0 y1 y2 kk,z.length<=60/\32∉signs z:=fun z hz=>by
   rcases List.mem_cons.mp hz with rfl|h
   .exact⟨by lia,wlen5.2⟩
   .exact sln.2 z h
  have jl:=StrLaws.join_length_le (LV " ") (wd::gL wd y0 y1 y2 kk);have js:=lD (f:=fun x:Str=>x.length) (g:=fun _=>60) (l:=wd::gL wd y0 y1 y2 kk) fun x hx=>(jok x hx).1;have j60:∀l:List Str,(l.map fun _=>60).sum=60*l.length:=fun l=>by induction l with
   |nil=>rfl
   |cons a l ih=>rw[L9,List.sum_cons,ih,L8];lia
  rw[j60]at js;rw[sp1,L8]at jl;rw[L8]at js;refine⟨rfl,_,rfl,by show 1<=MG;lia,fun lv fv=>?_⟩;have sv:=ah.new (o:= .lst [V.str wd]) fv;have qv:upd H15 lv (.lst [V.str wd]) lv=some (.lst [V.str wd]):=ae;refine⟨_,rfl,lv,ls,_,_,rfl,rfl,qv,sv _ _ als15,by rw[LW];show 1+_<=_;lia,fun lj fj=>?_⟩;have sj:=sv.trans (ah.new (o:= .lst ([V.str wd]++(gL wd y0 y1 y2 kk).map V.str)) fj);have qj:upd (upd H15 lv (.lst [V.str wd])) lj (.lst ([V.str wd]++(gL wd y0 y1 y2 kk).map V.str)) lj=some (.lst ((wd::gL wd y0 y1 y2 kk).map V.str)):=ae;generalize upd (upd H15 lv (.lst [V.str wd])) lj (.lst ([V.str wd]++(gL wd y0 y1 y2 kk).map V.str))=H17 at sj qj⊢;refine⟨_,lj,wd::gL wd y0 y1 y2 kk,rfl,rfl,aG.of qj,bK (B:=60) (by decide+kernel) (fun y hy=>(jok y hy).1) (by decide) (by rw[L8];lia),_,rfl,l5,_,0,_,rfl,rfl,aG.of (sj _ _ q515),aR (j:=0) rfl,_,rfl,by show 3<=MG;lia,fun tt ft=>?_⟩;refine fin H17 tt _ y0 v o ft ((g14.trans s15).trans sj) (by lia) k0 ?_ (hd.same sj);rw[dX (by simp) fun t ht=>(jok t ht).2];exact ho
end
end Sw
namespace L2
open PySem PySem.Spec PyProof.Rows
section
variable{X:Cx}{K:W.Frag}
def DR:V->List V->Hp->VK->Prop:=fun x vs H Q=>∃(t:MB)(ts:List Str)(w:Str)(j:Nat),x= .ref t/\vs=[.str w]/\H t=some (.lst (ts.map V.str))/\ts[j]?=some w/\(∀m,m<j->ts[m]?≠some w)/\Q (.int (j:Int)) H
theorem zx:zW X "list.index" DR:=by
 intro pins s σ H x vs v us Q I rx rv h;obtain⟨l,ts,w,j,rfl,rfl,hH,hj,hno,q⟩:=h;cases rx;obtain⟨u,rfl,ru⟩:=rv.one;obtain⟨tk,rfl⟩:=ru;obtain⟨z,its,n,r,hl,e⟩:=I.qk hH;have at_:∀m(hm:m<its.toArray.size),∃(z:Str)(t:Tok),its.toArray[m]= .str z t/\ts[m]?=some z:=fun m hm=>by
  have hm1:m<its.length:=by simpa using hm
  have hm2:m<(ts.map V.str).length:=by have:=r.length;lia
  obtain⟨u,hu',ru⟩:=r.get (LZ hm2);rw[LZ hm1]at hu';have hm3:m<ts.length:=by rw[LW]at hm2;exact hm2
  rw[List.getElem_map]at ru;obtain⟨t,ht⟩:=ru;refine⟨ts[m],t,?_,LZ hm3⟩;rw[List.getElem_toArray,My hu',ht]
 have jl:j<its.length:=by
  have:=r.length;rw[LW]at this;have:=(List.getElem?_eq_some_iff.mp hj).1;lia
 have sz:its.length<=MG:=by lia
 refine call_meets F.slot_list_index ⟨_,e,rfl⟩ F.entry_list_index (F.args_list_index_2 _ _) (MeetsSeq.list_index l its.toArray n (.str w tk) (fun y=>match y with| .str z _=>z.cps.toList==w.cps.toList|_=>false) (fun y hy=>?_) j (by simpa using jl) ?_ ?_ ?_) ⟨e,?_⟩
 .obtain⟨m,hm,rfl⟩:=Array.mem_iff_getElem.mp hy
  obtain⟨z,tk',e1,e2⟩:=at_ m hm
  rw[e1];exact SeqRoads2.EqGives.str z w tk' tk
 .have:MG<2^63-1:=by decide
  lia
 .obtain⟨z,tk',e1,e2⟩:=at_ j (by simpa using jl)
  rw[e1];rw[hj]at e2;cases e2;simp
 .intro m hm lt
  obtain⟨z,tk',e1,e2⟩:=at_ m hm
  rw[e1];have:=hno m lt;rw[e2]at this;exact beq_eq_false_iff_ne.mpr fun z'=>this (by rw[Str.ext' (Array.toList_inj.mp z')])
 .exact⟨.int (j:Int),H,I.tok _,⟨_,rfl⟩,q⟩
end
end L2
namespace Sw
open PySem L2
def nextM(m:Kept):Out->Kept
 | .put x R=>kB m x R
 | .del x=>lS m x
 |_=>m
def qZ(cl:eX)(H:Hp)(n:Int):Kept->List V->Prop
 |_,[]=>True
 |m,x::xs=>∃(t:MB)(tx nm:Str)(v:V)(o:Out),x= .ref t/\H t=some (.tup [.str tx,.str nm,v])/\tx.length<=990/\isNm nm/\(t9 cl).out n m (Txt.split tx (LV " "))=some o/\pk cl H n v nm o/\qZ cl H n (nextM m o) xs
theorem qZ.same {cl:eX}{H H':Hp}{n:Int}(s:ah H H'):∀{m:Kept}{xs:List V},qZ cl H n m xs->qZ cl H' n m xs
 |_,[],_=>True.intro
 |_,_::_,⟨t,tx,nm,v,o,e,h,l,k,q,d,r⟩=>⟨t,tx,nm,v,o,e,s _ _ h,l,k,q,d.same s,qZ.same s r⟩
def Kb(K:W.Frag)(H:Hp)(xs:List V):Prop:=∃ds,DatAll K H (fun _=>True) xs ds/\PyData.canLayAll0 ds=true/\PyData.depthAll ds<=20/\(xs=[]↔ds=[])
def FF(K:W.Frag)(cl:eX):Sp:=fun vs H Q _=>∃(G0:Hp)(p l kd:MB)(c:Nat)(n:Int)(ws:List Str)(kvs:List (Key×V))(m:Kept),vs=[.ref p,.int n,.ref l,.ref kd]/\ah G0 H/\G0 p=none/\br H p c/\c<=80000/\1<=n/\n<=12/\G0 l=some (.lst (ws.map V.str))/\ws.length=4/\ws.Nodup/\(∀w∈ws,isNm w)/\G0 kd=some (.dK kvs)/\bj G0 kvs m/\hZ n m/\
 ∀t xs H' c',H' t=some (.lst xs)->qZ cl H' n m xs->Kb K H' xs->xs.length<=2->br H' p c'->c'<=c+100->ah G0 H'->Q (.ref t) H'
structure Ib(P:MD)(w:ME)(K:W.Frag)(mg:Str->Option MA)(base:MN):Prop extends T1 mg K where
 fV:mg "min" =none
 ay:FnAt P w K mg base "_law_take" 1 ["_law_purse_here","_law_many"] jD
 bC:FnAt P w K mg base "_law_row_word" 1 ["_law_row_here"] vP
theorem HP{z:Str}(h:isNm z):PyData.strOk z=true:=by
 unfold PyData.strOk;rw[Array.all_eq_true_iff_forall_mem];intro c hc;have:=h.2.2 c (by simpa [signs]using hc);simp only[Bool.and_eq_true,Bool.or_eq_true,decide_eq_true_eq];lia
theorem z8(R:List (Int×Int)):PyData.strOk (fM R)=true:=by
 unfold fM
 split
 .exact dN "none"
 .refine vw (dN ",") fun t ht=>?_
  obtain⟨e,_,rfl⟩:=List.mem_map.mp ht;exact dR (dR (yP _) (dN "-")) (yP _)
section
variable{P:MD}{w:ME}{K:W.Frag}{mg:Str->Option MA}{base:MN}{cl:eX}
theorem bF:aF ["_law_purse_here","_law_n","_law_names_here","_law_kept","_law_standing","_law_one","_law_other","_law_many","_law_row_here","_law_goal","_law_due_here","_law_said"] ["_law_purse_here","_law_n","_law_names_here","_law_kept"] (au (top 130)):=⟨rfl,rfl,rfl,by decide+kernel,rfl,by decide+kernel,by decide+kernel⟩
theorem GD{f:MB}{fd:MM}(F:dJ K "_law_full" "_law_full" (top 130) f fd)(T:Ib P w K mg base):aS P w K mg base fQ 3 f fd ["_law_purse_here","_law_n","_law_names_here","_law_kept"] (FF K cl):=by
 refine F.ok bF (fun vs H Q E h=>?_) (fun cdv A outer s H vs Q E hr h=>?_)
 .obtain⟨G0,p,l,kd,c,n,ws,kvs,m,rfl,_⟩:=h
  rfl
 .obtain⟨G0,p,l,kd,c,n,ws,kvs,m,rfl,g,gp,pu,hc,n1,n2,hl,wl,wd,wn,hk,km,gm,k⟩:=h
  have hu:=iY hr;refine⟨_,(ag (fu (i:=4) bF.nd rfl rfl (N:=(["_law_name","_law_kept"]:List Str)) (ix:=([none,some 3]:List (Option Nat))) (aW rfl rfl) rfl (aU (K:=K) rfl (pv 2)) (fun _ _ _ _=>(aC (i:=0) (show List.Nodup (["_law_name","_law_kept"]:List Str)from by decide+kernel) rfl (Or.inl rfl))) (fun _ _ _ _=>(tu (kD (Bq hu (pv 0) (pv 1))))) (fun _ _ _ _=>(pv 0)))
   (ag (aQ (PW.pt (j5 (aE (tf hr.units) (pv 4) (bf af) (aH _)) (j5 (aE rQ (pv 1) ai (aH _)) (jz (aE mV (ak T.ay (hr.mono (by first|decide|lia)) rfl (aa (pv 0) (aa ai af))) ai (aH _)))))) (aj (aA (bf af))) aB)
   (ag (aw (i:=5) bF.nd rfl (Or.inl rfl) (aO (ax (K:=K) rfl) (pv 4) (ak T.ay (hr.mono (by first|decide|lia)) rfl (aa (pv 0) (aa (ar (aN (K:=K) rfl) rfl T.bP (by decide+kernel) (aa (pv 4) af)) af))) (fun _ _=>rfl)))
   (ag (aw (i:=6) bF.nd rfl (Or.inl rfl) (aO (ax (K:=K) rfl) (pv 2) (av dU (av bp (bD (K:=K) rfl PySem.F.plainAttrs_list PySem.F.slot_list_index PySem.F.type_list_index zx (pv 2) (aa (pv 5) af)) ai) ai) (fun _ _=>rfl)))
   (ag (aw (i:=7) bF.nd rfl (Or.inl rfl) (ar (gn rfl) rfl T.fV (by decide+kernel) (aa ai (aa (av cO (av bp ai (ak T.ay (hr.mono (by first|decide|lia)) rfl (aa (pv 0) (aa ai af)))) (ar (aN (K:=K) rfl) rfl T.bP (by decide+kernel) (aa (dS hu (pv 3) (pv 5) (fun _ _=>rfl)) af))) af))))
   (ag (fu (i:=8) bF.nd rfl rfl (N:=(["_law_k","_law_purse_here","_law_n"]:List Str)) (ix:=([none,some 0,some 1]:List (Option Nat))) (aW rfl rfl) rfl (cN rfl T.bL (aa (pv 7) af)) (fun _ _ _ _=>(aC (i:=0) (show List.Nodup (["_law_k","_law_purse_here","_law_n"]:List Str)from by decide+kernel) rfl (Or.inl rfl))) (fun _ _ _ _=>bg) (fun _ _ _ _=>(cp (aa ai (aa (av bp ai (ak T.ay (hr.mono (by first|decide|lia)) rfl (aa (pv 1) (aa (av cO (pv 2) ai) af)))) af)))))
   (ag (aw (i:=9) bF.nd rfl (Or.inl rfl) (aO (ax (K:=K) rfl) (pv 2) (ak T.ay (hr.mono (by first|decide|lia)) rfl (aa (pv 0) (aa ai af))) (fun _ _=>rfl)))
   (ag (aw (i:=10) bF.nd rfl (Or.inl rfl) (av dC (dS hu (pv 3) (pv 5) (fun _ _=>rfl)) (pv 8)))
   (ag (aQ (aE mV (ar (aN (K:=K) rfl) rfl T.bP (by decide+kernel) (aa (pv 10) af)) ai (aH _)) (aj (aw (i:=10) bF.nd rfl (Or.inl rfl) az)) aB)
   (ag (aw (i:=11) bF.nd rfl (Or.inl rfl) (av aI (av aI (av aI (av aI (av aI az (pv 9)) az) (pv 5)) az) (pv 6)))
   (aj (aA (bf (aa (cp (@aa _ _ _ _ _ (av aI (av aI (av aI az (pv 6)) az) (ak T.bC (hr.mono (by first|decide|lia)) rfl (aa (pv 8) af))) (@aa _ _ _ _ _ (pv 6) (@aa _ _ _ _ _ (pv 8) af aL) aL) mq)) (aa (cp (@aa _ _ _ _ _ (pv 11) (@aa _ _ _ _ _ (pv 9) (@aa _ _ _ _ _ (pv 10) af aL) aL) aL)) af))))))))))))))),?_⟩
  have big:(10000000:Nat)<=MG:=by decide
  have hk0:=g _ _ hk;have km0:=km.same g;have hl0:=g _ _ hl;refine⟨_,rfl,l,rfl,⟨_,aG.of hl0⟩,sD (K:=K) (a:=l) (xs:=ws.map V.str) (k:=0) (fun i zs σ' H'=>(∃v0,σ'=[v0,some (.ref kd)])/\ah H H'/\∃ts:List Str,zs=ts.map V.str/\ts.length<=i/\∀t∈ts,t∈ws/\∃R,rowOf m t=some R) (by rw[LW];lia) ⟨⟨none,rfl⟩,ah.refl _,[],rfl,Mw _,fun t h=>absurd h Mn⟩ (fun i zs σ' H' _ ⟨_,sm,_⟩=>aG.of (sm _ _ hl0)) (fun i zs σ' H' ⟨_,_,ts,e,tl,_⟩=>by rw[e,LW];exact tl) ?_ ?_⟩
  .rintro i zs σ' H' x R hx ⟨⟨v0,rfl⟩,sm,ts,rfl,tl,tn⟩ done
   obtain⟨z,hz,rfl⟩:=ie hx;rcases(km0.same sm).get z with⟨e1,e2⟩|⟨Rj,vj,e1,e2,_⟩
   .refine⟨_,rfl,_,rfl,kd,_,rfl,cK.k (k:= .inr z) (sm _ _ hk0),_,rfl,?_⟩
    rw[e2];exact done _ (ts.map V.str) H' ⟨⟨_,rfl⟩,sm,ts,rfl,by lia,tn⟩
   .refine⟨_,rfl,_,rfl,kd,_,rfl,cK.k (k:= .inr z) (sm _ _ hk0),_,rfl,?_⟩
    rw[e2];refine⟨_,rfl,?_⟩;refine done _ (ts.map V.str++[V.str z]) H' ⟨⟨_,rfl⟩,sm,ts++[z],by rw[L7];rfl,by rw[LY];show _+1<=_;lia,fun t ht=>?_⟩;rcases List.mem_append.mp ht with h|h
    .exact tn t h
    .have:t=z:=by simpa using h
     rw[this];exact⟨Mf hz,Rj,e1⟩
  rintro zs σ' H1 l4 ⟨_,sm,ts,rfl,tl,tn⟩ f4;rw[LW,wl]at tl;have s4:ah H (upd H1 l4 (.lst (ts.map V.str))):=sm.trans (ah.new f4);have q4:upd H1 l4 (.lst (ts.map V.str)) l4=some (.lst (ts.map V.str)):=ae;generalize upd H1 l4 (.lst (ts.map V.str))=H4 at s4 q4⊢;have okn:∀t∈ts,PyData.strOk t=true:=fun t ht=>by
   unfold PyData.strOk;rw[Array.all_eq_true_iff_forall_mem];intro c hc;have:=(wn t (tn t ht).1).2.2 c (by simpa [signs]using hc);simp only[Bool.and_eq_true,Bool.or_eq_true,decide_eq_true_eq];lia
  refine⟨_,rfl,Mw _,fun lr fr=>?_⟩;have s5:ah H (upd H4 lr (.lst [])):=s4.trans (ah.new fr);have q5:=ah.new (o:= .lst []) fr _ _ q4;refine Iy q5 ae okn ?_;generalize upd H4 lr (.lst [])=H5 at s5 q5⊢;have pu5:=pu.keep s5;have g5:=g.trans s5;have nil:∀(G:Hp)(c':Nat),ah G0 G->br G p c'->c'<=c+10->∀t,G t=none->Q (.ref t) (upd G t (.lst [])):=fun G c' sG pG lc t ft=>
   k t [] _ c' ae True.intro ⟨[],.nil,rfl,by decide,by simp⟩ (by simp) (pG.keep (ah.new ft)) (by lia) (sG.trans (ah.new ft))
  refine⟨_,rfl,dD (fun _=>ki rfl ⟨Mw _,fun t ft=>nil H5 c g5 pu5 (by lia) t ft⟩) (fun ce=>?_)⟩;refine⟨_,rfl,_,_,rfl,rfl,_,rfl,dD (fun _=>ki rfl ⟨Mw _,fun t ft=>nil H5 c g5 pu5 (by lia) t ft⟩) (fun cn=>?_)⟩;refine⟨_,rfl,p,c,4,rfl,pu5,by lia,by decide,by decide,fun r0 H6 r00 r01 pu6 x6=>?_⟩;have g6:=ah.of g5 gp x6;refine⟨_,_,rfl,rfl,_,rfl,dD (fun _=>⟨Mw _,fun t ft=>nil H6 _ g6 pu6 (by lia) t ft⟩) (fun _=>?_)⟩;have ce:ts≠[]:=fun z=>ce (by simp[z]);have cn:2<=n:=by
   by_cases z:n<2
   .exact absurd (decide_eq_true z) cn
   .lia
  have tpos:0<ts.length:=by
   cases ts with
   |nil=>exact absurd rfl ce
   |cons a b=>simp
  have k200:(1000:Int)<2^200:=by decide
  have n4p:l4≠p:=fun z=>by
   have h:H4 p=some (.lst (ts.map V.str)):=by rw[←z];exact q4
   have h0:=f4;rw[z]at h0;obtain⟨ys,hy⟩:=pu.at;rw[sm _ _ hy]at h0;cases h0
  have q46:=x6 _ _ n4p q5;refine⟨_,rfl,_,rfl,_,rfl,l4,_,rfl,.inl (aG.of q46),p,c+1,((ts.map V.str).length:Int),rfl,pu6,by lia,by rw[LW];lia,by rw[LW];lia,fun r1 H7 r10 r11 pu7 x7=>?_⟩;rw[LW]at r11;obtain⟨j1,rfl⟩:=Int.eq_ofNat_of_zero_le r10;have j1l:j1<ts.length:=by lia
  have q47:=x7 _ _ n4p q46;refine⟨l4,_,(j1:Int),.str ts[j1],rfl,rfl,aG.of q47,aR (j:=j1) (by rw[LX,LZ j1l];rfl),?_⟩;obtain⟨om,Ro,eo⟩:=tn ts[j1] (List.getElem_mem j1l);generalize ts[j1]=one at om eo⊢;have g7:=ah.of g6 gp x7;have hl7:=g7 _ _ hl;obtain⟨j,hj⟩:=List.getElem?_of_mem om;have jl:j<4:=by have:=(List.getElem?_eq_some_iff.mp hj).1;lia
  have jn:(j+1)%4<ws.length:=by lia
  have uni:∀a b x,ws[a]?=some x->ws[b]?=some x->a=b:=fun a b x ha hb=>by
   have al:=(List.getElem?_eq_some_iff.mp ha).1;exact(List.getElem?_inj al wd).mp (ha.trans hb.symm)
  refine⟨_,rfl,_,rfl,.inl ⟨rfl,_,aG.of hl7⟩,_,rfl,l,ws,one,j,rfl,rfl,hl7,hj,fun m' hm' e=>by have:=uni _ _ _ e hj;lia,_,_,rfl,rfl,_,_,rfl,rfl,by show(0:Int)<4;decide,l,_,_,.str ws[(j+1)%4],rfl,rfl,aG.of hl7,?at1,?_⟩
  case at1=>
   rw[show((j:Int)+1)%4=(((j+1)%4:Nat):Int) by lia];exact aR (j:=(j+1)%4) (by rw[LX,LZ jn];rfl)
  have hoth:ws[(j+1)%4]?=some ws[(j+1)%4]:=LZ jn;have oth:isNm ws[(j+1)%4]:=wn _ (List.getElem_mem jn);have one_n:isNm one:=wn one om;have ne1:¬ws[(j+1)%4]=one:=fun z=>by
   rw[z]at hoth;have:=uni _ _ _ hoth hj;lia
  generalize ws[(j+1)%4]=other at oth ne1⊢;clear hoth uni hj jn;have gRo:=gm _ (bO eo);obtain⟨vo,lo,eo2,dgo,rfl,hlo,xeo⟩:∃(vo:V)(lo:MB)(es:List V),bV kvs (.inr one:Key)=some vo/\vo= .ref lo/\G0 lo=some (.lst es)/\cP G0 es Ro:=by
   rcases km.get one with⟨e1,_⟩|⟨R,v,e1,e2,lr,es,rfl,hl',xe⟩
   .rw[eo]at e1;cases e1
   .rw[eo]at e1;cases e1
    exact⟨_,lr,es,e2,rfl,hl',xe⟩
  have dg:∀{G:Hp},ah G0 G->cK G kd (kV (.inr one)) (some (.ref lo)):=fun{G} sG=>by
   rw[←dgo];exact cK.k (sG _ _ hk)
  have leo:eo2.length=Ro.length:=xeo.length;have lRo:Ro.length<=60:=gRo.2.1;refine⟨_,rfl,p,c+2,4,rfl,pu7,by lia,by decide,by decide,fun r2 H8 r20 r21 pu8 x8=>?_⟩;have g8:=ah.of g7 gp x8;refine⟨_,_,rfl,rfl,_,rfl,_,rfl,kd,_,rfl,dg g8,lo,_,rfl,.inl (aG.of (g8 _ _ hlo)),_,_,rfl,rfl,_,_,rfl,?_⟩;obtain⟨M,hM,M60,M0⟩:∃M:Int,(if 59+r2-(eo2.length:Int)<60 then 59+r2-(eo2.length:Int)else 60)=M/\M<=60/\-10<=M:=by
   refine⟨_,rfl,?_,?_⟩<;>split<;>lia
  rw[hM];clear hM;refine⟨_,rfl,M,rfl,by lia,by lia,pB (k:=0) (fun i ys σ' H'=>(∃row:List (Int×Int),cP H' ys row/\row.length=i/\∀e∈row,e.1=1/\2<=e.2/\e.2<=n)/\(∃v,σ'=[v,some (.ref p),some (.int n)])/\br H' p (c+3+i)/\aP p H8 H') (by lia) ⟨⟨[],.nil,rfl,fun e h=>absurd h Mn⟩,⟨none,rfl⟩,pu8,aP.refl _ _⟩ (fun i ys σ' H' ⟨⟨row,x,l,_⟩,_⟩=>by rw[x.length];lia) ?_ ?_⟩
  .rintro i ys σ' H' R hi ⟨⟨row,xr,rl,rp⟩,⟨v,rfl⟩,pui,xi⟩ done
   have hi:(i:Int)<60:=by lia
   refine⟨_,rfl,_,rfl,_,_,rfl,rfl,p,c+3+i,n-1,rfl,pui,by lia,by lia,by lia,fun t H9 t0 t1 pu9 x9=>⟨_,_,rfl,rfl,by show 2<=MG;lia,fun tt ft=>?_⟩⟩;refine done _ _ _ ⟨⟨row++[(1,2+t)],((aP.JZ x9 pui xr).keep (fun b xs hb=>ah.new ft _ _ hb)).snoc ae,by rw[LY,rl];rfl,fun e he=>?_⟩,⟨_,rfl⟩,pu9.keep (ah.new ft),(xi.trans x9).trans (ah.new ft).x⟩;rcases List.mem_append.mp he with h|h
   .exact rp e h
   .rw[List.mem_singleton.mp h];exact⟨rfl,by lia,by lia⟩
  rintro ys σ' H9 l8 ⟨⟨row,xr,rl,rp⟩,_,pu9,x9⟩ f8;have gr:Good n row:=fun e he=>by have:=rp e he;lia
  have rl60:row.length<=60:=by lia
  have smx:JY row:=fun e he=>by have:=gr e he;lia
  have g10:=(ah.of g8 gp x9).trans (ah.new (o:= .lst ys) f8);have q10:upd H9 l8 (.lst ys) l8=some (.lst ys):=ae;have xr10:cP (upd H9 l8 (.lst ys)) ys row:=xr.keep (fun b xs hb=>ah.new f8 _ _ hb);have pu10:br (upd H9 l8 (.lst ys)) p (c+3+M.toNat):=pu9.keep (ah.new f8);have n8p:l8≠p:=fun z=>by
   obtain⟨ys,hy⟩:=pu9.at;rw[z,hy]at f8;cases f8
  generalize upd H9 l8 (.lst ys)=H10 at g10 q10 xr10 pu10⊢;clear xr pu9 x9 f8 rp;refine⟨_,rfl,_,rfl,p,c+3+M.toNat,4,rfl,pu10,by lia,by decide,by decide,fun r3 H11 r30 r31 pu11 x11=>?_⟩;obtain⟨j3,rfl⟩:=Int.eq_ofNat_of_zero_le r30;have j3l:j3<ws.length:=by lia
  have g11:=ah.of g10 gp x11;have q11:=x11 _ _ n8p q10;have xr11:=aP.JZ x11 pu10 xr10;refine⟨l,_,(j3:Int),.str ws[j3],rfl,rfl,aG.of (g11 _ _ hl),aR (j:=j3) (by rw[LX,LZ j3l];rfl),?_⟩;have gol:isNm ws[j3]:=wn _ (List.getElem_mem j3l);generalize ws[j3]=goal at gol⊢;clear xr10 q10 pu10 x11 r31;have ly:=xr11.length;refine⟨_,rfl,_,rfl,kd,_,rfl,dg g11,_,rfl,lo,l8,eo2,ys,rfl,rfl,g11 _ _ hlo,q11,by lia,fun ld fd=>?_⟩;have sd:=ah.new (o:= .lst (eo2++ys)) fd;have qd:upd H11 ld (.lst (eo2++ys)) ld=some (.lst (eo2++ys)):=ae;have xd:cP (upd H11 ld (.lst (eo2++ys))) (eo2++ys) (Ro++row):=((xeo.keep (fun b xs hb=>g11 _ _ hb)).append xr11).keep (fun b xs hb=>sd _ _ hb);have g12:=g11.trans sd;have q12:=sd _ _ q11;have xr12:=xr11.keep (fun b xs hb=>sd _ _ hb);have pu12:=pu11.keep sd;generalize upd H11 ld (.lst (eo2++ys))=H12 at qd xd g12 q12 xr12 pu12⊢;clear sd;refine J0 ?_;dsimp only;have r9:LV "!NoBound" =xg 9:=by decide+kernel
  have oo:=(pf (okd:=fun _=>true) (ans:=lJ) (U:=fun _=>true) (CT:=cl.gV) (CN:=cl.cH) (CB:=cl.cg) (CM:=cl.cV) (n:=n) (m:=kB m other row) rfl rfl rfl gol one_n oth).2 Ro row (by rw[qO,if_neg ne1];exact eo) (by rw[qO,if_pos rfl]) lRo rl60;have lx:=xd.length;rw[LY]at lx;refine iN (t:=vb _ _ _) (fun σ' H'=>∃(v:V)(o:Out),σ'=[some (.ref p),some (.int n),some (.ref l),some (.ref kd),some (.ref l4),some (.str one),some (.str other),some (.int M),some (.ref l8),some (.str goal),some v,none]/\ah H12 H'/\(t9 cl).out n (kB m other row) [LV "join",goal,one,other]=some o/\pk cl H' n v goal o/\∃dv,Dat K H' (fun _=>True) v dv/\dv.canLay0=true/\dv.depth<=5) (fun D' hD=>?_) ?_
  .refine⟨_,rfl,ld,_,rfl,.inl (aG.of qd),_,_,rfl,rfl,_,rfl,dD (fun cb=>?_) (fun cb=>?_)⟩
   .have cb:=of_decide_eq_true cb
    rw[if_pos (by rw[LY]at cb;lia)]at oo;exact hD _ _ ⟨_,.jK cl.cg,rfl,ah.refl _,oo,⟨9,.inr (.inr ⟨rfl,rfl⟩),by rw[r9]⟩,_,.str _,dN _,by show 0<=5;lia⟩
   .have cb:¬(((eo2++ys).length:Int)>60):=fun z=>cb (decide_eq_true z)
    rw[if_neg (by rw[LY]at cb;lia)]at oo;exact hD _ _ ⟨_,.put goal (Ro++row),rfl,ah.refl _,oo,⟨rfl,⟨ld,_,rfl,qd,xd⟩,gRo.1.append gr,by rw[LY];rw[LY]at cb;lia⟩,_,.lst (aG.of qd) True.intro xd.dat,by unfold PyData.canLay0;exact lI _,by unfold PyData.depth;have:=jJ (Ro++row);lia⟩
  rintro σ' H13 ⟨v,o,rfl,s13,ho,hd,dv,hdv,ldv,ddv⟩;have g13:=g12.trans s13;have q13:=s13 _ _ q12;have xr13:=xr12.keep (fun b xs hb=>s13 _ _ hb);have pu13:=pu12.keep s13;have sp1:(LV " ").length=1:=by decide+kernel
  have rw4:(LV "row ").length=4:=by decide+kernel
  have jn5:(LV "join ").length=5:=by decide+kernel
  have e1:=one_n.2.1;have e2:=oth.2.1;have e3:=gol.2.1;have rlen:=vI smx;refine⟨_,rfl,_,_,rfl,rfl,(by rw[jn5];lia),_,_,rfl,rfl,(by rw[Str.length_append];lia),_,rfl,_,_,rfl,rfl,(by rw[Str.length_append,Str.length_append];lia),_,_,rfl,rfl,(by rw[Str.length_append,Str.length_append,Str.length_append];lia),_,rfl,_,_,rfl,rfl,(by rw[Str.length_append,Str.length_append,Str.length_append,Str.length_append];lia),?_⟩;refine⟨_,rfl,_,_,rfl,rfl,(by rw[rw4];lia),_,_,rfl,rfl,(by rw[Str.length_append];lia),_,rfl,l8,ys,row,rfl,q13,xr13,by lia,smx,fun H14 s14=>⟨_,_,rfl,rfl,(by rw[Str.length_append,Str.length_append];lia),_,rfl,_,rfl,by show 3<=MG;lia,fun t1 f1=>⟨_,rfl,_,rfl,_,rfl,by show 3<=MG;lia,fun t2 f2=>⟨by show 2<=MG;lia,fun tl f3=>?_⟩⟩⟩⟩;have a1:=ah.new (o:= .tup [V.str (LV "row " ++other++LV " " ++fM row),V.str other,V.ref l8]) f1;have b1:upd H14 t1 (.tup [V.str (LV "row " ++other++LV " " ++fM row),V.str other,V.ref l8]) t1=some (.tup [V.str (LV "row " ++other++LV " " ++fM row),V.str other,V.ref l8]):=ae;have a2:=ah.new (o:= .tup [V.str (LV "join " ++goal++LV " " ++one++LV " " ++other),V.str goal,v]) f2;have b2:upd (upd H14 t1 (.tup [V.str (LV "row " ++other++LV " " ++fM row),V.str other,V.ref l8])) t2 (.tup [V.str (LV "join " ++goal++LV " " ++one++LV " " ++other),V.str goal,v]) t2=some (.tup [V.str (LV "join " ++goal++LV " " ++one++LV " " ++other),V.str goal,v]):=ae;have a3:=ah.new (o:= .lst [V.ref t1,V.ref t2]) f3;have s15:=((s14.trans a1).trans a2).trans a3;have jt:LV "join " ++goal++LV " " ++one++LV " " ++other=Str.join (LV " ") [LV "join",goal,one,other]:=by
   refine bT ?_;show signs (LV "join " ++goal++LV " " ++one++LV " " ++other)=signs (LV "join" ++LV " " ++(goal++LV " " ++(one++LV " " ++other)));rw[show LV "join " =LV "join" ++LV " " by decide+kernel];simp only[aZ,Mp]
  refine k tl [V.ref t1,V.ref t2] _ (c+3+M.toNat+1) ae ?_ ?dat (by simp) (pu13.keep s15) (by lia) (g13.trans s15)
  case dat=>
   have kk:tL (fun _=>True) H13 _:=fun b o _ e=>s15 b o e;have e15:=xr13.keep (fun b xs hb=>s15 _ _ hb);refine⟨[.tuple [.str _,.str _,.list (row.map fun p=> .tuple [.int p.1,.int p.2])],.tuple [.str _,.str _,dv]],.cons (.tup (dH.of (a3 _ _ (a2 _ _ b1))) True.intro (.cons (.str _) (.cons (.str _) (.cons (.lst (aG.of (s15 _ _ q13)) True.intro e15.dat) .nil)))) (.cons (.tup (dH.of (a3 _ _ b2)) True.intro (.cons (.str _) (.cons (.str _) (.cons (hdv.keep kk) .nil)))) .nil),?_,?_,by simp⟩
   .have t1:PyData.strOk (LV "row " ++other++LV " " ++fM row)=true:=dR (dR (dR (dN _) (HP oth)) (dN _)) (z8 row)
    have t2:PyData.strOk (LV "join " ++goal++LV " " ++one++LV " " ++other)=true:=dR (dR (dR (dR (dR (dN _) (HP gol)) (dN _)) (HP one_n)) (dN _)) (HP oth);simp only[PyData.canLayAll0,PyData.canLay0,t1,t2,HP oth,HP gol,lI,ldv,Bool.and_true]
   .have:=jJ row
    simp only[PyData.depthAll,PyData.depth];lia
  refine⟨t1,_,other,.ref l8,.put other row,rfl,a3 _ _ (a2 _ _ b1),(by rw[Str.length_append,Str.length_append,Str.length_append];lia),oth,?_,⟨rfl,⟨l8,ys,rfl,s15 _ _ q13,xr13.keep (fun b xs hb=>s15 _ _ hb)⟩,gr,rl60⟩,t2,_,goal,v,o,rfl,a3 _ _ b2,(by rw[Str.length_append,Str.length_append,Str.length_append,Str.length_append,Str.length_append];lia),gol,?_,hd.same s15,True.intro⟩
  .rw[uh,dX (by simp) fun t ht=>?_]
   .exact yj rfl rfl rfl oth n2 gr rl60
   .simp only[Mb,Mn,or_false]at ht
    rcases ht with rfl|rfl|rfl
    .decide+kernel
    .exact mU oth
    .exact yS fun e he=>by have:=gr e he;lia
  .rw[jt,dX (by simp) fun t ht=>?_]
   .exact ho
   .simp only[Mb,Mn,or_false]at ht
    rcases ht with rfl|rfl|rfl|rfl
    .decide+kernel
    .exact mU gol
    .exact mU one_n
    .exact mU oth
end
section
open PySem PySem.Spec L2 PyProof.Rows
theorem vV{a b:List Nat}(h:ltCps b a=false):a<=b:=by
 rw[ltCps_eq]at h;exact of_decide_eq_false h
theorem rj:∀{l:List Str}{p:Str},risingS p l=true->(p::l).Pairwise fun a b=>a.cps.toList<=b.cps.toList
 |[],p,_=>List.pairwise_singleton _ _
 |x::r,p,h=>by
  unfold risingS at h;rw[Bool.and_eq_true,Bool.not_eq_true']at h;have ih:=rj h.2;have px:=vV h.1;refine List.pairwise_cons.mpr ⟨fun y hy=>?_,ih⟩;rcases List.mem_cons.mp hy with rfl|hy
  .exact px
  .exact List.le_trans px ((List.pairwise_cons.mp ih).1 y hy)
theorem q9{l:List Str}(h:sortedS l=true):l.Pairwise fun a b=>a.cps.toList<=b.cps.toList:=by
 cases l with
 |nil=>exact List.Pairwise.nil
 |cons p r=>exact rj h
theorem uk{a b:List Str}(p:a.Perm b)(ha:sortedS a=true)(hb:sortedS b=true):a=b:=
 List.Perm.eq_of_pairwise (fun x y _ _ h1 h2=>Str.ext' (Array.toList_inj.mp (List.le_antisymm h1 h2))) (q9 ha) (q9 hb) p
end
section
open PySem PySem.Spec L2 PyProof.Rows
def Kz(K:W.Frag)(ta tb:TE):TE:=fun σ H Q=>ta σ H fun x H1=>∃k,He K x H1 k/\if k=true then Q x H1 else tb σ H1 Q
theorem GP{X}{a b:Expr}{rest:List Expr}{pos}{ta tb:TE}(ha:PE X a ta)(hb:PE X (.BoolOp .Or (b::rest) pos) tb):PE X (.BoolOp .Or (a::b::rest) pos) (Kz X.K ta tb):=by
 intro pins s σ H Q I h;refine BoolOp_or (aV (ha pins s σ H _ I h) fun v s1 ⟨x,H1,I1,r1,q1⟩=>?_);obtain⟨k,e,q1⟩:=q1;refine MK (GY pins s1 σ H1 x v (fun k' H'=>k'=k/\H'=H1) I1 r1 ⟨k,e,rfl,rfl⟩) ?_ (fun _ _ z=>z);rintro k' s2 ⟨H2,I2,rfl,rfl⟩
 cases k' with
 |true=>exact⟨x,H2,I2,r1,q1⟩
 |false=>exact hb pins s2 σ H2 Q I2 q1
end
theorem zS{okd:Str->Bool}{ans:Str->Int->List Wd->Option (Except MB Str)}{U:Str->Bool}{CT CN CB CM:MB}{n:Int}{m:Kept}:(du okd ans U CT CN CB CM).out n m [LV "names"]=some .AG:=by
 have e1:jb (LV "names")=some []:=by decide+kernel
 unfold cf.out du;dsimp only;rw[e1];dsimp only;rw[if_neg (by simp),if_neg (by simp)];simp only[List.zip_nil_left,cT];rw[if_pos trivial]
theorem FN{v:V}{σ:St}{H:Hp}{Q:VK}(h:Q v H):tC v σ H Q:=h
theorem Ju{v:V}{i:Nat}{u:TS}{D:Ends}{σ:St}{H:Hp}(h:u D (σ.set i (some v)) H):Bd (uQ (tC v) (cu i)) u D σ H:=h
theorem Dl{x:Str}{r:List Str}(h:1<=x.length):((Str.join (LV ",") (x::r)).length:Int)≠0:=by
 cases r with
 |nil=>
  show((x.length:Nat):Int)≠0;lia
 |cons y r=>
  show(((x++LV "," ++Str.join (LV ",") (y::r)).length:Nat):Int)≠0;rw[Str.length_append,Str.length_append];lia
theorem Bb{K:W.Frag}{H:Hp}{ks:List Str}(hk:∀x∈ks,1<=x.length/\x.length<=8)(hl:ks.length<=40):
  ∃k,He K (.str (Str.join (LV ",") ks)) H k/\(k=true->Str.join (LV ",") ks=jC ks)/\(k=false->LV "none" =jC ks):=by
 have h1:=StrLaws.join_length_le (LV ",") ks;have h2:=StrLaws.sumLen_le (B:=8) ks (fun y hy=>(hk y hy).2);have e1:(LV ",").length=1:=by decide+kernel
 have big:(10000000:Nat)<=MG:=by decide
 rw[e1]at h1;refine⟨_,⟨by lia,rfl⟩,?_⟩;unfold jC
 cases ks with
 |nil=>exact⟨fun z=>absurd z (by decide+kernel),fun _=>by rw[if_pos rfl]⟩
 |cons x r=>exact⟨fun _=>by rw[if_neg (by simp)],fun z=>absurd (Dl (r:=r) (hk x (Mg ..)).1) (by simpa using z)⟩
def FE(cl:eX)(C:MB)(L:cf):Sp:=fun vs H Q _=>∃(a d l k:MB)(n:Int)(m:Kept)(ws:List Str)(kvs:List (Key×V)),vs=[.ref a,.ref l,.ref k]/\1<=n/\n<=12/\m.length<=40/\hZ n m/\cX C H a d n m/\H k=some (.dK kvs)/\bj H kvs m/\H l=some (.lst (ws.map V.str))/\ws.length<=10/\(∀w∈ws,isNm w)/\∀H',ah H H'->Q (.bl true) H'
structure Jv(P:MD)(w:ME)(K:W.Frag)(mg:Str->Option MA)(base:MN)(cl:eX)(C:MB)(L:cf):Prop extends T1 mg K where
 fD:mg "sorted" =none
 dW:FnAt P w K mg base "_law_say" 31 ["_law_desk","_law_row_here"] (sV K cl C L)
 bC:FnAt P w K mg base "_law_row_word" 1 ["_law_row_here"] vP
 jf:iM K cl cl.cH 11
section
variable{P:MD}{w:ME}{K:W.Frag}{mg:Str->Option MA}{base:MN}{cl:eX}{C:MB}{okd:Str->Bool}{U:Str->Bool}{CT CB CM:MB}
theorem eE:aF ["_law_desk","_law_names_here","_law_kept","_law_name","_law_due_here"] ["_law_desk","_law_names_here","_law_kept"] (au (top 131)):=⟨rfl,rfl,rfl,by decide+kernel,rfl,by decide+kernel,by decide+kernel⟩
theorem HC{f:MB}{fd:MM}(F:dJ K "_law_stands" "_law_stands" (top 131) f fd)(hn:okd "name" =true)(T:Jv P w K mg base cl C (du okd lJ U CT cl.cH CB CM)):aS P w K mg base fQ 32 f fd ["_law_desk","_law_names_here","_law_kept"] (FE cl C (du okd lJ U CT cl.cH CB CM)):=by
 refine F.ok eE (fun vs H Q E h=>?_) (fun cdv A outer s H vs Q E hr h=>?_)
 .obtain⟨a,d,l,k,n,m,ws,kvs,rfl,_⟩:=h
  rfl
 .obtain⟨a,d,l,kd,n,m,ws,kvs,rfl,n1,n2,ml,gm,hd,hk,km,hl,wl,wn,k⟩:=h
  have hu:=iY hr;refine⟨_,(ag (aQ (aE gH (ak T.dW (hr.mono (by first|decide|lia)) rfl (aa (pv 0) (aa az af))) (GP (bD (K:=K) rfl PySem.F.plainAttrs_str PySem.F.slot_str_join PySem.F.type_str_join (gb (K:=K) rfl) az (aa (ar (kS rfl) rfl T.fD (by decide+kernel) (aa (pv 2) af)) af)) (sZ az)) (aH _)) (aj (aA i3)) aB)
   (ag (dE PassesOwn.never rfl (aU (K:=K) rfl (pv 1)) (aC (i:=3) eE.nd rfl (Or.inl rfl)) (ag (aw (i:=4) eE.nd rfl (Or.inl rfl) az)
   (ag (aQ (kD (Bq hu (pv 3) (pv 2))) (aj (aw (i:=4) eE.nd rfl (Or.inl rfl) (ak T.bC (hr.mono (by first|decide|lia)) rfl (aa (dS hu (pv 2) (pv 3) (fun _ _=>rfl)) af)))) aB)
   (aj (aQ (aE gH (ak T.dW (hr.mono (by first|decide|lia)) rfl (aa (pv 0) (aa (av aI az (pv 3)) af))) (pv 4) (aH _)) (aj (aA i3)) aB)))))
   (aj (aA i3)))),?_⟩
  have big:(10000000:Nat)<=MG:=by decide
  obtain⟨dx,fs,kv2,ha,hf,hkd,dne,km2,ml2⟩:=id hd;have sp0:Txt.split (LV "names") (LV " ")=[LV "names"]:=by decide+kernel
  refine iN (fun σ' H'=>(∃v3 v4,σ'=[some (.ref a),some (.ref l),some (.ref kd),v3,v4])/\ah H H') (fun D' hD=>?_) ?_
  .refine⟨_,rfl,?_⟩
   refine⟨a,d,_,n,m,.AG,rfl,(by decide+kernel),n1,n2,ml,gm.names,hd,by rw[sp0];exact zS,fun ks pm so H1 s1=>?_⟩;refine⟨rfl,?_⟩;have e1:(LV ",").length=1:=by decide+kernel
   refine⟨_,rfl,kd,kvs,m.map (·.1),rfl,s1 _ _ hk,(km.same s1).keys,(by have:=Paired.length km;lia),fun lk ks' fl pm' so'=>?_⟩;obtain rfl:ks'=ks:=uk (pm'.trans pm.symm) so' so;have kn:∀x∈ks',1<=x.length/\x.length<=8:=fun x hx=>by
    obtain⟨p,hp,rfl⟩:=List.mem_map.mp (pm.subset hx);have:=(gm p hp).2.2;exact⟨this.1,this.2.1⟩
   have kl:ks'.length<=40:=by
    have:=pm.length_eq;rw[LW]at this;lia
   have js:JoinOk (LV ",") ks'=true:=bK (by lia) (fun y hy=>(kn y hy).2) (by decide) (by lia);have s2:=s1.trans (ah.new (o:= .lst (ks'.map V.str)) fl);have hk2:upd H1 lk (.lst (ks'.map V.str)) lk=some (.lst (ks'.map V.str)):=ae;generalize upd H1 lk (.lst (ks'.map V.str))=H2 at s2 hk2⊢;refine⟨_,lk,ks',rfl,rfl,aG.of hk2,js,?_⟩;obtain⟨kb,tv,c1,c2⟩:=Bb (K:=K) (H:=H2) kn kl;refine⟨kb,tv,?_⟩
   cases kb with
   |true=>
    refine oU ?_;rw[c1 rfl];refine⟨rfl,_,rfl,?_⟩;dsimp only;rw[if_neg (by simp)];exact hD _ _ ⟨⟨_,_,rfl⟩,s2⟩
   |false=>
    refine wI ?_;refine FN ?_;rw[c2 rfl];refine⟨rfl,_,rfl,?_⟩;dsimp only;rw[if_neg (by simp)];exact hD _ _ ⟨⟨_,_,rfl⟩,s2⟩
  .rintro σ' H2 ⟨⟨v3,v4,rfl⟩,s2⟩
   refine⟨_,rfl,l,rfl,⟨_,aG.of (s2 _ _ hl)⟩,ig (K:=K) (a:=l) (xs:=ws.map V.str) (fun i σ H'=>(∃v3 v4,σ=[some (.ref a),some (.ref l),some (.ref kd),v3,v4])/\ah H2 H')
    ⟨⟨_,_,rfl⟩,ah.refl _⟩ (fun i σ H' _ q=>aG.of (q.2 _ _ (s2 _ _ hl))) ?_ ?_⟩
   .rintro i x σ H3 hx ⟨⟨v3,v4,rfl⟩,s3⟩
    have s03:=s2.trans s3;have hkd3:=s03 _ _ hk;have km3:=km.same s03;obtain⟨nm,hm,rfl⟩:=ie hx;have hn':isNm nm:=wn _ (Mf hm);refine J0 ?_;refine Ju ?_;dsimp only;refine iN (t:=vb _ _ _) (fun σ' H'=>∃sd,σ'=[some (.ref a),some (.ref l),some (.ref kd),some (.str nm),some (.str sd)]/\ah H3 H'/\((rowOf m nm=none/\sd=LV "!NoName")\/∃R,rowOf m nm=some R/\sd=fM R)) (fun D' hD=>?_) ?_
    .rcases km3.get nm with⟨e1,e2⟩|⟨R,v,e1,e2,e3⟩
     .have g:cK H3 kd (kV (.inr nm)) none:=by rw[←e2];exact cK.k hkd3
      refine⟨_,rfl,_,rfl,kd,none,rfl,g,_,rfl,wI ?_⟩;exact hD _ _ ⟨_,rfl,ah.refl _,.inl ⟨e1,rfl⟩⟩
     .have g:cK H3 kd (kV (.inr nm)) (some v):=by rw[←e2];exact cK.k hkd3
      refine⟨_,rfl,_,rfl,kd,some v,rfl,g,_,rfl,oU ?_⟩;obtain⟨b,es,rfl,hb,xb⟩:=e3;have gR:=gm _ (bO e1);refine⟨_,rfl,_,rfl,kd,_,rfl,g,b,es,R,rfl,hb,xb,(by have:R.length<=60:=gR.2.1;lia),(fun e he=>by have:=gR.1 e he;lia),fun H' sm=>hD _ _ ⟨_,rfl,sm,.inr ⟨R,e1,rfl⟩⟩⟩
    .rintro σ' H4 ⟨sd,rfl,s4,hsd⟩
     have s04:=s03.trans s4;have sp1:Txt.split (LV "show " ++nm) (LV " ")=[LV "show",nm]:=by
      have e:LV "show " ++nm=Str.join (LV " ") [LV "show",nm]:=by
       rw[←Aj];have:LV "show " =LV "show" ++LV " " :=by decide+kernel
       rw[this]
      rw[e];refine dX (by simp) fun t ht=>?_;rcases List.mem_cons.mp ht with rfl|ht
      .decide+kernel
      .rw[List.mem_singleton.mp ht];exact mU hn'
     have e5:(LV "show ").length=5:=by decide+kernel
     have nl:=hn'.2.1;have len:(LV "show " ++nm).length<=990:=by
      rw[Str.length_append];lia
     have oa:=Er (okd:=okd) (ans:=lJ) (U:=U) (CT:=CT) (CN:=cl.cH) (CB:=CB) (CM:=CM) (n:=n) (m:=m) (nm:=nm) (word:=LV "show") hn (by decide+kernel) (by decide+kernel) hn';refine⟨_,rfl,_,rfl,_,_,rfl,rfl,(by lia),?_⟩;dsimp only[AM,List.cons_append,List.nil_append];rcases hsd with⟨er,rfl⟩|⟨R,er,rfl⟩
     .refine⟨a,d,_,n,m,.jK cl.cH,rfl,len,n1,n2,ml,gm.names,hd.same s04,by rw[sp1];exact oa.1 er,11,T.jf,fun H' sm=>?_⟩
      have r11:xg 11=LV "!NoName" :=by decide+kernel
      rw[r11];refine⟨_,rfl,rfl,_,rfl,?_⟩;rw[if_neg (by simp)];exact⟨⟨_,_,rfl⟩,s3.trans (s4.trans sm)⟩
     .have g:=gm _ (bO er)
      refine⟨a,d,_,n,m,.ans (fM R),rfl,len,n1,n2,ml,gm.names,hd.same s04,by rw[sp1];exact(oa.2 R er).1 _ (Al g.1 g.2.1),fun H' sm=>?_⟩;refine⟨_,rfl,rfl,_,rfl,?_⟩;rw[if_neg (by simp)];exact⟨⟨_,_,rfl⟩,s3.trans (s4.trans sm)⟩
   .rintro σ H3 ⟨⟨v3,v4,rfl⟩,s3⟩
    exact k _ (s2.trans s3)
end
structure TL(P:MD)(w:ME)(K:W.Frag)(mg:Str->Option MA)(base:MN)(cl:eX)(C:MB):Prop extends T1 mg K where
 eQ:mg "str" =none
 lN:mg "max" =none
 fV:mg "min" =none
 iK:FnAt P w K mg base "_law_purse" 1 ["_law_script","_law_at"] (yV K)
 ay:FnAt P w K mg base "_law_take" 1 ["_law_purse_here","_law_many"] jD
 lF:FnAt P w K mg base "_law_names" 2 ["_law_purse_here"] Fs
 gP:FnAt P w K mg base "_law_stands" 32 ["_law_desk","_law_names_here","_law_kept"] (FE cl C (t9 cl))
 ng:FnAt P w K mg base "_law_full" 3 ["_law_purse_here","_law_n","_law_names_here","_law_kept"] (FF K cl)
 nq:FnAt P w K mg base "_law_deed" 5 ["_law_purse_here","_law_n","_law_names_here","_law_kept"] (Fc cl)
 dW:FnAt P w K mg base "_law_say" 31 ["_law_desk","_law_row_here"] (sV K cl C (t9 cl))
 jf:iM K cl cl.cH 11
 u6:iM K cl cl.cV 3
 qN:iM K cl cl.cg 9
 yM:wH P w K mg base C "Desk" 1 ["self","n"] (BE C)
theorem pk.off {cl:eX}{H H':Hp}{n:Int}{v:V}{nm:Str}{o:Out}{d:MB}{q:List (Key×V)}(h:pk cl H n v nm o)(e:H d=some (.dK q))(k:∀b o,b≠d->H b=some o->H' b=some o):pk cl H' n v nm o:=by
 cases o with
 |put x R=>exact⟨h.1,h.2.1.off e k,h.2.2⟩
 |jK c=>exact h
 |del x=>exact h
 |ans _=>exact h
 |AG=>exact h
theorem qZ.off {cl:eX}{H H':Hp}{n:Int}{d:MB}{q:List (Key×V)}(e:H d=some (.dK q))(k:∀b o,b≠d->H b=some o->H' b=some o):∀{m:Kept}{xs:List V},qZ cl H n m xs->qZ cl H' n m xs
 |_,[],_=>True.intro
 |_,_::_,⟨t,tx,nm,v,o,e1,h,l,kk,q1,d1,r⟩=>⟨t,tx,nm,v,o,e1,k _ _ (fun z=>by rw[z,e]at h;cases h) h,l,kk,q1,d1.off e k,qZ.off e k r⟩
theorem BL{kvs:List (Key×V)}{k:Key}{v:V}:gA (putK kvs k v) k=gA kvs k:=by
 unfold gA putK
 split
 .induction kvs with
  |nil=>rfl
  |cons p r ih=>
   rename_i h;rw[L9,List.filter_cons,List.filter_cons];have go:∀r:List (Key×V),(r.map fun kv=>if kv.1=k then(kv.1,v)else kv).filter (fun kv=>decide (kv.1≠k))=r.filter fun kv=>decide (kv.1≠k):=by
    intro r
    induction r with
    |nil=>rfl
    |cons a b ih2=>
     rw[L9,List.filter_cons,List.filter_cons,ih2];by_cases c:a.1=k
     .simp[c]
     .simp[c]
   rw[go];by_cases c:p.1=k
   .simp[c]
   .simp[c]
 .rw[List.filter_append]
  simp
theorem zm(m:Kept)(x:Str):(lS m x).length<=m.length:=List.length_filter_le _ _
theorem hZ.Jw {n:Int}{m:Kept}(g:hZ n m)(x:Str):hZ n (lS m x):=fun p hp=>g p (List.mem_filter.mp hp).1
theorem AZ(m:Kept)(x:Str)(R:List (Int×Int)):(kB m x R).length<=m.length+1:=by
 unfold kB
 split
 .rw[LW];lia
 .rw[LY];exact Ms _
theorem nY{K:W.Frag}{H H':Hp}{a d:MB}{xs:List V}{q:List (Key×V)}(h:aG K H a xs)(e:H d=some (.dK q))(k:∀b o,b≠d->H b=some o->H' b=some o):aG K H' a xs:=by
 rcases h with(h|⟨o,h⟩)|h
 .exact .inl (.inl (k _ _ (fun z=>by rw[z,e]at h;cases h) h))
 .exact .inl (.inr ⟨o,k _ _ (fun z=>by rw[z,e]at h;cases h) h⟩)
 .exact .inr h
theorem fC{H H':Hp}{a d:MB}{xs:List V}{q:List (Key×V)}(h:H a=some (.lst xs))(e:H d=some (.dK q))(k:∀b o,b≠d->H b=some o->H' b=some o):H' a=some (.lst xs):=k _ _ (fun z=>by rw[z,e]at h;cases h) h
structure CW(K:W.Frag)(C:MB)(H:Hp)(aD d kd l a:MB)(n:Int)(ws:List Str)(ns:List Int)(m:Kept)(kvs:List (Key×V))(i:Nat):Prop where
 u3:cX C H aD d n m
 kept:H kd=some (.dK kvs)
 km:bj H kvs m
 good:hZ n m
 len:m.length<=i
 Fb:H l=some (.lst (ws.map V.str))
 HR:aG K H a (ns.map V.int)
 ne:d≠kd
theorem CW.same {K:W.Frag}{C:MB}{H H':Hp}{aD d kd l a:MB}{n:Int}{ws:List Str}{ns:List Int}{m:Kept}{kvs:List (Key×V)}{i:Nat}(W:CW K C H aD d kd l a n ws ns m kvs i)(s:ah H H'):CW K C H' aD d kd l a n ws ns m kvs i:=
 ⟨W.u3.same s,s _ _ W.kept,W.km.same s,W.good,W.len,s _ _ W.Fb,s.seq W.HR,W.ne⟩
theorem CW.mono {K:W.Frag}{C:MB}{H:Hp}{aD d kd l a:MB}{n:Int}{ws:List Str}{ns:List Int}{m:Kept}{kvs:List (Key×V)}{i j:Nat}(W:CW K C H aD d kd l a n ws ns m kvs i)(h:i<=j):CW K C H aD d kd l a n ws ns m kvs j:=
 ⟨W.u3,W.kept,W.km,W.good,Mv W.len h,W.Fb,W.HR,W.ne⟩
section
variable{P:MD}{w:ME}{K:W.Frag}{mg:Str->Option MA}{base:MN}{cl:eX}{C:MB}
theorem eS:aF ["_law_script","_law_purse_here","_law_n","_law_names_here","_law_desk","_law_kept","_law_k","_law_deeds","_law_row_here","_law_name","_law_due_here"] ["_law_script"] (au (top 132)):=⟨rfl,rfl,rfl,by decide+kernel,rfl,by decide+kernel,by decide+kernel⟩
theorem Hd{f:MB}{fd:MM}(F:dJ K "law" "law" (top 132) f fd)(T:TL P w K mg base cl C):aS P w K mg base fQ 33 f fd ["_law_script"] (yR K):=by
 refine F.ok eS (fun vs H Q E h=>?_) (fun cdv A outer s H vs Q E hr h=>?_)
 .obtain⟨a,ns,rfl,_⟩:=h
  rfl
 .obtain⟨a,ns,rfl,hS,hlen,k⟩:=h
  have hu:=iY hr;refine⟨_,(ag (aw (i:=1) eS.nd rfl (Or.inl rfl) (ak T.iK (hr.mono (by first|decide|lia)) rfl (aa (pv 0) (aa ai af))))
   (ag (aw (i:=2) eS.nd rfl (Or.inl rfl) (av bp ai (ak T.ay (hr.mono (by first|decide|lia)) rfl (aa (pv 1) (aa ai af)))))
   (ag (aw (i:=3) eS.nd rfl (Or.inl rfl) (ak T.lF (hr.mono (by first|decide|lia)) rfl (aa (pv 1) af)))
   (ag (aw (i:=4) eS.nd rfl (Or.inl rfl) (AX T.yM (hr.mono (by decide)) rfl (aa (pv 2) af)))
   (ag (aw (i:=5) eS.nd rfl (Or.inl rfl) og)
   (ag (aQ (eL (eI (ak T.gP (hr.mono (by first|decide|lia)) rfl (@aa _ _ _ _ _ (pv 4) (@aa _ _ _ _ _ (pv 3) (@aa _ _ _ _ _ (pv 5) af aL) aL) aL)))) (aj (aA i3)) aB)
   (ag (dE PassesOwn.never rfl (jT rfl T.bL (aa ai (aa (ar (gn rfl) rfl T.fV (by decide+kernel) (aa (ar (jP rfl) rfl T.lN (by decide+kernel) (aa (ar (aN (K:=K) rfl) rfl T.bP (by decide+kernel) (aa (pv 0) af)) (aa ai af))) (aa ai af))) af))) (aC (i:=6) eS.nd rfl (Or.inl rfl)) (ag (aw (i:=1) eS.nd rfl (Or.inl rfl) (ak T.iK (hr.mono (by first|decide|lia)) rfl (aa (pv 0) (aa (pv 6) af))))
   (ag (aw (i:=7) eS.nd rfl (Or.inl rfl) (ak T.ng (hr.mono (by first|decide|lia)) rfl (@aa _ _ _ _ _ (pv 1) (@aa _ _ _ _ _ (pv 2) (@aa _ _ _ _ _ (pv 3) (@aa _ _ _ _ _ (pv 5) af aL) aL) aL) aL)))
   (ag (aQ (aE (tf hr.units) (pv 7) (bf af) (aH _)) (aj (aw (i:=7) eS.nd rfl (Or.inl rfl) (bf (aa (ak T.nq (hr.mono (by first|decide|lia)) rfl (@aa _ _ _ _ _ (pv 1) (@aa _ _ _ _ _ (pv 2) (@aa _ _ _ _ _ (pv 3) (@aa _ _ _ _ _ (pv 5) af aL) aL) aL) aL)) af)))) aB)
   (aj (dE PassesOwn.never rfl (aU (K:=K) rfl (pv 7)) (eG (K:=K) (n:=3) rfl rfl (bh (aC (i:=8) eS.nd rfl (Or.inl rfl)) (bh (aC (i:=9) eS.nd rfl (Or.inl rfl)) (bh (aC (i:=10) eS.nd rfl (Or.inl rfl)) eC)))) (ag (aQ (eI (ar (gu (K:=K) rfl) rfl T.aJ (by decide+kernel) (aa (pv 10) (aa (iP (v:= .ty "str") rfl T.eQ (by decide+kernel) rfl) af)))) (aj (aQ (aE gH (ak T.dW (hr.mono (by first|decide|lia)) rfl (aa (pv 4) (aa (pv 8) af))) (pv 10) (aH _)) (aj (aA i3)) aB)) (ag (aQ (aE gH (ak T.dW (hr.mono (by first|decide|lia)) rfl (aa (pv 4) (aa (pv 8) af))) az (aH _)) (aj (aA i3)) aB)
   (ag (tq hu (pv 5) (pv 9) (pv 10) rfl)
   (aj (aQ (aE Hy (pv 10) Bs (aH _)) (aj (dh (Bz (pv 5) (pv 9) ⟨rfl,rfl,rfl,rfl⟩))) aB)))))
   (aj (aQ (eL (eI (ak T.gP (hr.mono (by first|decide|lia)) rfl (@aa _ _ _ _ _ (pv 4) (@aa _ _ _ _ _ (pv 3) (@aa _ _ _ _ _ (pv 5) af aL) aL) aL)))) (aj (aA i3)) aB)))))))))
   (aj (aA i3))))))))),?_⟩
  have big:(10000000:Nat)<=MG:=by decide
  have two:2<=MG:=by decide
  refine⟨_,rfl,a,ns,0,rfl,hS,by lia,by lia,fun p0 H1 hp0 pu0 s1=>?_⟩;refine⟨_,rfl,p0,0,12,rfl,pu0,by decide,by decide,by decide,fun r0 H2 r00 r01 pu1 s2=>?_⟩;have a2:=ah.of s1 hp0 s2;have n1:1<=1+r0:=by lia
  have n2:1+r0<=12:=by lia
  refine⟨_,_,rfl,rfl,_,rfl,p0,1,rfl,pu1,by decide,fun l ws H3 c3 fl hl wl wd wn pu3 lc s3=>?_⟩;have a3:=ah.of a2 hp0 s3;refine⟨_,rfl,fun aD dx0 fa0 fd0 ne0=>⟨aD,dx0,1+r0,rfl,ae,by rw[ao ne0,ae],ne0,fun d H5 fd0' nd0 dk0 off0=>⟨rfl,?_⟩⟩⟩;have s5:ah H3 H5:=fun b o e=>off0 b o (aq e fa0) (by rw[ao (aq e fa0),ao (aq e fd0)];exact e);have a5:=a3.trans s5;refine fun kd fk=>?_;have nek:d≠kd:=fun z=>by
   obtain⟨_,_,q,_,_,e,_⟩:=dk0;rw[z,fk]at e;cases e
  have s6:ah H5 (upd H5 kd (.dK [])):=ah.new fk;have W0:CW K C (upd H5 kd (.dK [])) aD d kd l a (1+r0) ws ns [] [] 0:=⟨dk0.same s6,ae,.nil,fun p hp=>(by cases hp),Ms _,s6 _ _ (s5 _ _ hl),(a5.trans s6).seq hS,nek⟩;generalize upd H5 kd (.dK [])=H6 at W0⊢;clear s6 s5 a5 a3 a2 s1 s2 s3 fk fd0' off0 dk0 pu3 pu1 pu0 nek hl fl;refine⟨_,rfl,_,rfl,_,rfl,aD,d,l,kd,1+r0,[],ws,[],rfl,n1,n2,by simp,W0.good,W0.u3,W0.kept,W0.km,W0.Fb,by lia,wn,fun H7 s7=>⟨_,rfl,?_⟩⟩;have W1:=W0.same s7;refine bZ (by decide) ?_;refine⟨_,rfl,a,_,rfl,.inl W1.HR,_,_,rfl,_,_,rfl,_,_,rfl,?b1,eU (fun i σ H'=>(∃v1 v6 v7 v8 v9 v10,σ=[some (.ref a),v1,some (.int (1+r0)),some (.ref l),some (.ref aD),some (.ref kd),v6,v7,v8,v9,v10])/\∃m kvs,CW K C H' aD d kd l a (1+r0) ws ns m kvs (2*i)) ⟨⟨_,_,_,_,_,_,rfl⟩,[],[],W1⟩ ?_ ?_⟩
  case b1=>
   rw[LW];refine⟨by decide,by decide,?_,?_⟩<;>(split<;>(try split)<;>lia)
  .rintro i σ G1 hi ⟨⟨v1,v6,v7,v8,v9,v10,rfl⟩,m,kvs,W⟩
   have hi:i<15:=Mt hi (by rw[LW];split<;>(try split)<;>lia);refine⟨_,rfl,_,rfl,a,ns,_,rfl,W.HR,by lia,by lia,fun p G2 hp pu0 s1=>?_⟩;refine⟨_,rfl,_,rfl,_,rfl,_,rfl,G1,p,l,kd,0,1+r0,ws,kvs,m,rfl,s1,hp,pu0,by lia,n1,n2,W.Fb,wl,wd,wn,W.kept,W.km,W.good,fun lx xs G3 c3 hlx dx cx xl pu3 lc3 s3=>?_⟩;refine J0 ?_;dsimp only;refine iN (t:=vb _ _ _) (fun σ' H'=>∃(lx:MB)(xs:List V),σ'=[some (.ref a),some (.ref p),some (.int (1+r0)),some (.ref l),some (.ref aD),some (.ref kd),some (.int (1+(i:Int))),some (.ref lx),v8,v9,v10]/\ah G1 H'/\H' lx=some (.lst xs)/\qZ cl H' (1+r0) m xs/\xs.length<=2) (fun D' hD=>?_) ?_
   .obtain⟨ds,hds,lds,dds,ez⟩:=cx
    refine⟨_,rfl,Mw _,fun le fe=>?_⟩;have se:=ah.new (o:= .lst []) fe;have qe:upd G3 le (.lst []) le=some (.lst []):=ae;have s4:=s3.trans se;have q4:=se _ _ hlx;have d4:=qZ.same se dx;have pu4:=pu3.keep se;have hds4:=hds.keep (fun b o _ e=>se b o e);generalize upd G3 le (.lst [])=G4 at qe s4 q4 d4 pu4 hds4⊢;refine⟨fun _=>True,.list ds,.list [],.lst (aG.of q4) True.intro hds4,.lst (aG.of qe) True.intro .nil,by unfold PyData.canLay0;exact lds,rfl,by unfold PyData.depth;lia,_,rfl,?_⟩
    cases ds with
    |nil=>
     refine ki (by decide) ?_;refine⟨_,rfl,_,rfl,_,rfl,_,rfl,G1,p,l,kd,c3,1+r0,ws,kvs,m,rfl,s4,hp,pu4,by lia,n1,n2,W.Fb,wl,wn,W.kept,W.km,W.good,fun t G5 dt s5=>⟨by show 1<=MG;lia,fun lq fq=>?_⟩⟩;obtain⟨tx,nm,v,o,e1,e2,e3,e4,e5⟩:=dt;have sq:=ah.new (o:= .lst [V.ref t]) fq;exact hD _ _ ⟨lq,[.ref t],rfl,s5.trans sq,ae,⟨t,tx,nm,v,o,rfl,sq _ _ e1,e2,e3,e4,e5.same sq,True.intro⟩,by simp⟩
    |cons y yr=>
     refine bZ (by show¬(PyData.eqv (.list (y::yr)) (.list [])=true);simp[PyData.eqv,PyData.eqvAll]) ?_;exact hD _ _ ⟨lx,xs,rfl,s4,q4,d4,xl⟩
   rintro σ' G4 ⟨lx,xs,rfl,s4,q4,d4,xl⟩;have W4:=W.same s4;refine⟨_,rfl,lx,rfl,⟨_,aG.of q4⟩,ig (K:=K) (a:=lx) (xs:=xs) (fun j σ H'=>∃v8 v9 v10 m' kvs',σ=[some (.ref a),some (.ref p),some (.int (1+r0)),some (.ref l),some (.ref aD),some (.ref kd),some (.int (1+(i:Int))),some (.ref lx),v8,v9,v10]/\CW K C H' aD d kd l a (1+r0) ws ns m' kvs' (2*i+j)/\H' lx=some (.lst xs)/\qZ cl H' (1+r0) m' (xs.drop j)) ⟨_,_,_,m,kvs,rfl,W4,q4,d4⟩ (fun j σ H' _ q=>by
    obtain⟨_,_,_,_,_,_,_,q,_⟩:=q;exact aG.of q) ?_ ?_⟩
   .rintro j x σ H' hx ⟨v8',v9',v10',m',kvs',rfl,W',q',d'⟩
    have jl:=(List.getElem?_eq_some_iff.mp hx).1;have ex:xs.drop j=x::xs.drop (j+1):=by
     rw[List.drop_eq_getElem_cons jl];congr 1;have:=LZ jl;rw[hx]at this;exact(My this).symm
    rw[ex]at d';obtain⟨t,tx,nm,v,o,rfl,ht,tl,nn,ho,hd,rest⟩:=d';have ml:m'.length<=40:=by have:=W'.len;lia
    have mn:∀q∈m',q.1.length<=990:=fun q hq=>by have:=(W'.good q hq).2.2.2.1;lia
    have kl:kvs'.length=m'.length:=Paired.D8 W'.km;obtain⟨_,_,dq,_,_,hdq,_⟩:=id W'.u3;refine⟨t,_,rfl,dH.of ht,rfl,_,_,rfl,_,_,rfl,_,_,rfl,rfl,?_⟩;refine iN (t:=vb _ _ _) (fun σ' H'=>σ'=[some (.ref a),some (.ref p),some (.int (1+r0)),some (.ref l),some (.ref aD),some (.ref kd),some (.int (1+(i:Int))),some (.ref lx),some (.str tx),some (.str nm),some v]/\∃m2 kvs2,CW K C H' aD d kd l a (1+r0) ws ns m2 kvs2 (2*i+(j+1))/\H' lx=some (.lst xs)/\qZ cl H' (1+r0) m2 (xs.drop (j+1))) (fun D' hD=>?_) ?_
    .cases o with
     |ans _=>exact hd.elim
     |AG=>exact hd.elim
     |jK c=>
      obtain⟨ix,fl,rfl⟩:=hd;have al:iM K cl c ix:=by
       rcases fl with⟨rfl,rfl⟩|⟨rfl,rfl⟩|⟨rfl,rfl⟩
       .exact T.jf
       .exact T.u6
       .exact T.qN
      refine⟨_,rfl,_,"str","str",true,rfl,.str _,vW K "str",_,rfl,ki rfl ?_⟩;refine⟨_,rfl,_,rfl,aD,d,tx,1+r0,m',.jK c,rfl,tl,n1,n2,ml,mn,W'.u3,ho,ix,al,fun G s'=>⟨_,rfl,rfl,_,rfl,bZ (by simp) ?_⟩⟩;exact hD _ _ ⟨rfl,m',kvs',(W'.same s').mono (by lia),s' _ _ q',qZ.same s' rest⟩
     |put y R=>
      obtain⟨rfl,rv,gR,lR⟩:=hd;obtain⟨lv,ev,rfl,hlv,xv⟩:=id rv;refine⟨_,rfl,_,"list","str",false,rfl,.lst hlv,aT K (by decide+kernel),_,rfl,bZ (by decide) ?_⟩;refine⟨_,rfl,_,rfl,aD,d,tx,1+r0,m',.put y R,rfl,tl,n1,n2,ml,mn,W'.u3,ho,fun G dk off=>⟨rfl,_,rfl,bZ (by decide+kernel) ?_⟩⟩;have kG:G kd=some (.dK kvs'):=off _ _ W'.ne.symm W'.kept;refine⟨_,rfl,_,rfl,_,rfl,kd,_,rfl,uB.k (k:= .inr y) kG (by lia),?_⟩;have off2:∀b o,b≠kd->G b=some o->(upd G kd (.dK (putK kvs' (.inr y) (.ref lv)))) b=some o:=fun b o hb e=>by rw[ao hb];exact e
      refine⟨_,rfl,rfl,_,rfl,bZ (by simp) ?_⟩;have rG:=rv.off hdq off;exact hD _ _ ⟨rfl,kB m' y R,_,⟨dk.off kG W'.ne off2,ae,((W'.km.off hdq off).put rG).wF kG,W'.good.put nn gR lR,by have:=AZ m' y R;have:=W'.len;lia,fC (fC W'.Fb hdq off) kG off2,nY (nY W'.HR hdq off) kG off2,W'.ne⟩,fC (fC q' hdq off) kG off2,qZ.off kG off2 (qZ.off hdq off rest)⟩
     |del y=>
      obtain⟨rfl,rfl⟩:=hd;refine⟨_,rfl,_,"NoneType","str",false,rfl,.cE,aT K (by decide+kernel),_,rfl,bZ (by decide) ?_⟩;refine⟨_,rfl,_,rfl,aD,d,tx,1+r0,m',.del y,rfl,tl,n1,n2,ml,mn,W'.u3,ho,fun G dk off=>⟨rfl,_,rfl,bZ (by decide+kernel) ?_⟩⟩;have kG:G kd=some (.dK kvs'):=off _ _ W'.ne.symm W'.kept;refine⟨_,rfl,_,rfl,_,rfl,kd,_,rfl,uB.k (k:= .inr y) kG (by lia),?_⟩;refine⟨_,rfl,rfl,_,rfl,ki (by simp) ?_⟩;have vp:bV (putK kvs' (.inr y) .cE) (.inr y:Key)=some .cE:=by rw[kO,if_pos rfl]
      refine⟨_,rfl,kd,rfl,.inl ⟨_,.inl ae⟩,_,rfl,_,.inr y,.cE,ae,rfl,vp,?_⟩;rw[tN,BL];have off2:∀b o,b≠kd->G b=some o->(upd G kd (.dK (gA kvs' (.inr y)))) b=some o:=fun b o hb e=>by rw[ao hb];exact e
      exact hD _ _ ⟨rfl,lS m' y,_,⟨dk.off kG W'.ne off2,ae,(W'.km.off hdq off).drop.wF kG,W'.good.Jw y,by have:=zm m' y;have:=W'.len;lia,fC (fC W'.Fb hdq off) kG off2,nY (nY W'.HR hdq off) kG off2,W'.ne⟩,fC (fC q' hdq off) kG off2,qZ.off kG off2 (qZ.off hdq off rest)⟩
    rintro σ' G5 ⟨rfl,m2,kvs2,W2,q2,d2⟩;refine⟨_,rfl,_,rfl,_,rfl,aD,d,l,kd,1+r0,m2,ws,kvs2,rfl,n1,n2,by have:=W2.len;lia,W2.good,W2.u3,W2.kept,W2.km,W2.Fb,by lia,wn,fun G6 s6=>⟨_,rfl,bZ (by decide) ?_⟩⟩;exact⟨_,_,_,m2,kvs2,rfl,W2.same s6,s6 _ _ q2,qZ.same s6 d2⟩
   .rintro σ H' ⟨v8',v9',v10',m',kvs',rfl,W',_,_⟩
    exact⟨⟨_,_,_,_,_,_,rfl⟩,m',kvs',W'.mono (by lia)⟩
  .rintro σ H' ⟨⟨v1,v6,v7,v8,v9,v10,rfl⟩,_⟩
   exact k H'
end
structure K8(P:MD)(w:ME)(K:W.Frag)(mg:Str->Option MA)(base:MN):Prop extends T1 mg K where
 fI:FnAt P w K mg base "exchanged" 1 ["exchange","thing"] GO
section
variable{P:MD}{w:ME}{K:W.Frag}{mg:Str->Option MA}{base:MN}
theorem jL:aF ["order","row","leads","greater","lesser"] ["order"] (au (top 39)):=⟨rfl,rfl,rfl,by decide+kernel,rfl,by decide+kernel,by decide+kernel⟩
theorem Ep{f:MB}{fd:MM}(F:dJ K "home" "home" (top 39) f fd)(T:K8 P w K mg base):aS P w K mg base fQ 3 f fd ["order"] Cj:=by
 refine F.ok jL (fun vs H Q E h=>?_) (fun cdv A outer s H vs Q E hr h=>?_)
 .obtain⟨t,n,xs,rfl,_⟩:=h
  rfl
 .obtain⟨t,n,xs,rfl,ht,o,hn,k⟩:=h
  refine⟨_,(ag (aw (i:=1) jL.nd rfl (Or.inl rfl) (bf af))
   (ag (aw (i:=2) jL.nd rfl (Or.inl rfl) (aY (gU (K:=K) rfl) rfl T.mL (by decide+kernel) (aa (pv 0) af)))
   (ag (dE PassesOwn.never rfl (rX rfl T.bL (@aa _ _ _ _ _ (ar (aN (K:=K) rfl) rfl T.bP (by decide+kernel) (aa (pv 0) af)) (@aa _ _ _ _ _ ai (@aa _ _ _ _ _ (vR oz ai) af Fi) ju) cj)) (aC (i:=3) jL.nd rfl (Or.inr rfl)) (ag (aw (i:=4) jL.nd rfl (Or.inr rfl) (aO (ax (K:=K) rfl) (pv 2) (av cO (pv 3) ai) (fun _ _=>rfl)))
   (aj (aQ (aE gH (pv 4) (pv 3) (aH _)) (ag (dh (bD (K:=K) rfl PySem.F.plainAttrs_list PySem.F.slot_list_append PySem.F.type_list_append eV (pv 1) (aa (cp (aa (pv 4) (aa (pv 3) af))) af)))
   (aj (fu (i:=2) jL.nd rfl rfl (N:=(["thing","lesser","greater"]:List Str)) (ix:=([none,some 4,some 3]:List (Option Nat))) (aW rfl rfl) rfl (aU (K:=K) rfl (pv 2)) (fun _ _ _ _=>(aC (i:=0) (show List.Nodup (["thing","lesser","greater"]:List Str)from by decide+kernel) rfl (Or.inl rfl))) (fun _ _ _ _=>bg) (fun _ _ _ _=>(ak T.fI (hr.mono (by first|decide|lia)) rfl (aa (cp (aa (pv 1) (aa (pv 2) af))) (aa (pv 0) af))))))) aB))))
   (aj (aA (Di (pv 1))))))),?_⟩
  have ol:=o.length;have big:(100000:Nat)<=MG:=by decide
  refine⟨Mw _,fun l hl=>?_⟩;have s1:ah H (upd H l (.lst [])):=ah.new hl;refine⟨_,rfl,t,_,rfl,.inr (dH.of (s1 _ _ ht)),fun lv hlv=>?_⟩;have nlv:l≠lv:=by intro z;subst z;rw[ae]at hlv;cases hlv
  have s2:ah H (upd (upd H l (.lst [])) lv (.lst (xs.map V.int))):=s1.trans (ah.new hlv);refine⟨_,rfl,t,_,rfl,.inr (dH.of (s2 _ _ ht)),1,rfl,_,0,rfl,⟨by rw[LW];lia,by rw[LW];lia,by decide,by decide⟩,?_⟩;refine uK (fun i σ H'=>∃lv ys es row v3 v4,σ=[some (.ref t),some (.ref l),some (.ref lv),v3,v4]/\ah H H'/\l≠lv/\H' lv=some (.lst (ys.map V.int))/\H' l=some (.lst es)/\cP H' es row/\row.length<=i/\Ord n ys/\Fix n (xs.length-i) ys/\ja xs=fG (xs.length-i) ys++row.reverse)
   ⟨lv,xs,[],[],_,_,rfl,s2,nlv,ae,by rw[ao nlv,ae],.nil,Ms _,o,nR o,by rw[List.reverse_nil,Mo];rfl⟩ ?_ ?_
  .rintro i σ H' hi ⟨lv,ys,es,row,v3,v4,rfl,s3,nlv,h3,hl3,x3,rl,oy,fy,hm⟩
   rw[LW]at hi;have hi:i<xs.length:=by lia
   obtain⟨m,em⟩:∃m:Nat,xs.length-i=m+1:=⟨xs.length-i-1,by lia⟩;have eg:(((xs.map V.int).length:Int)-(i:Int))=(m:Int)+1:=by rw[LW];lia
   have em':xs.length-(i+1)=m:=by lia
   rw[em]at fy hm;have hmn:(m:Int)+1<=n:=by lia
   rw[eg];refine⟨_,rfl,_,rfl,_,_,rfl,rfl,lv,_,_,_,rfl,rfl,aG.of h3,fO (by lia) (iz oy (by lia) hmn),?_⟩;refine⟨_,rfl,_,rfl,rfl,_,rfl,dD (fun c=>?_) (fun c=>?_)⟩
   .have c:ld ys ((m:Int)+1)≠(m:Int)+1:=by simpa using c
    have lt:=iH oy fy hmn c;refine⟨_,rfl,.inl ⟨rfl,_,aG.of hl3⟩,_,rfl,_,rfl,(by show 2<=MG;decide),fun te hte=>?_⟩;have nlt:l≠te:=aq hl3 hte;have nvt:lv≠te:=aq h3 hte;have lx:=x3.length;refine⟨l,_,_,rfl,rfl,(by rw[ao nlt];exact hl3),by lia,?_⟩;have s4:ah H (upd (upd H' te (.tup [.int (ld ys ((m:Int)+1)),.int ((m:Int)+1)])) l (.lst (es++[.ref te]))):=fun b ob e=>by
     rw[ao (aq e hl),ao (aq (s3 b ob e) hte)];exact s3 b ob e
    have h4:upd (upd H' te (.tup [.int (ld ys ((m:Int)+1)),.int ((m:Int)+1)])) l (.lst (es++[.ref te])) lv=some (.lst (ys.map V.int)):=by
     rw[ao nlv.symm,ao nvt];exact h3
    have x4:cP (upd (upd H' te (.tup [.int (ld ys ((m:Int)+1)),.int ((m:Int)+1)])) l (.lst (es++[.ref te]))) (es++[.ref te]) (row++[(ld ys ((m:Int)+1),(m:Int)+1)]):=by
     refine cP.snoc (x3.keep fun b zs e=>?_) (by rw[ao nlt.symm,ae]);rw[ao (uq e hl3 (by intro z;cases z)),ao (aq e hte)];exact e
    have hl4:upd (upd H' te (.tup [.int (ld ys ((m:Int)+1)),.int ((m:Int)+1)])) l (.lst (es++[.ref te])) l=some (.lst (es++[.ref te])):=ae;generalize upd (upd H' te (.tup [.int (ld ys ((m:Int)+1)),.int ((m:Int)+1)])) l (.lst (es++[.ref te]))=H4 at s4 h4 x4 hl4⊢;have oyl:=oy.length;refine⟨_,rfl,lv,rfl,⟨_,aG.of h4⟩,gI (K:=K) (a:=lv) (xs:=ys.map V.int) (k:=0) (fun j zs σ' H''=>zs=((ys.take j).map fun x=>V.int (bw x (ld ys ((m:Int)+1),(m:Int)+1)))/\(∃v,σ'=[v,some (.int (ld ys ((m:Int)+1))),some (.int ((m:Int)+1))])/\ah H4 H'')
     (by rw[LW];lia) ⟨rfl,⟨none,rfl⟩,ah.refl _⟩ (fun j zs σ' H'' _ q=>aG.of (q.2.2 _ _ h4)) (fun j zs σ' H'' q=>by rw[q.1,LW,Ma];lia) ?_ ?_⟩
    .rintro j zs σ' H'' x R hx ⟨rfl,⟨v,rfl⟩,s5⟩ done
     obtain⟨z,rfl,hz⟩:=fY hx;refine⟨_,rfl,_,rfl,(by show 2<=MG;decide),fun t2 ht2=>⟨_,rfl,t2,_,_,z,rfl,ae,done _ _ _ ⟨?_,⟨_,rfl⟩,s5.trans (ah.new ht2)⟩⟩⟩;exact(aK (fun x=>V.int (bw x (ld ys ((m:Int)+1),(m:Int)+1))) hz).symm
    .rintro zs σ' H'' q ⟨rfl,⟨v,rfl⟩,s5⟩ hq
     have s6:=s5.trans (ah.new (o:= .lst ((ys.take (ys.map V.int).length).map fun x=>V.int (bw x (ld ys ((m:Int)+1),(m:Int)+1)))) hq);refine⟨q,ys.map (bw · (ld ys ((m:Int)+1),(m:Int)+1)),es++[.ref te],row++[(ld ys ((m:Int)+1),(m:Int)+1)],_,_,rfl,s4.trans s6,?_,?_,s6 _ _ hl4,x4.keep (ah.bI s6),?_,kL oy ⟨lt.1,lt.2,hmn⟩,?_,?_⟩
     .intro z;subst z;rw[s5 _ _ hl4]at hq;cases hq
     .rw[ae,Mi (by rw[LW];exact Ms _),Md]
      rfl
     .rw[LY,List.length_singleton];lia
     .rw[em'];exact jy oy fy hmn c
     .rw[em',hm,List.reverse_append]
      conv=>lhs;unfold fG
      rw[if_neg c,Mp];rfl
   .have c:ld ys ((m:Int)+1)=(m:Int)+1:=by simpa using c
    refine⟨lv,ys,es,row,_,_,rfl,s3,nlv,h3,hl3,x3,by lia,oy,?_,?_⟩
    .rw[em'];exact lK fy c
    .rw[em',hm]
     conv=>lhs;unfold fG
     rw[if_pos c]
  .rintro σ H' ⟨lv,ys,es,row,v3,v4,rfl,s3,nlv,h3,hl3,x3,rl,oy,fy,hm⟩
   refine⟨_,rfl,l,_,rfl,aG.of hl3,fun q hq=>?_⟩;have e0:xs.length-(((xs.map V.int).length:Int)-0).toNat=0:=by rw[LW];lia
   rw[e0]at hm;have s4:=s3.trans (ah.new (o:= .lst es.reverse) hq);refine k q es.reverse _ (s3.free hq) ae ?_ s4;rw[hm];exact(x3.keep (ah.bI (ah.new hq))).reverse
end
abbrev BO(x q:Str)(st:MQ)(ps:List Str):Prop:=∀(kV doc pm:MA)(an:Option MB)(cdv ct:MA),match ps with
 |[a]=>∀u,bindArgs (W.fnOf x q (e8 st) (de st) (au st) .none kV doc pm an cdv ct) ⟨[u],[]⟩=pure [(a,u)]
 |[a,b]=>∀u v,bindArgs (W.fnOf x q (e8 st) (de st) (au st) .none kV doc pm an cdv ct) ⟨[u,v],[]⟩=pure [(a,u),(b,v)]
 |[a,b,c]=>∀u v w,bindArgs (W.fnOf x q (e8 st) (de st) (au st) .none kV doc pm an cdv ct) ⟨[u,v,w],[]⟩=pure [(a,u),(b,v),(c,w)]
 |[a,b,c,d]=>∀u v w z,bindArgs (W.fnOf x q (e8 st) (de st) (au st) .none kV doc pm an cdv ct) ⟨[u,v,w,z],[]⟩=pure [(a,u),(b,v),(c,w),(d,z)]
 |_=>False
theorem BO.at {K:W.Frag}{x q:Str}{st:MQ}{f:MB}{fd:MM}{ps:List Str}(h:BO x q st ps)(F:dJ K x q st f fd):Binds K fd ps []:=F.binds fun kV doc pm an cdv ct us hl=>by
 have h:=h kV doc pm an cdv ct
 match ps,us,hl,h with
 |[a],[u],_,h=>exact h u
 |[a,b],[u,v],_,h=>exact h u v
 |[a,b,c],[u,v,w],_,h=>exact h u v w
 |[a,b,c,d],[u,v,w,z],_,h=>exact h u v w z
def zM(K:W.Frag)(x q:Str)(st:MQ)(f:MB):Prop:=∃(oc:MA)(od:Option MB)(kV doc pm:MA)(an:Option MB)(cdv ct:MA)(osl:Array (Option MA)),K.lookup f=some ⟨oc,od,.func (W.fnOf x q (e8 st) (de st) (au st) .none kV doc pm an cdv ct),osl⟩/\W.codeIn K cdv q=true/\W.keepIn K (.ref f)=true
theorem zM.fn {K:W.Frag}{x q:Str}{st:MQ}{f:MB}(d:zM K x q st f):∃fd,dJ K x q st f fd:=by
 obtain⟨oc,od,kV,doc,pm,an,cdv,ct,osl,l,c,k⟩:=d;exact⟨_,GV l c k⟩
def DF(K:W.Frag)(x:Str)(st:MQ)(f:MB):Prop:=W.nsIn K MH x=some (some (.ref f))/\zM K x x st f
def pC(K:W.Frag):List (Str×MQ×MB)->Prop
 |[]=>True
 |(x,st,f)::r=>DF K x st f/\pC K r
theorem pC.c {K:W.Frag}{x:Str}{st:MQ}{f:MB}{l:List (Str×MQ×MB)}(a:W.nsIn K MH x=some (some (.ref f)))(d:zM K x x st f)(r:pC K l):pC K ((x,st,f)::l):=⟨⟨a,d⟩,r⟩
def xj(K:W.Frag):List Str->Prop
 |[]=>True
 |x::r=>W.nsIn K MH x=some none/\xj K r
theorem xj.c {K:W.Frag}{x:Str}{l:List Str}(a:W.nsIn K MH x=some none)(r:xj K l):xj K (x::l):=⟨a,r⟩
def JK(mg:Str->Option MA):List Str->Prop
 |[]=>True
 |x::r=>mg x=none/\JK mg r
def A4(K:W.Frag)(C:MB)(x q:Str)(st:MQ):Prop:=∃f,Meth K C x f/\zM K x q st f
def Lm(K:W.Frag)(C:MB)(x q:Str)(st:MQ):Prop:=∃f,Mk K C f/\zM K x q st f
structure Gh(K:W.Frag)(cl:eX):Prop where
 c0:W.nsIn K MH "Unlike" =some (some (.ref cl.wD))
 c1:W.nsIn K MH "NoRounds" =some (some (.ref cl.kR))
 c2:W.nsIn K MH "Apart" =some (some (.ref cl.Apart))
 c3:W.nsIn K MH "NoMove" =some (some (.ref cl.cV))
 c4:W.nsIn K MH "NotLeast" =some (some (.ref cl.o6))
 c5:W.nsIn K MH "NotGreat" =some (some (.ref cl.pN))
 c6:W.nsIn K MH "NoTree" =some (some (.ref cl.xC))
 c7:W.nsIn K MH "NoCars" =some (some (.ref cl.wY))
 c8:W.nsIn K MH "NoChain" =some (some (.ref cl.sF))
 c9:W.nsIn K MH "NoBound" =some (some (.ref cl.cg))
 Lx:W.nsIn K MH "NoText" =some (some (.ref cl.gV))
 Lw:W.nsIn K MH "NoName" =some (some (.ref cl.cH))
 LN:W.nsIn K MH "StarError" =some (some (.ref cl.mz))
section
variable{P:MD}{w:ME}{K:W.Frag}{mg:Str->Option MA}{base:MN}{x q:Str}{st:MQ}{k:Nat}{ps:List Str}{sp:Sp}{f C:MB}{h:MN}{cl:eX}
theorem xj.at (X:K.In h)(G:h.Ns MH mg):∀{l:List Str},xj K l->JK mg l
 |[],_=>trivial
 |_::_,z=>⟨W.mg_none_of X G z.1,z.2.at X G⟩
theorem Gh.CS (X:K.In h)(G:h.Ns MH mg)(c:Gh K cl)(i:mg "isinstance" =none)(v:mg "ValueError" =none):Ld mg cl:=
 ⟨W.mg_of X G c.c0,W.mg_of X G c.c1,W.mg_of X G c.c2,W.mg_of X G c.c3,W.mg_of X G c.c4,W.mg_of X G c.c5,W.mg_of X G c.c6,W.mg_of X G c.c7,W.mg_of X G c.c8,W.mg_of X G c.c9,W.mg_of X G c.Lx,W.mg_of X G c.Lw,W.mg_of X G c.LN,i,v⟩
theorem gf{O:MB->MM->Prop}(X:K.In h)(G:h.Ns MH mg)(d:DF K x st f)(ok:∀{fd},dJ K x x st f fd->O f fd)(b:BO x x st ps:=by intro _ _ _ _ _ _;(repeat intro _);exact rfl):∃f fd,O f fd/\mg x=some (.ref f)/\W.keepIn K (.ref f)=true/\Binds K fd ps []:=by
 obtain⟨fd,F⟩:=d.2.fn;exact⟨f,fd,ok F,W.mg_of X G d.1,F.kp,b.at F⟩
theorem Le{CX:pY}(c:zZ K C)(d:A4 K C x q st)(ok:∀{f fd},dJ K x q st f fd->aS P w K mg base CX k f fd ps sp)(b:BO x q st ps:=by intro _ _ _ _ _ _;(repeat intro _);exact rfl):MethAt P w K mg base CX C x k ps sp:=by
 obtain⟨f,m,d⟩:=d;obtain⟨fd,F⟩:=d.fn;exact⟨c,f,fd,m,ok F,b.at F⟩
theorem J9{y:Str}(m:mg y=some (.ref C))(d:Lm K C x q st)(ok:∀{f fd},dJ K x q st f fd->aS P w K mg base fQ k f fd ps sp)(b:BO x q st ps:=by intro _ _ _ _ _ _;(repeat intro _);exact rfl):wH P w K mg base C y k ps sp:=by
 obtain⟨f,mk,d⟩:=d;obtain⟨fd,F⟩:=d.fn;exact⟨m,f,fd,mk,ok F,b.at F⟩
end
section
variable{P:MD}{w:ME}{K:W.Frag}{mg:Str->Option MA}{base:MN}{x q:Str}{st:MQ}{k:Nat}{ps:List Str}{sp:Sp}{f:MB}{fd:MM}
theorem Ks{CX:pY}(F:dJ K x q st f fd)(no:∀vs H Q E,sp vs H Q E->False):aS P w K mg base CX k f fd ps sp:=
 ⟨fun vs H Q E h=>(no vs H Q E h).elim,fun _ _ _ H _ _ vs Q E _ _ _ _ h=>(no vs H Q E h).elim⟩
theorem vq(d:DF K x st f)(h:k<=20)(ok:∀{fd},dJ K x x st f fd->iZ P w K mg base (lW P w) k f fd ["n","given"] sp)(b:BO x x st ["n","given"]:=by intro _ _ _ _ _ _;(repeat intro _);exact rfl):Eu P w K mg base 20 f sp:=by
 obtain⟨fd,F⟩:=d.2.fn;exact⟨⟨fd,_,(ok F).mono h,F.kp,b.at F⟩⟩
theorem oB(d:DF K x st f)(no:∀vs H Q E,sp vs H Q E->False)(b:BO x x st ["n","given"]:=by intro _ _ _ _ _ _;(repeat intro _);exact rfl):Eu P w K mg base 20 f sp:=by
 obtain⟨fd,F⟩:=d.2.fn;exact⟨⟨fd,_,(Ks (CX:=lW P w) (k:=20) F no).toQ,F.kp,b.at F⟩⟩
end
def xu(K:W.Frag)(p:Str×List Str)(q:Str×MB):Prop:=p.1=q.1/\p.2.length<=10/\∃(o:Obj)(its:Array MA)(n:Nat),K.lookup q.2=some o/\o.cls= .type "tuple"/\o.data= .seq its n/\its.size<=MG/\Vals (p.2.map V.str) its.toList
theorem vz{K:W.Frag}(w:Str):∀{ps:List (Str×List Str)}{qs:List (Str×MB)},Paired (xu K) ps qs->((ps.find? fun p=>p.1=w).map (·.2)=none/\tabOf qs w=none)\/∃xs b,(ps.find? fun p=>p.1=w).map (·.2)=some xs/\tabOf qs w=some b/\xs.length<=10/\∀H,dH K H b (xs.map V.str)
 |_,_,.nil=> .inl ⟨rfl,rfl⟩
 |_,_,.cons (a:=p) (b:=q) h r=>by
  by_cases c:p.1=w
  .refine .inr ⟨p.2,q.2,?_,?_,h.2.1,fun H=> .inr h.2.2⟩
   .rw[List.find?_cons_of_pos (by simpa using c)];rfl
   .unfold tabOf
    rw[List.find?_cons_of_pos (by rw[←h.1];simpa using c)];rfl
  .have e1:=vz w r
   unfold tabOf at e1⊢;rw[List.find?_cons_of_neg (by simpa using c),List.find?_cons_of_neg (by rw[←h.1];simpa using c)];exact e1
theorem rY{f:MB}{w:Str}:∀{qs:List (Str×MB)},tabOf qs w=some f->(w,f)∈qs
 |[],h=>by cases h
 |p::r,h=>by
  unfold tabOf at h;by_cases c:p.1=w
  .rw[List.find?_cons_of_pos (by simpa using c)]at h
   cases h;rw[←c];exact Mg
  .rw[List.find?_cons_of_neg (by simpa using c)]at h
   exact Mh _ (rY h)
theorem Kw{K:W.Frag}{x:Str}{ss:List Str}{b:MB}{its:Array MA}{n:Nat}{ps:List (Str×List Str)}{qs:List (Str×MB)}(h:K.lookup b=some {cls:= .type "tuple",data:= .seq its n})(l:ss.length<=10)(s:its.size<=MG)(v:Vals (ss.map V.str) its.toList)(r:Paired (xu K) ps qs):Paired (xu K) ((x,ss)::ps) ((x,b)::qs):= .cons ⟨rfl,l,_,its,n,h,rfl,rfl,s,v⟩ r
theorem rB{K:W.Frag}:∀{ps:List (Str×List Str)}{qs:List (Str×MB)},Paired (xu K) ps qs->qs.map (·.1)=ps.map (·.1)
 |_,_,.nil=>rfl
 |_,_,.cons h r=>by rw[L9,L9,rB r,h.1]
def zv(K:W.Frag)(pr:Params)(a:MB)(ps:List (Str×MB)):Prop:=(a==sysModules)=false/\∃(es:List DictEntry)(ep:Nat),K.lookup a=some {cls:= .type "dict",data:= .dict es.toArray ep}/\lP pr es ps
theorem zv.due {K:W.Frag}{pr:Params}{a:MB}{ps:List (Str×MB)}(h:zv K pr a ps)(t:Paired (xu K) Dx ps):KTab K pr a ps:=⟨h.1,by rw[rB t];decide+kernel,h.2⟩
theorem zv.ans {K:W.Frag}{pr:Params}{a:MB}{ps:List (Str×MB)}(h:zv K pr a ps)(t:ps.map (·.1)=o7):KTab K pr a ps:=⟨h.1,by rw[t];decide+kernel,h.2⟩
theorem z6{K:W.Frag}{okd:Str->Bool}{ans:Str->Int->List Wd->Option (Except MB Str)}{U:Str->Bool}{CT CN CB CM:MB}{due ansA:List (Str×MB)}(hd:Paired (xu K) Dx due)(ha:ansA.map (·.1)=o7):Js K (du okd ans U CT CN CB CM) due ansA:=
 ⟨fun w=>vz w hd,fun w=>by rw[DG,ha];rfl,fun n w x h=>by
  have h:cL n (LV "name") w=some x:=h;by_cases c:isNm w
  .exact⟨w,My (h.symm.trans (fJ c))⟩
  .unfold cL at h
   rw[if_neg (by decide+kernel),if_neg (by decide+kernel),if_neg (by decide+kernel),if_neg c]at h;cases h⟩
section
variable{P:MD}{w:ME}{K:W.Frag}{mg:Str->Option MA}{base:MN}
theorem pH:aF ["words"] ["words"] (au (top 95)):=⟨rfl,rfl,rfl,by decide+kernel,rfl,by decide+kernel,by decide+kernel⟩
theorem JH{f:MB}{fd:MM}(F:dJ K "with_commas" "with_commas" (top 95) f fd)(T:T1 mg K):aS P w K mg base fQ 1 f fd ["words"] Jj:=by
 refine F.ok pH (fun vs H Q E h=>?_) (fun cdv A outer s H vs Q E hr h=>?_)
 .obtain⟨l,ws,rfl,_⟩:=h
  rfl
 .obtain⟨l,ws,rfl,hl,h1,h2,k⟩:=h
  refine⟨_,(aj (aA (pq (aE bY (ar (aN (K:=K) rfl) rfl T.bP (by decide+kernel) (aa (pv 0) af)) ai (aH _)) az (bD (K:=K) rfl PySem.F.plainAttrs_str PySem.F.slot_str_join PySem.F.type_str_join (gb (K:=K) rfl) az (aa (pv 0) af))))),?_⟩;have js:JoinOk (LV ",") ws=true:=by
   have:=bK (z:=LV ",") (ts:=ws) (B:=990) (by decide+kernel) h2 (by decide) (by lia);exact this
  refine⟨_,rfl,l,_,rfl,.inl (aG.of hl),rfl,_,rfl,?_⟩;dsimp only;by_cases c:ws=[]
  .subst c
   rw[if_pos (by rfl)];unfold jC at k;rw[if_pos rfl]at k;exact k
  .rw[if_neg (by
    simp only[LW,decide_eq_true_eq,V.int.injEq];intro z;exact c (List.length_eq_zero_iff.mp (by lia)))]
   unfold jC at k;rw[if_neg c]at k;exact⟨rfl,_,rfl,_,l,ws,rfl,rfl,aG.of hl,js,k⟩
end
section
variable{P:MD}{w:ME}{K:W.Frag}{mg:Str->Option MA}{base:MN}
theorem cA:aF ["_law_order_here","_law_found","_law_met","_law_first","_law_some"] ["_law_order_here"] (au (top 120)):=⟨rfl,rfl,rfl,by decide+kernel,rfl,by decide+kernel,by decide+kernel⟩
theorem xJ{f:MB}{fd:MM}(F:dJ K "_law_rounds" "_law_rounds" (top 120) f fd)(T:T1 mg K):aS P w K mg base fQ 1 f fd ["_law_order_here"] fL:=by
 refine F.ok cA (fun vs H Q E h=>?_) (fun cdv A outer s H vs Q E hr h=>?_)
 .obtain⟨t,n,xs,rfl,_⟩:=h
  rfl
 .obtain⟨t,n,xs,rfl,ht,o,hn,k⟩:=h
  refine⟨_,(ag (aw (i:=1) cA.nd rfl (Or.inl rfl) (bf af))
   (ag (aw (i:=2) cA.nd rfl (Or.inl rfl) (bf af))
   (ag (dE PassesOwn.never rfl (jT rfl T.bL (aa ai (aa (av bp (ar (aN (K:=K) rfl) rfl T.bP (by decide+kernel) (aa (pv 0) af)) ai) af))) (aC (i:=3) cA.nd rfl (Or.inl rfl)) (aj (aQ (aE (zF (K:=K) rfl) (pv 3) (pv 2) rfl) (ag (aw (i:=4) cA.nd rfl (Or.inl rfl) (bf (aa (pv 3) af)))
   (ag (vB PassesOwn.never (aE gH (aO (jR (K:=K) rfl) (pv 0) (av cO (aO (ax (K:=K) rfl) (pv 4) (vR oz ai) (fun _ _=>rfl)) ai) (fun _ _=>rfl)) (pv 3) (aH _)) (aj (dh (bD (K:=K) rfl PySem.F.plainAttrs_list PySem.F.slot_list_append PySem.F.type_list_append eV (pv 4) (aa (aO (jR (K:=K) rfl) (pv 0) (av cO (aO (ax (K:=K) rfl) (pv 4) (vR oz ai) (fun _ _=>rfl)) ai) (fun _ _=>rfl)) af)))))
   (ag (aw (i:=2) cA.nd rfl (Or.inl rfl) (av dC (pv 2) (pv 4)))
   (aj (dh (bD (K:=K) rfl PySem.F.plainAttrs_list PySem.F.slot_list_append PySem.F.type_list_append eV (pv 1) (aa (pv 4) af))))))) aB)))
   (aj (aA (pv 1)))))),?_⟩
  have ol:=o.length;have big:(10000000:Nat)<=MG:=by decide
  refine⟨Mw _,fun lf hlf=>⟨Mw _,fun lm hlm=>?_⟩⟩;have nfm:lf≠lm:=by intro z;subst z;rw[ae]at hlm;cases hlm
  have s1:ah H (upd H lf (.lst [])):=ah.new hlf;have s2:=s1.trans (ah.new (o:= .lst []) hlm);refine⟨_,rfl,t,_,rfl,.inr (dH.of (s2 _ _ ht)),_,_,rfl,rfl,1,_,rfl,⟨by decide,by decide,by lia,by rw[LW];lia⟩,?_⟩;refine eU (fun i σ H'=>∃lm ws ms v3 v4,σ=[some (.ref t),some (.ref lf),some (.ref lm),v3,v4]/\ah H H'/\lf≠lm/\H' lf=some (.lst ws)/\H' lm=some (.lst (ms.map V.int))/\cW H' ws ((((eB 1 (n+1)).take i).filter (least xs)).map (gX xs))/\ij H ws/\V.ref lf∉ws/\ws.length<=i/\ms.length<=i*1000/\∀y,y∈ms↔∃m∈((eB 1 (n+1)).take i).filter (least xs),y∈gX xs m)
   ⟨lm,[],[],_,_,rfl,s2,nfm,by rw[ao nfm,ae],ae,.nil,ij.nil,by simp,Ms _,Ms _,by intro y;simp⟩ ?_ ?_
  .rintro i σ H' hi ⟨lm,ws,ms,v3,v4,rfl,s3,nfm,hf3,hm3,x3,fr3,nf3,wl,ml,mm⟩
   rw[LW]at hi;have hi':(i:Int)<n:=by lia
   have ef:((eB 1 (n+1)).take (i+1))=(eB 1 (n+1)).take i++[1+(i:Int)]:=by rw[Mq,gJ (by lia)];rfl
   have b1:(1:Int)<=1+i:=by lia
   have b2:(1:Int)+i<=n:=by lia
   have ml2:=zG o hi';refine⟨_,rfl,_,rfl,lm,_,rfl,.inl (aG.of hm3),rfl,sh ms,_,rfl,?_⟩;show if(!BI (.int (1+(i:Int))) (ms.map V.int))=true then _ else _
   rw[yz];refine dD (fun c=>?_) (fun c=>?_)
   .have c:¬(1+(i:Int))∈ms:=by simpa using c
    have hL:least xs (1+i)=true:=ml2.mpr (fun z=>c ((mm _).mpr z));refine⟨_,rfl,(by show 1<=MG;decide),fun la hla=>?_⟩;have fla:H la=none:=s3.free hla;have nfa:lf≠la:=aq hf3 hla;have nma:lm≠la:=aq hm3 hla;have pl:=xa o b1 b2;have naw:V.ref la∉ws:=fun z=>by
     obtain⟨ns,e⟩:=x3.mem z;rw[hla]at e;cases e
    refine⟨fun m σ H2=>∃j,m=gC xs (1+i)-j/\1<=j/\j<=gC xs (1+i)/\σ=[some (.ref t),some (.ref lf),some (.ref lm),some (.int (1+(i:Int))),some (.ref la)]/\H2=upd H' la (.lst (((List.range j).map fun k=>cJ (ld xs) k (1+i)).map V.int)),⟨_,1,rfl,Ms _,by unfold gC;lia,rfl,rfl⟩,?_⟩;rintro m σ H2 ⟨j,rfl,j1,j2,rfl,rfl⟩;have ir:=cY o b1 b2 (j-1);have s4:ah H (upd H' la (.lst (((List.range j).map fun k=>cJ (ld xs) k (1+i)).map V.int))):=ah.put s3 fla;have gl:m9 (((List.range j).map fun k=>cJ (ld xs) k (1+(i:Int))).map V.int) (-1)=some (.int (cJ (ld xs) (j-1) (1+i))):=by
     refine Df (k:=j-1) (by rw[LW,List.length_range];lia) ?_;rw[LX,List.getElem?_range (by lia)];rfl
    have gt:m9 (xs.map V.int) (cJ (ld xs) (j-1) (1+i)-1)=some (.int (cJ (ld xs) j (1+i))):=by
     have q:=fO (ns:=xs) (i:=cJ (ld xs) (j-1) (1+i)-1) (by lia) (iz o ir.1 ir.2);rw[q];obtain⟨j',rfl⟩:∃j',j=j'+1:=⟨j-1,by lia⟩;rfl
    refine⟨_,rfl,_,rfl,1,rfl,la,_,_,_,rfl,rfl,aG.of ae,gl,_,_,rfl,rfl,t,_,_,_,rfl,rfl,dH.of (s4 _ _ ht),gt,_,rfl,rfl,_,rfl,dD (fun c2=>?_) (fun c2=>?_)⟩
    .have c2:cJ (ld xs) j (1+i)≠1+(i:Int):=by simpa using c2
     have lt:j<gC xs (1+i):=by
      by_cases e:j=gC xs (1+i)
      .rw[e]at c2;exact absurd (n6 o b1 b2) c2
      .lia
     refine⟨fun σ' H2=>σ'=[some (.ref t),some (.ref lf),some (.ref lm),some (.int (1+(i:Int))),some (.ref la)]/\H2=upd H' la (.lst (((List.range (j+1)).map fun k=>cJ (ld xs) k (1+i)).map V.int)),fun σ' H2 ⟨e1,e2⟩=>⟨_,(by show gC xs (1+i)-(j+1)<_;lia),j+1,rfl,by lia,by lia,e1,e2⟩,?_⟩;refine⟨_,rfl,.inl ⟨rfl,_,aG.of ae⟩,_,rfl,_,rfl,1,rfl,la,_,_,_,rfl,rfl,aG.of ae,gl,_,_,rfl,rfl,t,_,_,_,rfl,rfl,dH.of (s4 _ _ ht),gt,la,_,_,rfl,rfl,ae,by simp;lia,rfl,?_⟩;rw[tN,List.range_succ,L7,L7];rfl
    .have c2:cJ (ld xs) j (1+i)=1+(i:Int):=by simpa using c2
     have e:j=gC xs (1+i):=by
      apply Classical.byContradiction;intro z;exact xq (by lia) (by lia) c2
     subst e;have hla4:upd H' la (.lst (((List.range (gC xs (1+i))).map fun k=>cJ (ld xs) k (1+i)).map V.int)) la=some (.lst ((gX xs (1+i)).map V.int)):=ae;have hf4:upd H' la (.lst (((List.range (gC xs (1+i))).map fun k=>cJ (ld xs) k (1+i)).map V.int)) lf=some (.lst ws):=by rw[ao nfa];exact hf3
     have hm4:upd H' la (.lst (((List.range (gC xs (1+i))).map fun k=>cJ (ld xs) k (1+i)).map V.int)) lm=some (.lst (ms.map V.int)):=by rw[ao nma];exact hm3
     have x4:=x3.keep (ah.new (o:= .lst (((List.range (gC xs (1+i))).map fun k=>cJ (ld xs) k (1+i)).map V.int)) hla);generalize upd H' la (.lst (((List.range (gC xs (1+i))).map fun k=>cJ (ld xs) k (1+i)).map V.int))=H4 at s4 hla4 hf4 hm4 x4⊢;have ol2:=iI xs (1+i);refine⟨_,rfl,_,rfl,lm,la,_,_,rfl,rfl,hm4,hla4,by rw[LW,LW];lia,fun l5 f5=>?_⟩;have nf5:lf≠l5:=aq hf4 f5;refine⟨_,rfl,.inl ⟨rfl,_,aG.of (by rw[ao nf5];exact hf4)⟩,_,rfl,lf,_,_,rfl,rfl,(by rw[ao nf5];exact hf4),by lia,?_⟩;have s5:=s4.trans (ah.new (o:= .lst (ms.map V.int++(gX xs (1+i)).map V.int)) f5);refine⟨l5,ws++[.ref la],ms++gX xs (1+i),_,_,rfl,ah.put s5 hlf,nf5,ae,?_,?_,fr3.snoc x3 hla fla,?_,?_,?_,?_⟩
     .rw[ao nf5.symm,ae,L7]
     .rw[ef,List.filter_append,L7,List.filter_cons_of_pos hL]
      refine cW.off ((x4.keep (ah.new f5)).snoc (by rw[ao (aq hla4 f5)];exact hla4)) ?_;intro z;rcases List.mem_append.mp z with z|z
      .exact nf3 z
      .exact nfa (by simpa using z)
     .intro z
      rcases List.mem_append.mp z with z|z
      .exact nf3 z
      .exact nfa (by simpa using z)
     .rw[LY,List.length_singleton];lia
     .rw[LY];lia
     .intro y
      rw[ef,List.filter_append,List.filter_cons_of_pos hL,List.filter_nil,List.mem_append,mm];constructor
      .rintro(⟨m,h1,h2⟩|h)
       .exact⟨m,Ml _ h1,h2⟩
       .exact⟨1+i,Mj _ (List.mem_singleton.mpr rfl),h⟩
      .rintro⟨m,h1,h2⟩
       rcases List.mem_append.mp h1 with z|z
       .exact .inl ⟨m,z,h2⟩
       .rw[List.mem_singleton.mp z]at h2;exact .inr h2
   .have c:(1+(i:Int))∈ms:=by simpa using c
    have hL:least xs (1+i)=false:=by
     cases e:least xs (1+(i:Int))with
     |false=>rfl
     |true=>exact absurd ((mm _).mp c) (ml2.mp e)
    have e2:((eB 1 (n+1)).take (i+1)).filter (least xs)=((eB 1 (n+1)).take i).filter (least xs):=by
     rw[ef,List.filter_append,List.filter_cons_of_neg (by rw[hL];decide),List.filter_nil,Mo]
    refine⟨lm,ws,ms,_,_,rfl,s3,nfm,hf3,hm3,?_,fr3,nf3,by lia,by lia,?_⟩
    .rw[e2];exact x3
    .rw[e2];exact mm
  .rintro σ H' ⟨lm,ws,ms,v3,v4,rfl,s3,nfm,hf3,hm3,x3,fr3,nf3,wl,ml,mm⟩
   have e3:(eB 1 (n+1)).take (((xs.map V.int).length:Int)+1-1).toNat=eB 1 (n+1):=Mi (by rw[a8,LW];lia);rw[e3]at x3;exact⟨_,rfl,k lf ws H' hlf hf3 x3 fr3 nf3 s3⟩
end
structure TC(P:MD)(w:ME)(K:W.Frag)(mg:Str->Option MA)(base:MN):Prop extends T1 mg K where
 bU:FnAt P w K mg base "is_between" 2 ["thing","low","high"] Hi
structure TM(P:MD)(w:ME)(K:W.Frag)(mg:Str->Option MA)(base:MN):Prop extends T1 mg K where
 m8:mg "enumerate" =none
 yF:FnAt P w K mg base "plain" 1 ["n"] yW
 ji:FnAt P w K mg base "check_rounds" 3 ["n","lists"] yO
section
variable{P:MD}{w:ME}{K:W.Frag}{mg:Str->Option MA}{base:MN}
theorem dQ:aF ["n","lists","seen","things","thing"] ["n","lists"] (au (top 26)):=⟨rfl,rfl,rfl,by decide+kernel,rfl,by decide+kernel,by decide+kernel⟩
theorem BB{f:MB}{fd:MM}(F:dJ K "check_rounds" "check_rounds" (top 26) f fd)(T:TC P w K mg base):aS P w K mg base fQ 3 f fd ["n","lists"] yO:=by
 refine F.ok dQ (fun vs H Q E h=>?_) (fun cdv A outer s H vs Q E hr h=>?_)
 .obtain⟨n,l,ws,rs,rfl,_⟩:=h
  rfl
 .obtain⟨n,l,ws,rs,rfl,hl,hx,hwl,hr1,hnd,k⟩:=h
  refine⟨_,(ag (aw (i:=2) dQ.nd rfl (Or.inl rfl) (bf af))
   (aj (dE PassesOwn.never rfl (aU (K:=K) rfl (pv 1)) (aC (i:=3) dQ.nd rfl (Or.inl rfl)) (ag (aQ (aE bY (ar (aN (K:=K) rfl) rfl T.bP (by decide+kernel) (aa (pv 3) af)) ai (aH _)) (aj dF) aB)
   (aj (dE PassesOwn.never rfl (aU (K:=K) rfl (pv 3)) (aC (i:=4) dQ.nd rfl (Or.inl rfl)) (ag (aQ (eL (eI (ak T.bU (hr.mono (by first|decide|lia)) rfl (@aa _ _ _ _ _ (pv 4) (@aa _ _ _ _ _ ai (@aa _ _ _ _ _ (pv 0) af aL) ju) aL)))) (aj dF) aB)
   (ag (aQ (aE (wC (K:=K) rfl) (pv 4) (pv 2) rfl) (aj dF) aB)
   (aj (dh (bD (K:=K) rfl PySem.F.plainAttrs_list PySem.F.slot_list_append PySem.F.type_list_append eV (pv 2) (aa (pv 4) af)))))))))))),?_⟩
  have big:(10000000:Nat)<=MG:=by decide
  refine⟨Mw _,fun ls hls=>?_⟩;have wl:=hx.length;have s1:ah H (upd H ls (.lst [])):=ah.new hls;refine⟨_,rfl,l,rfl,⟨_,aG.of (s1 _ _ hl)⟩,ig (K:=K) (a:=l) (xs:=ws) (fun i σ H'=>(∃v3 v4,σ=[some (.int n),some (.ref l),some (.ref ls),v3,v4])/\ah H H'/\H' ls=some (.lst ((rs.take i).flatten.map V.int))/\(rs.take i).flatten.length<=1000*i)
   ⟨⟨_,_,rfl⟩,s1,ae,Mw _⟩ (fun i σ H' _ q=>aG.of (q.2.1 _ _ hl)) ?_ ?_⟩
  .rintro i x σ H' hi ⟨⟨v3,v4,rfl⟩,s2,h2,l2⟩
   obtain⟨a,r,rfl,ha,hrr⟩:=hx.get hi;obtain⟨rn,rl,rb⟩:=hr1 r (Mf hrr);have rpos:0<r.length:=List.length_pos_iff.mpr rn;have ilt:i<ws.length:=(List.getElem?_eq_some_iff.mp hi).1;have et:rs.take (i+1)=rs.take i++[r]:=by rw[Mq,hrr];rfl
   have nd2:((rs.take i).flatten++r).Nodup:=by
    have:=hnd;rw[←List.take_append_drop (i+1) rs,List.flatten_append]at this;have:=this.sublist (List.sublist_append_left _ _);rw[et,List.flatten_append,List.flatten_cons,List.flatten_nil,Mo]at this;exact this
   refine⟨_,rfl,a,_,rfl,.inl (aG.of (s2 _ _ ha)),rfl,_,rfl,jW (decide_eq_false (by rw[LW];intro z;have:=V.int.inj z;lia)) ?_⟩;refine⟨_,rfl,a,rfl,⟨_,aG.of (s2 _ _ ha)⟩,ig (K:=K) (a:=a) (xs:=r.map V.int) (fun j σ H'=>(∃v4,σ=[some (.int n),some (.ref l),some (.ref ls),some (.ref a),v4])/\ah H H'/\H' ls=some (.lst (((rs.take i).flatten++r.take j).map V.int)))
    ⟨⟨_,rfl⟩,s2,by rw[List.take_zero,Mo];exact h2⟩ (fun j σ H' _ q=>aG.of (q.2.1 _ _ ha)) ?_ ?_⟩
   .rintro j x σ H3 hj ⟨⟨v4,rfl⟩,s3,h3⟩
    obtain⟨z,rfl,hz⟩:=fY hj;have zb:=rb z (Mf hz);have jlt:j<r.length:=(List.getElem?_eq_some_iff.mp hz).1;have etj:r.take (j+1)=r.take j++[z]:=by rw[Mq,hz];rfl
    refine⟨_,rfl,_,rfl,z,1,n,rfl,_,rfl,jW (by rw[decide_eq_true ⟨zb.1,zb.2⟩];rfl) ?_⟩;have nin:z∉(rs.take i).flatten++r.take j:=by
     have:((rs.take i).flatten++r.take (j+1)).Nodup:=nd2.sublist (List.Sublist.append (List.Sublist.refl _) (List.take_sublist _ _));rw[etj,←Mp]at this;have:=(List.nodup_append.mp this).2.2;intro hz2;exact this z hz2 z (List.mem_singleton.mpr rfl) rfl
    refine⟨_,rfl,_,rfl,ls,_,rfl,.inl (aG.of h3),rfl,sh _,_,rfl,jW (by show BI _ _=false;rw[yz];exact decide_eq_false nin) ?_⟩;refine⟨_,rfl,.inl ⟨rfl,_,aG.of h3⟩,_,rfl,ls,_,_,rfl,rfl,h3,?_,⟨_,rfl⟩,ah.put s3 hls,?_⟩
    .rw[LW,LY,Ma]
     have:1000*i<=1000*1000:=Nat.mul_le_mul_left _ (by lia);lia
    .rw[ae,etj,←Mp,L7 (l₂:=[z])]
     rfl
   .rintro σ H3 ⟨⟨v4,rfl⟩,s3,h3⟩
    rw[LW,List.take_length]at h3;refine⟨⟨_,_,rfl⟩,s3,?_,?_⟩
    .rw[et,List.flatten_append,List.flatten_cons,List.flatten_nil,Mo];exact h3
    .rw[et,List.flatten_append,List.flatten_cons,List.flatten_nil,Mo,LY];lia
  .rintro σ H' ⟨⟨v3,v4,rfl⟩,s2,h2,_⟩
   exact k H' s2
theorem kP:aF ["n","lists","leads","things","at","thing"] ["n","lists"] (au (top 27)):=⟨rfl,rfl,rfl,by decide+kernel,rfl,by decide+kernel,by decide+kernel⟩
theorem EA{f:MB}{fd:MM}(F:dJ K "made" "made" (top 27) f fd)(T:TM P w K mg base):aS P w K mg base fQ 4 f fd ["n","lists"] AN:=by
 refine F.ok kP (fun vs H Q E h=>?_) (fun cdv A outer s H vs Q E hr h=>?_)
 .obtain⟨n,l,ws,rs,xs,rfl,_⟩:=h
  rfl
 .obtain⟨n,l,ws,rs,xs,rfl,n0,n1,hl,hx,hwl,hrl,hxl,hR,k⟩:=h
  refine⟨_,(ag (dh (ak T.ji (hr.mono (by first|decide|lia)) rfl (aa (pv 0) (aa (pv 1) af))))
   (ag (aw (i:=2) kP.nd rfl (Or.inl rfl) (aY (gU (K:=K) rfl) rfl T.mL (by decide+kernel) (aa (ak T.yF (hr.mono (by first|decide|lia)) rfl (aa (pv 0) af)) af)))
   (ag (dE PassesOwn.never rfl (aU (K:=K) rfl (pv 1)) (aC (i:=3) kP.nd rfl (Or.inl rfl)) (aj (dE PassesOwn.never rfl (Cy (K:=K) rfl rfl T.m8 (aa (pv 3) af)) (eG (K:=K) (n:=2) rfl rfl (bh (aC (i:=4) kP.nd rfl (Or.inl rfl)) (bh (aC (i:=5) kP.nd rfl (Or.inl rfl)) eC))) (aj (mB (aO (ax (K:=K) rfl) (pv 3) (av dU (av bp (pv 4) ai) (ar (aN (K:=K) rfl) rfl T.bP (by decide+kernel) (aa (pv 3) af))) (fun _ _=>rfl)) (oY (pv 2) (av cO (pv 5) ai) set_list))))))
   (aj (aA (aY (cB (K:=K) rfl) rfl T.gj (by decide+kernel) (aa (pv 2) af))))))),?_⟩
  have big:(10000000:Nat)<=MG:=by decide
  have rin:∀r∈rs,∀x∈r,1<=x/\x<=n:=fun r hr x hx=>by
   obtain⟨j,hj,e⟩:=List.mem_iff_getElem.mp hx;have:=(hR.HW r hr).2 j x (by rw[LZ hj,e]);exact⟨this.1,this.2.1⟩
  refine⟨_,rfl,_,rfl,n,l,ws,rs,rfl,hl,hx,hwl,fun r hr=>⟨(hR.HW r hr).1,hrl r hr,rin r hr⟩,hR.nd,fun H1 s1=>?_⟩;refine⟨_,rfl,n,rfl,n0,n1,fun t H2 ft ht s2=>⟨t,_,rfl,.inr (dH.of ht),fun lv hlv=>?_⟩⟩;have s3:=(s1.trans s2).trans (ah.new (o:= .lst ((eB 1 (n+1)).map V.int)) hlv);have flv:H lv=none:=(s1.trans s2).free hlv;have pl0:∀x,1<=x->x<=n->ld (eB 1 (n+1)) x=x:=fun x a b=>(A8 n).rest x a b (by simp);refine⟨_,rfl,l,rfl,⟨_,aG.of (s3 _ _ hl)⟩,ig (K:=K) (a:=l) (xs:=ws) (fun i σ H'=>(∃v3 v4 v5,σ=[some (.int n),some (.ref l),some (.ref lv),v3,v4,v5])/\ah H H'/\∃ls,H' lv=some (.lst (ls.map V.int))/\ls.length=n.toNat/\∀x,1<=x->x<=n->ld ls x=if x∈(rs.take i).flatten then ld xs x else x)
   ⟨⟨_,_,_,rfl⟩,s3,eB 1 (n+1),ae,by rw[a8];lia,fun x a b=>by simp[pl0 x a b]⟩ (fun i σ H' _ q=>aG.of (q.2.1 _ _ hl)) ?_ ?_⟩
  .rintro i x σ H' hi ⟨⟨v3,v4,v5,rfl⟩,s4,ls,h4,l4,e4⟩
   obtain⟨a,r,rfl,ha,hrr⟩:=hx.get hi;have HW:=hR.HW r (Mf hrr);have rl:=hrl r (Mf hrr);have et:rs.take (i+1)=rs.take i++[r]:=by rw[Mq,hrr];rfl
   refine⟨_,rfl,a,_,rfl,aG.of (s4 _ _ ha),zq (K:=K) (a:=a) (xs:=r.map V.int) (fun j σ H'=>(∃v4 v5,σ=[some (.int n),some (.ref l),some (.ref lv),some (.ref a),v4,v5])/\ah H H'/\∃ls,H' lv=some (.lst (ls.map V.int))/\ls.length=n.toNat/\∀x,1<=x->x<=n->ld ls x=if x∈(rs.take i).flatten++r.take j then ld xs x else x)
    ⟨⟨_,_,rfl⟩,s4,ls,h4,l4,by rw[List.take_zero,Mo];exact e4⟩ (fun j σ H' _ q=>aG.of (q.2.1 _ _ ha)) ?_ ?_⟩
   .rintro j σ H5 tt v hv ⟨⟨v4,v5,rfl⟩,s5,ls,h5,l5,e5⟩ ftt
    obtain⟨z,rfl,hz⟩:=fY hv;obtain⟨z1,z2,z3⟩:=HW.2 j z hz;have jlt:j<r.length:=(List.getElem?_eq_some_iff.mp hz).1;have etj:r.take (j+1)=r.take j++[z]:=by rw[Mq,hz];rfl
    have st:ah H5 (upd H5 tt (.tup [.int (j:Int),.int z])):=ah.new ftt;have lpos:(0:Int)<((r.map V.int).length:Int):=by rw[LW];lia
    have em:((j:Int)+1)%((r.map V.int).length:Int)=(((j+1)%r.length:Nat):Int):=by rw[LW];rfl
    have hat:m9 (r.map V.int) (((j:Int)+1)%((r.map V.int).length:Int))=some (.int (ld xs z)):=by
     rw[em];exact aR (by rw[LX,z3];rfl)
    refine⟨tt,_,rfl,dH.of ae,rfl,_,_,rfl,_,_,rfl,rfl,?_⟩;refine⟨_,rfl,_,rfl,_,_,rfl,rfl,_,rfl,a,_,rfl,.inl (aG.of (st _ _ (s5 _ _ ha))),_,_,rfl,rfl,lpos,a,_,_,_,rfl,rfl,aG.of (st _ _ (s5 _ _ ha)),hat,?_⟩;refine⟨_,rfl,_,rfl,_,_,rfl,rfl,lv,_,_,(z-1).toNat,rfl,rfl,st _ _ h5,o4 (by lia) (by rw[LW];lia),?_⟩;refine⟨⟨_,_,rfl⟩,ah.put (s5.trans st) flv,ls.set (z-1).toNat (ld xs z),by rw[ae,List.map_set],by rw[List.length_set];exact l5,fun y y1 y2=>?_⟩;rw[etj,←Mp];unfold ld at e5⊢;rw[Me (l:=ls.set _ _)];by_cases ey:y=z
    .subst ey
     rw[List.getElem?_set_self (by lia),if_pos (by simp)];rfl
    .rw[List.getElem?_set_ne (by lia),←Me,e5 y y1 y2]
     have:(y∈(rs.take i).flatten++r.take j++[z])↔(y∈(rs.take i).flatten++r.take j):=by
      rw[List.mem_append (t:=[z])];simp[ey]
     simp only[this]
   .rintro σ H5 ⟨⟨v4,v5,rfl⟩,s5,ls,h5,l5,e5⟩
    rw[LW,List.take_length]at e5;refine⟨⟨_,_,_,rfl⟩,s5,ls,h5,l5,?_⟩;rw[et,List.flatten_append,List.flatten_cons,List.flatten_nil,Mo];exact e5
  .rintro σ H' ⟨⟨v3,v4,v5,rfl⟩,s4,ls,h4,l4,e4⟩
   rw[Mi (by rw[hx.length];exact Ms _)]at e4;have e:ls=xs:=yx l4 hxl fun x a b=>by
    rw[e4 x a b]
    split
    .rfl
    .rename_i h;exact(hR.rest x a b h).symm
   subst e;refine⟨_,rfl,lv,_,rfl,.inl ⟨aG.of h4,fun t2 ft2=>?_⟩⟩;exact k t2 _ (s4.free ft2) ae (s4.trans (ah.new ft2))
end
structure K9(P:MD)(w:ME)(K:W.Frag)(mg:Str->Option MA)(base:MN):Prop extends T1 mg K where
 fV:mg "min" =none
 kU:FnAt P w K mg base "round_from" 1 ["order","first"] Jl
section
variable{P:MD}{w:ME}{K:W.Frag}{mg:Str->Option MA}{base:MN}
theorem fz:aF ["order","first","found","thing"] ["order","first"] (au (top 23)):=⟨rfl,rfl,rfl,by decide+kernel,rfl,by decide+kernel,by decide+kernel⟩
theorem IX{f:MB}{fd:MM}(F:dJ K "round_from" "round_from" (top 23) f fd):aS P w K mg base fQ 1 f fd ["order","first"] Jl:=by
 refine F.ok fz (fun vs H Q E h=>?_) (fun cdv A outer s H vs Q E hr h=>?_)
 .obtain⟨t,n,x,xs,rfl,_⟩:=h
  rfl
 .obtain⟨t,n,x,xs,rfl,ht,o,hn,x1,x2,k⟩:=h
  refine⟨_,(ag (aw (i:=2) fz.nd rfl (Or.inl rfl) (bf (aa (pv 1) af)))
   (ag (aw (i:=3) fz.nd rfl (Or.inl rfl) (aO (jR (K:=K) rfl) (pv 0) (av cO (pv 1) ai) (fun _ _=>rfl)))
   (ag (vB PassesOwn.never (aE gH (pv 3) (pv 1) (aH _)) (ag (dh (bD (K:=K) rfl PySem.F.plainAttrs_list PySem.F.slot_list_append PySem.F.type_list_append eV (pv 2) (aa (pv 3) af)))
   (aj (aw (i:=3) fz.nd rfl (Or.inl rfl) (aO (jR (K:=K) rfl) (pv 0) (av cO (pv 3) ai) (fun _ _=>rfl))))))
   (aj (aA (pv 2)))))),?_⟩
  have ol:=o.length;have big:(100000:Nat)<=MG:=by decide
  refine⟨_,rfl,(by show 1<=MG;decide),fun l hl=>?_⟩;have s1:ah H (upd H l (.lst [V.int x])):=ah.new hl;refine⟨_,rfl,_,rfl,_,_,rfl,rfl,t,_,_,_,rfl,rfl,dH.of (s1 _ _ ht),fO (by lia) (iz o x1 x2),?_⟩;refine⟨fun m σ H'=>∃i,m=gC xs x-i/\1<=i/\i<=gC xs x/\σ=[some (.ref t),some (.int x),some (.ref l),some (.int (cJ (ld xs) i x))]/\ah H H'/\H' l=some (.lst (((List.range i).map fun k=>cJ (ld xs) k x).map V.int)),⟨_,1,rfl,Ms _,by unfold gC;lia,rfl,s1,ae⟩,?_⟩;rintro m σ H' ⟨i,rfl,i1,i2,rfl,s2,h2⟩;have pl:=xa o x1 x2;have ir:=cY o x1 x2 i;refine⟨_,rfl,_,rfl,rfl,_,rfl,dD (fun c=>?_) (fun c=>?_)⟩
  .have c:cJ (ld xs) i x≠x:=by simpa using c
   have lt:i<gC xs x:=by
    by_cases e:i=gC xs x
    .rw[e]at c;exact absurd (n6 o x1 x2) c
    .lia
   refine⟨fun σ' H'=>σ'=[some (.ref t),some (.int x),some (.ref l),some (.int (cJ (ld xs) (i+1) x))]/\ah H H'/\H' l=some (.lst (((List.range (i+1)).map fun k=>cJ (ld xs) k x).map V.int)),fun σ' H' ⟨e1,e2,e3⟩=>⟨_,(by show gC xs x-(i+1)<_;lia),i+1,rfl,by lia,by lia,e1,e2,e3⟩,?_⟩;refine⟨_,rfl,.inl ⟨rfl,_,aG.of h2⟩,_,rfl,l,_,_,rfl,rfl,h2,by simp;lia,?_⟩;have s3:ah H (upd H' l (.lst (((List.range i).map fun k=>cJ (ld xs) k x).map V.int++[.int (cJ (ld xs) i x)]))):=fun b ob e=>by rw[ao (aq e hl)];exact s2 b ob e
   refine⟨_,rfl,_,rfl,_,_,rfl,rfl,t,_,_,_,rfl,rfl,dH.of (s3 _ _ ht),fO (by lia) (iz o ir.1 ir.2),?_⟩;refine⟨rfl,s3,?_⟩;rw[ae,List.range_succ,L7,L7];rfl
  .have c:cJ (ld xs) i x=x:=by simpa using c
   have e:i=gC xs x:=by
    apply Classical.byContradiction;intro z;exact xq (by lia) (by lia) c
   subst e;exact⟨_,rfl,k l H' hl h2 s2⟩
theorem rR:aF ["order","begun"] ["order"] (au (top 24)):=⟨rfl,rfl,rfl,by decide+kernel,rfl,by decide+kernel,by decide+kernel⟩
theorem zf{f:MB}{fd:MM}(F:dJ K "rounds" "rounds" (top 24) f fd)(T:K9 P w K mg base):aS P w K mg base fQ 3 f fd ["order"] fL:=by
 refine F.ok rR (fun vs H Q E h=>?_) (fun cdv A outer s H vs Q E hr h=>?_)
 .obtain⟨t,n,xs,rfl,_⟩:=h
  rfl
 .obtain⟨t,n,xs,rfl,ht,o,hn,k⟩:=h
  refine⟨_,(ag (fu (i:=1) rR.nd rfl rfl (N:=(["first","order"]:List Str)) (ix:=([none,some 0]:List (Option Nat))) (aW rfl rfl) rfl (jT rfl T.bL (aa ai (aa (av bp (ar (aN (K:=K) rfl) rfl T.bP (by decide+kernel) (aa (pv 0) af)) ai) af))) (fun _ _ _ _=>(aC (i:=0) (show List.Nodup (["first","order"]:List Str)from by decide+kernel) rfl (Or.inl rfl))) (fun _ _ _ _=>bg) (fun _ _ _ _=>(ak T.kU (hr.mono (by first|decide|lia)) rfl (aa (pv 1) (aa (pv 0) af)))))
   (aj (aA (bJ (N:=(["found"]:List Str)) (ix:=([none]:List (Option Nat))) (aW rfl rfl) rfl (aU (K:=K) rfl (pv 1)) (fun _ _ _ _=>(aC (i:=0) (show List.Nodup (["found"]:List Str)from by decide+kernel) rfl (Or.inl rfl))) (fun _ _ _ _=>(tu (aE bY (aO (ax (K:=K) rfl) (pv 0) ai (fun _ _=>rfl)) (ar (Am (K:=K) rfl rfl) rfl T.fV (by decide+kernel) (aa (pv 0) af)) (aH _)))) (fun _ _ _ _=>(pv 0)))))),?_⟩
  have ol:=o.length;have big:(100000:Nat)<=MG:=by decide
  refine⟨_,rfl,t,_,rfl,.inr (dH.of ht),_,_,rfl,rfl,1,_,rfl,⟨by decide,by decide,by lia,by rw[LW];lia⟩,pB (k:=0) (fun i ys σ' H'=>(∃v,σ'=[v,some (.ref t)])/\ah H H'/\cW H' ys (((eB 1 (n+1)).take i).map (gX xs))/\ij H ys/\ys.length=i) (by rw[LW];lia) ⟨⟨none,rfl⟩,ah.refl _,.nil,ij.nil,rfl⟩ (fun i ys σ' H' q=>Nat.le_of_eq q.2.2.2.2) ?_ ?_⟩
  .rintro i ys σ' H' R hi ⟨⟨v,rfl⟩,s1,x1,f1,l1⟩ done
   rw[LW]at hi;refine⟨_,rfl,_,rfl,t,n,1+(i:Int),xs,rfl,s1 _ _ ht,o,hn,by lia,by lia,fun l H2 hl h2 s2=>done _ _ _ ⟨⟨_,rfl⟩,s1.trans s2,?_,f1.snoc x1 hl (s1.free hl),?_⟩⟩
   .rw[aK (gX xs) (gJ (lo:=1) (hi:=n+1) (i:=i) (by lia))]
    exact(x1.keep s2).snoc h2
   .rw[LY,l1];rfl
  .rintro ys σ' H' p ⟨⟨v,rfl⟩,s1,x1,f1,l1⟩ hp
   have et:(eB 1 (n+1)).take (((xs.map V.int).length:Int)+1-1).toNat=eB 1 (n+1):=Mi (by rw[a8,LW];lia);rw[et]at x1;rw[LW]at l1;have s2:=s1.trans (ah.new (o:= .lst ys) hp);have x2:=x1.keep (ah.new (o:= .lst ys) hp);have h2:upd H' p (.lst ys) p=some (.lst ys):=ae;generalize upd H' p (.lst ys)=H2 at s2 x2 h2⊢;refine⟨_,rfl,p,rfl,⟨_,aG.of h2⟩,sD (K:=K) (a:=p) (xs:=ys) (k:=0) (fun i zs σ' H''=>(∃v,σ'=[v])/\H''=H2/\zs.Sublist (ys.take i)/\cW H2 zs ((((eB 1 (n+1)).take i).filter (least xs)).map (gX xs))) (by lia) ⟨⟨none,rfl⟩,rfl,List.nil_sublist _,.nil⟩
    (fun i zs σ' H'' _ q=>by rw[q.2.1];exact aG.of h2) (fun i zs σ' H'' q=>by have:=q.2.2.1.length_le;rw[Ma]at this;lia) ?_ ?_⟩
   .rintro i zs σ' H'' x R hx ⟨⟨v,rfl⟩,rfl,sb,lx⟩ done
    obtain⟨a,ns,rfl,ha,hns⟩:=x2.get hx;rw[LX]at hns;have hi:i<(n+1-1).toNat:=by
     have:=List.getElem?_eq_some_iff.mp hx;obtain⟨z,_⟩:=this;rw[x2.length,LW,a8]at z;exact z
    have gi:=gJ hi;rw[gi]at hns;cases hns;have ib1:(1:Int)<=1+i:=by lia
    have ib2:(1:Int)+i<=n:=by lia
    have h0:(gX xs (1+i))[0]?=some (1+(i:Int)):=by
     unfold gX;rw[LX,List.getElem?_range (by unfold gC;lia)];rfl
    have et2:(ys.take (i+1))=ys.take i++[.ref a]:=by rw[Mq,hx];rfl
    have ef:((eB 1 (n+1)).take (i+1))=(eB 1 (n+1)).take i++[1+(i:Int)]:=by rw[Mq,gi];rfl
    obtain⟨M,M1,M2⟩:∃M,M∈gX xs (1+i)/\∀b∈gX xs (1+i),M<=b:=pO (List.ne_nil_of_mem (Mf h0));refine⟨_,rfl,a,_,_,_,rfl,rfl,aG.of ha,fO (by lia) h0,_,rfl,a,_,M,rfl,aG.of ha,M1,M2,rfl,_,rfl,?_⟩;have el:decide (V.int (1+(i:Int))=V.int M)=least xs (1+i):=by
     rw[Bool.eq_iff_iff];unfold least;rw[List.all_eq_true];simp only[decide_eq_true_eq];constructor
     .intro e b hb
      cases e;exact M2 b hb
     .intro h
      have e1:=h M M1;have e2:=M2 _ (Mf h0);rw[Int.le_antisymm e1 e2]
    rw[el];cases hL:least xs (1+(i:Int))with
    |true=>
     refine oU ⟨_,rfl,done _ _ _ ⟨⟨_,rfl⟩,rfl,?_,?_⟩⟩
     .rw[et2];exact sb.append (List.Sublist.refl _)
     .rw[ef,List.filter_append,L7,List.filter_cons_of_pos hL]
      exact lx.snoc ha
    |false=>
     refine wI (done _ _ _ ⟨⟨_,rfl⟩,rfl,?_,?_⟩)
     .rw[et2];exact sb.trans (List.sublist_append_left _ _)
     .rw[ef,List.filter_append,L7,List.filter_cons_of_neg (by rw[hL];decide),List.filter_nil,List.map_nil,Mo]
      exact lx
   .rintro zs σ' H'' q ⟨⟨v,rfl⟩,rfl,sb,lx⟩ hq
    rw[Mi (Ms _)]at sb;have e3:(eB 1 (n+1)).take ys.length=eB 1 (n+1):=Mi (by rw[a8,l1];lia);rw[e3]at lx;refine k q zs _ (s2.free hq) ae (lx.keep (ah.new hq)) (f1.sub sb) (fun z=>?_) (s2.trans (ah.new hq));obtain⟨ns,e⟩:=lx.mem z;rw[hq]at e;cases e
end
end Sw
namespace L2
open PySem PySem.Spec PyProof.Rows
section
variable{P:MD}{w:ME}{K:W.Frag}{mg:Str->Option MA}{base:MN}{k:Nat}{f:MB}{fd:MM}{ps:List Str}{sp sp2:Sp}{CX:pY}
theorem aS.lift (F:aS P w K mg base fQ k f fd ps sp):aS P w K mg base (lW P w) k f fd ps sp:=
 ⟨F.len,fun A outer s H args us vs Q E hr e0 b r h=>codeAny_mono (F.run A outer s H args us vs Q E hr e0 b r h) fun r s' z=>by
  cases r with
  |error e=>exact False.elim z
  |ok fl=>cases fl<;>exact z⟩
end
end L2
namespace Sw
open PySem L2
section
variable{P:MD}{w:ME}{K:W.Frag}{mg:Str->Option MA}{base:MN}
theorem Bj:aF ["n"] ["n"] (au (top 21)):=⟨rfl,rfl,rfl,by decide+kernel,rfl,by decide+kernel,by decide+kernel⟩
theorem AQ{f:MB}{fd:MM}(F:dJ K "plain" "plain" (top 21) f fd)(T:T1 mg K):aS P w K mg base fQ 1 f fd ["n"] yW:=by
 refine F.ok Bj (fun vs H Q E h=>?_) (fun cdv A outer s H vs Q E hr h=>?_)
 .obtain⟨t,rfl,_⟩:=h
  rfl
 .obtain⟨n,rfl,h0,h1,k⟩:=h
  refine⟨_,(aj (aA (aY (oN rfl) rfl T.gj (by decide+kernel) (aa (aY oW rfl T.bL (by decide+kernel) (aa ai (aa (av bp (pv 0) ai) af))) af)))),?_⟩;refine⟨_,rfl,_,_,rfl,rfl,.inr ⟨_,_,rfl,fun r hr=>⟨r,_,_,rfl,ae,by lia,by lia,by lia,by lia,fun t ht=>?_⟩⟩⟩;have ne:t≠r:=by intro z;subst z;rw[ae]at ht;cases ht
  rw[ao ne]at ht;exact k t _ ht ae fun b o e=>by rw[ao (aq e ht),ao (aq e hr)];exact e
end
theorem all_mk{l:W.OpenLaw}{w:ME}{K:W.Frag}{h:MN}{mg:Str->Option MA}{fa AD AA gW UU:MB}{tkL eO jH i4 i5:Tok}{due:List (Str×MB)}{f0 f1 f2 f3 f4 f5 f6 f7 f8 f9 f10 f11 f12 f13 f14 f15 f16 f17 f18 f19 f20 f21 f22 f23 f24 f25 f26 f27 f28 f29 f30 f31 f32 f33 f34 f35 f36 f37 f38 f39 f40 f41 f42 f43 f44 f45 f46 f47 f48 f49 f50 f51 f52 f53 f54 f55 f56:MB}(X:K.In h)(G:h.Ns MH mg)(hfa:mg "law" =some (.ref fa))
  (ds0:pC K [("is_whole",top 15,f0),("is_between",top 16,f1),("is_exchange",top 30,f2),("is_row",top 31,f3),("plain",top 21,f4),("round_from",top 23,f5),("rounds",top 24,f6),("check_rounds",top 26,f7),("made",top 27,f8),("star",top 38,f9),("home",top 39,f10),("exchanged",top 32,f11),("carried",top 63,f12),("moved",top 64,f13),("show_things",top 76,f14),("show_order",top 77,f15),("check_text",top 80,f16),("read_number",top 81,f17),("read_row",top 85,f18),("read_things",top 82,f19)])
  (ds1:pC K [("many_things",top 83,f20),("read_order",top 84,f21),("one_word",top 94,f22),("with_commas",top 95,f23),("show_row",top 78,f24),("check_name",top 96,f25),("read_word",top 97,f26),("row_due",top 98,f27),("show_order_of",top 99,f28),("show_kind",top 100,f29),("show_least",top 101,f30),("show_parts",top 102,f31),("show_holes",top 103,f32),("show_lead",top 104,f33),("show_tree",top 106,f34),("show_cars",top 107,f35),("show_begun",top 108,f36),("show_count",top 110,f37),("show_joined",top 111,f38),("show_kept",top 112,f39)])
  (ds2:pC K [("_law_purse",top 116,f40),("_law_take",top 117,f41),("_law_row",top 119,f42),("_law_rounds",top 120,f43),("_law_order",top 118,f44),("_law_star",top 122,f45),("_law_home",top 123,f46),("_law_moved",top 121,f47),("_law_names",top 124,f48),("_law_row_word",top 125,f49),("_law_order_word",top 126,f50),("_law_say",top 127,f51),("_law_due",top 128,f52),("_law_deed",top 129,f53),("_law_full",top 130,f54),("_law_stands",top 131,f55),("law",top 132,f56)])
  (zs:xj K ["len","abs","int","all","isinstance","bool","tuple","list","range","min","max","sum","sorted","zip","enumerate","str","ValueError"])
  (cs:∃cl:eX,Gh K cl/\iM K cl cl.cV 3/\iM K cl cl.cg 9/\iM K cl cl.cH 11/\oH K cl.gV/\oH K cl.cV/\oH K cl.cg/\oH K cl.cH)
  (eP:W.nsIn K MH "MOST_EXCHANGES" =some (some (.int 60 eO)))
  (gE:W.nsIn K MH "MOST_THINGS" =some (some (.int 12 jH)))
  (fS:W.nsIn K MH "MOST_FIGURES" =some (some (.int 9 i4)))
  (fU:W.nsIn K MH "MOST_LETTERS" =some (some (.int 8 i5)))
  (aDUE:W.nsIn K MH "DUE" =some (some (.ref AD)))
  (kx:zv K w.params AD due)
  (tupk:Paired (xu K) Dx due)
  (aANS:W.nsIn K MH "ANSWERS" =some (some (.ref AA)))
  (ky:zv K w.params AA [("show",f39),("order",f28),("kind",f29),("least",f30),("parts",f31),("holes",f32),("lead",f33),("tree",f34),("cars",f35),("begun",f36),("count",f37),("joined",f38)])
  (kJ:W.nsIn K MH "LETTERS" =some (some (.str (LV "abcdefghijklmnopqrstuvwxyz") tkL)))
  (aDesk:W.nsIn K MH "Desk" =some (some (.ref gW)))
  (tdk:yw K gW)
  (mI:Lm K gW "__init__" "Desk.__init__" (mem (top 114) 0))
  (mR:A4 K gW "row_of" "Desk.row_of" (mem (top 114) 1))
  (mY:A4 K gW "say" "Desk.say" (mem (top 114) 2))
  (au2:W.nsIn K MH "UNDOING" =some (some (.ref UU)))
  (ku2:BS K w.params UU jO)
  (kib:W.kitOne K (.type "int") (.type "bool")=some false):
  ∃fd:MM,(∀(s:MC)(v:MA),BindsTo s fd ⟨[v],[]⟩ [("_law_script",v)])/\∀base:MN,K.In base->base.Ns MH mg->aS l.prog w K mg base fQ 33 fa fd ["_law_script"] (yR K):=by
 obtain⟨d0,d1,d2,d3,d4,d5,d6,d7,d8,d9,d10,d11,d12,d13,d14,d15,d16,d17,d18,d19,_⟩:=ds0;obtain⟨d20,d21,d22,d23,d24,d25,d26,d27,d28,d29,d30,d31,d32,d33,d34,d35,d36,d37,d38,d39,_⟩:=ds1;obtain⟨d40,d41,d42,d43,d44,d45,d46,d47,d48,d49,d50,d51,d52,d53,d54,d55,d56,_⟩:=ds2;obtain⟨JM,JN,JO,JP,lU,HH,EN,HI,EO,vX,CO,JQ,pU,JR,vY,si,tS,_⟩:=zs.at X G;obtain⟨cl,ck,al_NoMove,al_NoBound,al_NoName,mQ,Ap,xY,Aq⟩:=cs;have CS:=ck.CS X G lU tS;have gN:=W.mg_of X G eP;have pV:=W.mg_of X G gE;have nF:=W.mg_of X G fS;have nG:=W.mg_of X G fU;have JS:=W.mg_of X G aDUE;have JT:=W.mg_of X G aANS;have Ar:=W.mg_of X G kJ;have HJ:=W.mg_of X G aDesk;have kd:=kx.due tupk;have ka:=ky.ans rfl;have HK:=W.mg_of X G au2;obtain⟨fd_law,FH⟩:=d56.2.fn;have e:=hfa.symm.trans (W.mg_of X G d56.1);cases e;obtain⟨_,_,kV,dc,pm,an,cd,ct,_,rfl,_,_⟩:=id FH.ex;refine⟨W.fnOf "law" "law" (e8 (top 132)) (de (top 132)) (au (top 132)) .none kV dc pm an cd ct,fun s v=> .of_eq rfl,fun base _ _=>?_⟩;have t0:xG mg:=⟨JM,JN,JO⟩;have t1:T1 mg K:={t0 with y8:=JP,aJ:=lU,Ct:=HH,gj:=EN,mL:=HI,bL:=EO,Ki:=kib};have hLr:(t9 cl).Eh=cL:=rfl;have hLd:(t9 cl).EY=jr (fun _=>true) cl.cg cl.cV:=rfl;have hLa:(t9 cl).ans=lJ:=rfl;have ftake:FnAt l.prog w K mg base "_law_take" 1 ["_law_purse_here","_law_many"] jD:=⟨gf X G d41 fun vZ=>Dy vZ⟩;have td:TD l.prog w K mg base:={t1 with oO:=⟨gf X G d0 fun xZ=>Gk xZ t1⟩};have td2:K6 l.prog w K mg base:={t1 with bU:=⟨gf X G d1 fun iT=>Bw iT td⟩};have td3:Lc l.prog w K mg base (.int 60 eO):={t1 with cC:=gN,cq:=⟨_,rfl⟩,j7:=⟨gf X G d2 fun qx=>DK qx td2⟩};have fbi:FnAt l.prog w K mg base "is_between" 2 ["thing","low","high"] Hi:=⟨gf X G d1 fun iT=>aS.imp (Bw iT td) (fun _ H _ _ z=>by obtain⟨x,lo,hi,e,q⟩:=z;exact⟨.int x,fun _=>True,.int x,lo,hi,e,.int x,q⟩)⟩;have trw:Lk l.prog w K mg base:={t1 with ay:=ftake,fV:=vX,lN:=CO};have ttx:Jr mg K (.int 9 i4):={t1 with eQ:=si,jG:=nF,jA:=⟨_,rfl⟩};have fir:FnAt l.prog w K mg base "is_row" 6 ["n","thing"] sW:=⟨gf X G d3 fun CP=>BW CP td3⟩;have trr:Lj l.prog w K mg base:={t1 with
  eN:=⟨gf X G d16 fun iU=>yp iU ttx⟩
  bM:=⟨gf X G d17 fun dP=>xk dP ttx⟩
  vh:=fir}
 have tck:IM mg K (.int 8 i5) (.str (LV "abcdefghijklmnopqrstuvwxyz") tkL) cl.gV:={t1 with
  jg:=nG
  jE:=⟨_,rfl⟩
  qP:=Ar
  qR:=⟨_,rfl⟩
  cz:=CS.cz
  fK:=mQ}
 have tcx:TC l.prog w K mg base:={t1 with bU:=fbi};have tmx:TM l.prog w K mg base:={t1 with m8:=vY,yF:=⟨gf X G d4 fun ER=>AQ ER t1⟩,ji:=⟨gf X G d7 fun pW=>BB pW tcx⟩};have tr0:K9 l.prog w K mg base:={t1 with fV:=vX,kU:=⟨gf X G d5 fun tT=>IX tT⟩};have frd:FnAt l.prog w K mg base "rounds" 3 ["order"] fL:=⟨gf X G d6 fun CQ=>zf CQ tr0⟩;have tso:Lb l.prog w K mg base:={t1 with eQ:=si,jY:=⟨gf X G d14 fun qy=>zo qy ttx⟩,jc:=frd};have trt:K7 l.prog w K mg base:={t1 with bM:=⟨gf X G d17 fun dP=>xk dP ttx⟩};have tma:Li mg K (.int 12 jH):={t1 with Fy:=JQ,jZ:=pV,ke:=⟨_,rfl⟩};have tro:Lg l.prog w K mg base cl.kR:={t1 with
  gD:=CS.gD
  eN:=⟨gf X G d16 fun iU=>yp iU ttx⟩
  kc:=⟨gf X G d19 fun qz=>zV qz trt⟩
  kg:=⟨gf X G d20 fun qA=>Dd qA tma⟩
  Cd:=⟨gf X G d8 fun HL=>EA HL tmx⟩
  lQ:=⟨gf X G d15 fun tU=>xI tU tso⟩}
 have trwd:JJ l.prog w K mg base (t9 cl):={t1 with
  bM:=⟨gf X G d17 fun dP=>aS.imp (xk dP ttx).lift fun _ _ _ _ h=>h.2⟩
  oR:=⟨gf X G d18 fun ya=>aS.imp (xQ ya trr).lift fun _ _ _ _ h=>h.2⟩
  kM:=⟨gf X G d21 fun tV=>aS.imp (xM tV tro).lift fun _ _ _ _ h=>Ei h⟩
  lT:=⟨gf X G d25 fun tW=>GA tW tck⟩
  cz:=CS.cz
  fK:=mQ}
 have tca:Ln l.prog w K mg base:={t1 with fD:=pU,fI:=⟨gf X G d11 fun jI=>FA jI⟩};have tmv:Lh l.prog w K mg base UU cl.cV:={t1 with
  bU:=fbi
  mr:=⟨gf X G d12 fun As=>Ht As tca⟩
  sg:=HK
  rZ:=rfl
  qI:=ku2
  hW:=CS.hW
  ow:=Ap}
 have ts:TStr9 l.prog w K mg base:={t1 with jc:=frd};have thb:K8 l.prog w K mg base:={t1 with fI:=⟨gf X G d11 fun jI=>FA jI⟩};have trd:Lq l.prog w K mg base (fun _=>true) (.int 60 eO) cl.cg cl.cV:={t1 with
  Cq:=⟨gf X G d9 fun HM=>(aS.imp (EB HM ts) fun _ _ _ _ h=>h.2).mono (by decide)⟩
  BY:=⟨gf X G d10 fun HN=>(aS.imp (Ep HN thb) fun _ _ _ _ h=>h.2).mono (by decide)⟩
  yq:=⟨gf X G d13 fun ES=>aS.imp ((Gw ES tmv).mono (by decide)) fun _ _ _ _ h=>h.2⟩
  cC:=gN
  cq:=⟨_,rfl⟩
  ip:=CS.ip
  sf:=xY}
 have tshk:IC l.prog w K mg base:={t1 with oE:=⟨gf X G d22 fun yc=>IG yc⟩,oA:=⟨gf X G d24 fun yd=>xT yd ttx⟩};have noA:∀{word:Str},word≠LV "show"->∀vs H Q E,vi (t9 cl) word vs H Q E->False:=fun{word} hw vs H Q E h=>DW hLa hw h;have tsay:IQ l.prog w K mg base gW AD AA _ _ (t9 cl):={t1,tdk with
  Cg:=JR
  fD:=pU
  cz:=CS.cz
  fK:=mQ
  yh:=JS
  yH:=rfl
  yK:=kd
  lY:=JT
  mf:=rfl
  my:=ka
  tabs:=z6 tupk rfl
  j9:=Le tdk.cls mR fun F=>Bl F {tdk with jd:=CS.jd,vt:=Aq}
  mS:=⟨gf X G d26 fun wa=>Jn wa hLr trwd⟩
  qV:=⟨gf X G d27 fun Au=>Ho Au hLd trd⟩
  j6:=⟨gf X G d23 fun qB=>JH qB t1⟩
  Fw:=fun f sp h=>by
   obtain⟨word,e,rfl⟩:=h;have mm:=rY e;simp only[Mb,Mn,or_false,Prod.mk.injEq]at mm;rcases mm with⟨rfl,rfl⟩|⟨rfl,rfl⟩|⟨rfl,rfl⟩|⟨rfl,rfl⟩|⟨rfl,rfl⟩|⟨rfl,rfl⟩|⟨rfl,rfl⟩|⟨rfl,rfl⟩|⟨rfl,rfl⟩|⟨rfl,rfl⟩|⟨rfl,rfl⟩|⟨rfl,rfl⟩
   .exact vq d39 (by decide) fun wb=>Hg wb hLa tshk
   .exact oB d28 (noA (by decide+kernel))
   .exact oB d29 (noA (by decide+kernel))
   .exact oB d30 (noA (by decide+kernel))
   .exact oB d31 (noA (by decide+kernel))
   .exact oB d32 (noA (by decide+kernel))
   .exact oB d33 (noA (by decide+kernel))
   .exact oB d34 (noA (by decide+kernel))
   .exact oB d35 (noA (by decide+kernel))
   .exact oB d36 (noA (by decide+kernel))
   .exact oB d37 (noA (by decide+kernel))
   .exact oB d38 (noA (by decide+kernel))}
 have tls:Fj l.prog w K mg base cl gW (t9 cl):={t1,CS with
  pj:=Le tdk.cls mY fun F=>Gb F tsay}
 have fsay:FnAt l.prog w K mg base "_law_say" 31 ["_law_desk","_law_row_here"] (sV K cl gW (t9 cl)):=⟨gf X G d51 fun ye=>DC ye tls⟩;have fro:FnAt l.prog w K mg base "_law_rounds" 1 ["_law_order_here"] fL:=⟨gf X G d43 fun qC=>xJ qC t1⟩;have frow:FnAt l.prog w K mg base "_law_row" 2 ["_law_purse_here","_law_n","_law_most"] BD:=⟨gf X G d42 fun yf=>Hu yf trw⟩;have flrw:FnAt l.prog w K mg base "_law_row_word" 1 ["_law_row_here"] vP:=⟨gf X G d49 fun nH=>G9 nH {t1 with eQ:=si}⟩;have flow:FnAt l.prog w K mg base "_law_order_word" 2 ["_law_order_here"] CI:=⟨gf X G d50 fun lV=>Gn lV {t1 with eQ:=si,dM:=fro}⟩;have to:TO l.prog w K mg base:={t1 with ay:=ftake};have tded:IJ l.prog w K mg base:={t1 with
  eQ:=si
  ay:=ftake
  ou:=frow
  kT:=⟨gf X G d44 fun tX=>Bt tX to⟩
  mX:=⟨gf X G d45 fun wc=>(CK wc {t1 with dM:=fro}).mono (by decide)⟩
  nj:=⟨gf X G d46 fun we=>(Ha we t1).mono (by decide)⟩
  bC:=flrw
  gK:=flow
  oG:=⟨gf X G d52 fun yg=>(EJ yg {t1 with kK:=⟨gf X G d47 fun tY=>G8 tY {t1 with fV:=vX,lN:=CO}⟩}).mono (by decide)⟩}
 have tful:Ib l.prog w K mg base:={t1 with fV:=vX,ay:=ftake,bC:=flrw};have tstd:Jv l.prog w K mg base cl gW (t9 cl):={t1 with fD:=pU,dW:=fsay,bC:=flrw,jf:=al_NoName};have tl:TL l.prog w K mg base cl gW:={t1 with
  eQ:=si
  lN:=CO
  fV:=vX
  iK:=⟨gf X G d40 fun tZ=>BZ tZ t0⟩
  ay:=ftake
  lF:=⟨gf X G d48 fun t5=>GW t5 {t1 with ay:=ftake}⟩
  gP:=⟨gf X G d55 fun qD=>HC qD rfl tstd⟩
  ng:=⟨gf X G d54 fun wg=>GD wg tful⟩
  nq:=⟨gf X G d53 fun wm=>Gi wm tded⟩
  dW:=fsay
  jf:=al_NoName
  u6:=al_NoMove
  qN:=al_NoBound
  yM:=J9 HJ mI fun F=>Ez F tdk}
 exact Hd FH tl
theorem walk{l:W.OpenLaw}{q:MD}{loose:List Str}{XP:(Str->Option MA)->MN->Prop}{YP:ME->MN->Prop}{d:DefRec}{K:Params->W.Frag}(hn:l.most=some 63)(hdf:d.params.defaults=[])
  (hY:∀(w:ME)(h:MN),YP w h->(K w.params).In h)
  (F:∀(w:ME)(mg:Str->Option MA)(fa:MB)(h:MN),(K w.params).In h->h.Ns MH mg->mg d.name=some (.ref fa)->
   ∃fd:MM,(∀(s:MC)(u:MA),BindsTo s fd ⟨[u],[]⟩ [("_law_script",u)])/\∀base:MN,(K w.params).In base->base.Ns MH mg->aS l.prog w (K w.params) mg base fQ 33 fa fd ["_law_script"] (yR (K w.params))):
  W.WalkO q loose XP YP l.row.toRowW d [] (fun f vs=>PySem.call f vs):=
 L2.EI (n:=63) (k:=33) (x:= "_law_script") (CX:=fun _=>fQ) (sp:=fun w=>yR (K w.params)) hn (by decide) hdf ⟨rfl,rfl,by decide,by decide⟩ hY F (fun _ _ a ns hl _ hS=>⟨a,ns,rfl,hS,hl,fun _=>rfl⟩) fun _ _ _ _ _ z=>z
end Sw
namespace PySem.W.Fast
def tw6191907281756332984:=0
def tw13895970274250383748:=0
def tw17337469335604462973:=0
def tw12853643303423059174:=0
def tw15984050544983544774:=0
def tw1530368090479384256:=0
def tw16023801220784680900:=0
def tw122964897968104499:=0
def tw10511151681085660950:=0
def tw12846202900769062803:=0
def tw11859281259654063640:=0
def tw16116902308771964988:=0
def tw6732333998625724406:=0
def tw13547408679547591952:=0
def tw7549113017432869582:=0
def tw9024303133481326948:=0
def tw17448532485044498662:=0
def tw6264231180358937972:=0
def tw9457770743885580693:=0
def tw2784621472594920208:=0
def tw15972187355377519642:=0
def tw7237276413065087380:=0
def tw9723037585667592076:=0
def tw11417113410018194210:=0
def tw3604340157068432641:=0
def tw3237232310355120036:=0
def tw15301742657855678170:=0
def tw7470978216997306203:=0
def tw15476109607564223931:=0
def tw4434067731771230019:=0
def tw17599261037950460377:=0
def tw15076711369491029694:=0
def tw18289532159965956164:=0
def tw13467965641815073283:=0
def tw4030661572125980250:=0
def tw831697998787489792:=0
def tw15622644223865691710:=0
def tw12385774007337944359:=0
def tw20333997921984447:=0
def tw18331065581004157909:=0
def tw4561611903526339257:=0
def tw7009663033583009010:=0
def tw12497944311172237517:=0
def tw984325339957367904:=0
def tw17127657823627341820:=0
def tw4234827245277317993:=0
def tw474930424664455065:=0
def tw9543543565965903353:=0
def tw3334202355151885002:=0
def tw17033433815927333894:=0
def tw9112119179075545883:=0
def tw15538156815365784345:=0
def tw9715488487650787301:=0
def tw17843834322293671881:=0
def tw3744420450492374250:=0
def tw16966315579950585312:=0
def tw17329799922991733941:=0
def tw7856985775391193884:=0
def tw11235508260418533301:=0
def tw4581230753407369003:=0
def tw18428385597318328859:=0
def tw4148761362400084586:=0
def tw7799265640780402544:=0
def tw16899578364630352574:=0
def tw1411465754841224928:=0
def tw2563688990461890531:=0
def tw1989039335519393610:=0
def tw11674928625325453198:=0
def tw8979068328574084775:=0
def tw8819603771320747293:=0
def tw18226938789438575100:=0
def tw8734934515644167336:=0
def tw11391254284225605724:=0
def tw11637402139694269774:=0
def tw6752308868839527042:=0
def tw14916624827475101295:=0
def tw8691720875608442880:=0
def tw5350125190025925076:=0
def tw2419422020379520022:=0
def tw7704219790765300585:=0
def tw13229316890279947850:=0
def tw7951120885808035827:=0
def tw15828292297958366660:=0
def tw9853050329635717774:=0
def tw5818001254763140290:=0
def tw13552842355614805766:=0
def tw3492459808259307573:=0
def tw17129277831696208563:=0
def tw3165883437864562475:=0
def tw3812169275973242138:=0
def tw7975918359784820391:=0
def tw4167126202005526307:=0
def tw12911028519848034473:=0
def tw12586245034705630516:=0
def tw4991592840231832799:=0
def tw12086372517264984085:=0
def tw12573182139983396051:=0
def tw15852430910402513324:=0
def tw12315271018689087496:=0
def tw16857794373032944152:=0
def tw15551659646479613360:=0
def tw10123679075185573137:=0
def tw1967874076719310495:=0
def tw1910886623404598455:=0
def tw14232777619654982167:=0
def tw4944124862836384624:=0
def tw15003148802618205096:=0
def tw13862265047809704356:=0
def tw3077705585578802055:=0
def tw9204296307830386881:=0
def tw11799382263745223809:=0
def tw3254895349464636907:=0
def tw9779491490390281048:=0
def tw2010447203344918970:=0
def tw8574264131557189878:=0
def tw17361655028215781100:=0
def tw17575578940474998422:=0
def tw2220979232698372037:=0
def tw2146281192826344393:=0
def tw15150942407692207983:=0
def tw1170788084401820699:=0
def tw5804471153375857326:=0
def tw5954683146234977872:=0
def tw8868731675866542542:=0
def tw473312202619308742:=0
def tw4847837953628434699:=0
def tw16567483946710525534:=0
def tw490313186357271079:=0
def tw14999236296436250616:=0
def tw5399944605488851938:=0
def tw3907800811718447536:=0
def tw9262370546222583770:=0
def tw105960070639505714:=0
def tw11967670533958319578:=0
def tw3215015912790742150:=0
def tw671453113823062866:=0
def tw8764617464237128862:=0
def tw3082814712632945812:=0
def tw5342737846185624526:=0
def tw16661782838498159196:=0
def tw13777969575214413250:=0
def tw8643148437121950575:=0
def tw5684895468216383150:=0
def tw12686014219155559615:=0
def tw11352628694866573736:=0
def tw14235258101844932737:=0
def tw11456308276438643453:=0
def tw4787859787471211267:=0
def tw8566931204682585161:=0
def tw9518841918757582865:=0
def tw6809693115713593121:=0
def tw6651465576440540880:=0
def tw7422556778258849443:=0
def tw14402357789430390140:=0
def tw15192324647456551079:=0
def tw12180342235709728137:=0
def tw13115994721091242848:=0
def tw10875914741185943677:=0
def tw3267535020156699679:=0
def tw9444059279916067041:=0
def tw15386824569791482898:=0
def tw9438097163341089962:=0
def tw10712058862211122353:=0
def tw15588805113587267532:=0
def tw10464668768460001602:=0
def tw5976841408747476996:=0
def tw268638043746723920:=0
def tw8205687795290063471:=0
def tw17254131855444497822:=0
def tw12817125664642046156:=0
def tw16706866655266256390:=0
def tw10563748688794548381:=0
def tw10949182159777271756:=0
def tw15620772459719513222:=0
def tw17631781976786391603:=0
def tw17705962555627316923:=0
def tw16348923228889481492:=0
def tw8911028320853547068:=0
def tw4815622383268411036:=0
def tw230126650078810497:=0
def tw14635686519005980963:=0
def tw16532888840400395797:=0
def tw4934812500499401436:=0
def tw9575940055206967512:=0
def tw3129659093974490699:=0
def tw8552509328569724189:=0
def tw6359923616554904833:=0
def tw12406586609175530142:=0
def tw18387449357763676499:=0
def tw9032033636491304913:=0
def tw15463333785713258575:=0
def tw7411324085152842549:=0
def tw2720128730084275158:=0
def tw15195824222639304289:=0
def tw18351470772450721654:=0
def tw4311422240430762844:=0
def tw15566740678773264517:=0
def tw15738189384975622192:=0
def tw14412937778768333251:=0
def tw8959112224904049399:=0
def tw4652159948723544992:=0
def tw5320273561284626323:=0
def tw16788527883916755937:=0
def tw9413195805788021688:=0
def tw11115768312110702679:=0
def tw7514420161006703392:=0
def tw16796333759573381640:=0
def tw18196698572315089291:=0
def tw5209441958688798547:=0
def tw878539605306145830:=0
def tw17818912582265774055:=0
def tw5711734368818357353:=0
def tw4672055903954934016:=0
def tw3770590590793130549:=0
def tw14385690643169752828:=0
def tw5720385571274845599:=0
def tw9441719157173243529:=0
def tw7685889991826909658:=0
def tw4315865250278226207:=0
def tw15159471803137622536:=0
def tw4272795214305707031:=0
def tw12303221711254880081:=0
def tw5311674462906103639:=0
def tw3362761515114776579:=0
def tw1833129230615181636:=0
def tw1614365779098419541:=0
def tw16004495883775651567:=0
def tw6622066391351486630:=0
def tw11017971448777975027:=0
def tw8432606268338843204:=0
def tw7932781932901709924:=0
def tw7592763990572874720:=0
def tw925549149508737479:=0
def tw1530533713994088591:=0
def tw18346512221666230618:=0
def tw4254440588370668918:=0
def tw4061060528122567908:=0
def tw14192765864887302396:=0
def tw7540402090284306319:=0
def tw16511609447830977697:=0
def tw7809137706230620359:=0
def tw16109546158960073986:=0
def tw17502920008872017045:=0
def tw13043715997628850464:=0
def tw4791576423911888777:=0
def tw12192905625809924398:=0
def tw11449489525148786006:=0
def tw6923008293947152816:=0
def tw4682075351258019258:=0
def tw2868936637658071421:=0
def tw11169977611085631017:=0
def tw3815761935903896648:=0
def tw3334732962819399794:=0
def tw9921029533296442397:=0
def tw4018771885169485603:=0
def tw10654768458421436388:=0
def tw7526921568127560547:=0
def tw8261826987257663468:=0
def tw12994050743748033575:=0
def tw5782333068379131091:=0
def tw10658695604175285566:=0
def tw14172491304132202266:=0
def tw13662312704993263307:=0
def tw1333270227218975826:=0
def tw6720431930781237132:=0
def tw1258080232533415591:=0
def tw10404074691683110461:=0
def tw10551708895152644366:=0
def tw5738197494882261219:=0
def tw2998834366860004526:=0
def tw2856690075839200676:=0
def tw6418966557055779734:=0
def tw15207365031677359326:=0
def tw13649210762874419417:=0
def tw1654877547135790576:=0
def tw7722256333010723975:=0
def tw11458655566204476910:=0
def tw5252453030507023278:=0
def tw10009346608192984623:=0
def tw15778361297624548502:=0
def tw12121401603004785761:=0
def tw16086522667406438511:=0
def tw13853491828011335696:=0
def tw9729616793546435333:=0
def tw8835330721001600944:=0
def tw3633444645875470079:=0
def tw805456286661620732:=0
def tw7759834895764194665:=0
def tw17819861727986364204:=0
def tw17703940204016528427:=0
def tw7579691074035036838:=0
def tw2619418571676754653:=0
def tw11663851568122138509:=0
def tw12611724944075412852:=0
def tw10238398691137128723:=0
def tw15700299155551843248:=0
def tw8625159479243429452:=0
def tw1452886460709454053:=0
def tw1234145292748424025:=0
def tw481418897891587334:=0
def tw8569970127383994071:=0
def tw7686746962237461524:=0
def tw6593271898419058259:=0
def tw6112267728328199328:=0
def tw5464661424055721977:=0
def tw3274118656758536727:=0
def tw16787897275049943593:=0
def tw16176465349081634769:=0
def tw11119332109534820960:=0
def tw10889334166980413046:=0
def tw6484826404612035601:=0
def tw6195475570125879246:=0
def tw11970134730115825088:=0
def tw18263295373589308505:=0
def tw10167203362413970096:=0
def tw1680472250232497766:=0
def tw5198811429552270900:=0
def tw88624711425362336:=0
def tw14537197051250168741:=0
def tw2092833185973093919:=0
def tw2835251356150006402:=0
def tw6887598915547121266:=0
def tw16349445560043638999:=0
def tw17908188994721922766:=0
def tw17059640003601285822:=0
def tw13953290386186701712:=0
def tw16626394829232690270:=0
def tw13172431776358502563:=0
def tw5080833949417405194:=0
def tw2141623557744559898:=0
def tw12383361359002818605:=0
def tw8622819171867496190:=0
def tw8456191263402898471:=0
def tw1212103834851016974:=0
def tw10731700143091788784:=0
def tw4080331080654598003:=0
def tw17649476859689588417:=0
def tw1514755700747052943:=0
def tw5358132964790584699:=0
def tw18192871748357691464:=0
def tw5085048275351598456:=0
def tw6434662689048579800:=0
def tw4553539698446344204:=0
def tw8590447477175239529:=0
def tw13709415304150380899:=0
def tw8247269236615851189:=0
def tw14644989238024196121:=0
def tw13302649575174668334:=0
def tw17169792563658579478:=0
def tw10587714400145060158:=0
def tw8143700763784177838:=0
def tw16990674782444733056:=0
def tw9172979375754447140:=0
def tw18377134479692115758:=0
def tw3334395185087848651:=0
def tw2611765038942115535:=0
def tw17658383980853807428:=0
def tw577521019021046017:=0
def tw17663190765596593156:=0
def tw1273072409495538691:=0
def tw11636839204978221245:=0
def tw1410269374108674354:=0
def tw7423573319422643076:=0
def tw498473431795383792:=0
def tw4310591444572266629:=0
def tw3038890127521282718:=0
def tw14767509548144743311:=0
def tw1358698234617414273:=0
def tw13011558817219554122:=0
def tw5784088234008808434:=0
def tw8471706607291810147:=0
def tw6900717656738818604:=0
def tw1939646596450029203:=0
def tw17022608901061885148:=0
def tw13466747245515741528:=0
def tw74679034343805410:=0
def tw10572729617682797405:=0
def tw1051172671505658166:=0
def tw10492579538739518825:=0
def tw888688888205087453:=0
def tw7569628871873001535:=0
def tw16760410244228977515:=0
def tw16672991870844463725:=0
def tw14873683017741162882:=0
def tw14031947617345390031:=0
def tw13390786429232440305:=0
def tw1531266183135324032:=0
def tw11554475901956584307:=0
def tw7304575233850028350:=0
def tw12890670829250322638:=0
def tw3291846780468151938:=0
def tw2604988224051804561:=0
def tw14183177350009039806:=0
def tw11095702834323935944:=0
def tw10215972831252808329:=0
def tw9219520544642990642:=0
def tw7798557549025593732:=0
def tw3674780784020928046:=0
def tw3032742015153882851:=0
def tw1985445387469862651:=0
def tw18262611829881187487:=0
def tw11895887039727852875:=0
def tw6241391322314235641:=0
def tw14717885933851902818:=0
def tw14274671851027909318:=0
def tw12574358667784495984:=0
def tw9396600327031693502:=0
def tw7591327440729318525:=0
def tw3882050401719552845:=0
def tw2480585079039159504:=0
def tw16367753628980105913:=0
def tw16224789137338331090:=0
def tw16201240112546309955:=0
def tw10554984593257226187:=0
def tw4528925754112890:=0
def tw4500848924228907212:=0
def tw3788442974005126626:=0
def tw14418070690813522490:=0
def tw10947563693746128095:=0
def tw4099698616185058405:=0
def tw10260537848220232573:=0
def tw14332171508318833733:=0
def tw4716822039804226638:=0
def tw15828636023139569262:=0
def tw13867352397162278290:=0
def tw11028913600154415342:=0
def tw7970288461871230967:=0
def tw5128158905401981544:=0
def tw12558595067573655396:=0
def tw5671882494005300438:=0
def tw9148402321548320621:=0
def tw16355606724448922725:=0
def tw15277902836473476136:=0
def tw12559959201119870191:=0
def tw5094947721753403058:=0
def tw4780149615157362158:=0
def tw3311921194778509513:=0
def tw17459483985192506382:=0
def tw14063867699493766097:=0
def tw18326079770301719982:=0
def tw11382623126915461471:=0
def tw6612074253242502484:=0
def tw4489993474460270281:=0
def tw11315158478407987686:=0
def tw6752296933225826172:=0
def tw3477561031880550844:=0
def tw14209905091708036851:=0
def tw11944390285424105595:=0
def tw9138383103127460712:=0
def tw5781792956509891845:=0
def tw16061388398562203068:=0
def tw15199332177204531365:=0
def tw14104678396398809874:=0
def tw5607657039738076829:=0
def tw4896746705842308752:=0
def tw3997419887544754189:=0
def tw11714589724706495990:=0
def tw8000297323528352655:=0
def tw3589115849357853651:=0
def tw4054024006966606796:=0
def tw6673879620070379530:=0
def tw10476760152950807240:=0
def tw15873185448677082487:=0
def tw16584529617332263092:=0
def tw8754286188682028690:=0
def tw13592470165429169797:=0
def tw6818205581987529129:=0
def tw5771704450353652997:=0
def tw3740219012727284327:=0
def tw12206587285483360054:=0
def tw1216832058737471551:=0
def tw7629066063257099623:=0
def tw8503237963034429069:=0
def tw8375641695629536302:=0
def tw734142597221215814:=0
def tw7232111807688458933:=0
def tw6867326153782954567:=0
def tw665570041477837740:=0
def tw6384366340450159817:=0
def tw4660986940189043348:=0
def tw3419923448369635243:=0
def tw2804382284367595886:=0
def tw1957318211026304392:=0
def tw15655323602129317878:=0
def tw14206706785525006189:=0
def tw1367375687414758122:=0
def tw13459202938010750593:=0
def tw12557947010777745683:=0
def tw12382632394914065816:=0
def tw10798758302939751544:=0
def tw1256718336659798376:=0
def tw7369397459343810753:=0
def tw1949786863030440835:=0
def tw7121230028042069245:=0
def tw9017296995524189570:=0
def tw17603337062838003189:=0
def tw17460550579355945941:=0
def tw2298493872795211634:=0
def tw8026603823108553518:=0
def tw2894443998749627444:=0
def tw2638675269692707259:=0
def tw16916131435467713984:=0
def tw14811505866573000842:=0
def tw13247836113155491529:=0
def tw12304078608216725297:=0
def tw11877659874390542303:=0
def tw11679911925480049471:=0
def tw11153062199342780342:=0
def tw10244659997645884498:=0
def tw7777759587132936468:=0
def tw14145690115804223071:=0
def tw13082120059653283967:=0
def tw10595628092121418312:=0
def tw11170710665443968508:=0
def tw8670209256937361731:=0
def tw13463439827819777852:=0
def tw15754855610379839073:=0
def tw9420993908101340021:=0
def tw9103781481142030552:=0
def tw5958134549532602167:=0
def tw539648829828382559:=0
def tw438526739596119681:=0
def tw1764560872651134736:=0
def tw1728684391199701476:=0
def tw17076764868837611808:=0
def tw16760490382381803971:=0
def tw15319281770600356837:=0
def tw13844369505887550377:=0
def tw1369581783785289263:=0
def tw12612022594099221693:=0
def tw10369175775701922306:=0
def tw5820256364736047132:=0
def tw4278906689184922040:=0
def tw11966480873455499077:=0
def tw10838079802748108369:=0
def tw10350472127991721557:=0
def tw8908809795092524837:=0
def tw5046059801319292917:=0
def tw4605620406329238900:=0
def tw4561694999412668437:=0
def tw248841744596805118:=0
def tw18441509222345239508:=0
def tw17060299722107733519:=0
def tw16369159875493710061:=0
def tw16269742058608280823:=0
def tw12526197043475360648:=0
def tw12025028977653549807:=0
def tw11757312963177062369:=0
def tw11737615992649314014:=0
def tw10362025833208414628:=0
def tw8940262142818266284:=0
def tw548749414796045198:=0
def tw4346962383365790600:=0
def tw3523777329546400265:=0
def tw3243496137889912913:=0
def tw3124109704462266704:=0
def tw18012378145821384604:=0
def tw1792369393768151491:=0
def tw14969487643403438476:=0
def tw14705634109093967811:=0
def tw14545956409112622230:=0
def tw14057609878303864170:=0
def tw1266664039962144434:=0
def tw11789020094008428303:=0
def tw1717811323770849099:=0
def tw9916064496277408400:=0
def tw8469118197096111098:=0
def tw4877274219138931487:=0
def tw4502141336968248090:=0
def tw4328653386459330925:=0
def tw2812084833326248390:=0
def tw17441569581333683992:=0
def tw16391805223959631083:=0
def tw15909229435450977935:=0
def tw15541059936972414680:=0
def tw12579380275218019350:=0
def tw12534340259537512194:=0
def tw8551758540541609009:=0
def tw8459460632703136422:=0
def tw7942535042156846876:=0
def tw7649637419453653349:=0
def tw7224675651672173701:=0
def tw5852576945619946773:=0
def tw4975871909093648609:=0
def tw3116103229897427250:=0
def tw248358260928744600:=0
def tw17334124108837660346:=0
def tw16699042065245400948:=0
def tw13528183682785415719:=0
def tw12913472509536608283:=0
def tw10720001369915247835:=0
def tw9847641016428549814:=0
def tw959032876456143643:=0
def tw9588034019376448195:=0
def tw9557227027614569763:=0
def tw9485587664366009999:=0
def tw9453948574069952414:=0
def tw9246619873701347336:=0
def tw9144667864610458999:=0
def tw9000706043202186993:=0
def tw8890148930370409444:=0
def tw8782647026842153874:=0
def tw8698795853839076527:=0
def tw8551984712098804250:=0
def tw8463496529032970286:=0
def tw8425730415686910755:=0
def tw8357859322543436730:=0
def tw8356022329921304108:=0
def tw8231089706304482879:=0
def tw8047678830993886086:=0
def tw7886322995438886417:=0
def tw7828762311132754754:=0
def tw7515992350145899200:=0
def tw7335077004237760967:=0
def tw7109312063926116953:=0
def tw6819236269049358074:=0
def tw6799251793824071430:=0
def tw6758826223104428085:=0
def tw6753583378261365203:=0
def tw6748225110741178289:=0
def tw6738051400951648443:=0
def tw6610803110660497481:=0
def tw6429066080060536091:=0
def tw6300168222358702982:=0
def tw622807902112509649:=0
def tw6194898219339538429:=0
def tw5915846995590983730:=0
def tw5788377366367769523:=0
def tw5747192589062041827:=0
def tw5706796044638302166:=0
def tw5607498905894111522:=0
def tw5502085348582265376:=0
def tw5487187741375331262:=0
def tw5481873683465669839:=0
def tw5433251410948220747:=0
def tw5390423405811775438:=0
def tw5349369762472433507:=0
def tw529525727519313121:=0
def tw5228629653796288965:=0
def tw5223855776692755550:=0
def tw5188500099831199955:=0
def tw5136034051712395850:=0
def tw512685591708118940:=0
def tw5039960180292169214:=0
def tw4918713453761112463:=0
def tw4786269427633766894:=0
def tw4685413597925162229:=0
def tw4593367067163575763:=0
def tw4582707726904560976:=0
def tw4561643760527974423:=0
def tw4334540246265674729:=0
def tw4326818164406091635:=0
def tw4270381055641165262:=0
def tw4120246186795033041:=0
def tw4094096710936945048:=0
def tw406141328155208072:=0
def tw4008373191391378891:=0
def tw3989464500780712314:=0
def tw397244179592491683:=0
def tw3732344833004539779:=0
def tw3682520903643028193:=0
def tw34166927096336353:=0
def tw3409758778688845855:=0
def tw3357733512173027472:=0
def tw3315553420588364290:=0
def tw3299858865029155628:=0
def tw3241196255708330289:=0
def tw3210929787173782153:=0
def tw3018864038231020425:=0
def tw2953555178471243704:=0
def tw2918679194496520231:=0
def tw2878367196217530822:=0
def tw2866614227562712751:=0
def tw2806149345028856750:=0
def tw2707882504019568945:=0
def tw2645424969008139152:=0
def tw2589354438056874013:=0
def tw2563508464855359887:=0
def tw2342304483145765792:=0
def tw2341909525944254408:=0
def tw2169849224489679981:=0
def tw1944764644683134871:=0
def tw18315764449524776334:=0
def tw18220849773425283285:=0
def tw18137029815571352241:=0
def tw1795725713697902568:=0
def tw17770035212224566423:=0
def tw17665641114044024020:=0
def tw17643138946928544053:=0
def tw17567953125136568793:=0
def tw1755854056975907657:=0
def tw17551719397467678937:=0
def tw17501189572891950112:=0
def tw17498355692994393544:=0
def tw17169899079084835272:=0
def tw17142916933276197882:=0
def tw16827241121371527252:=0
def tw16793111105907535370:=0
def tw16361694970883690848:=0
def tw1629787660493938144:=0
def tw16143744319175984828:=0
def tw16014680569572669112:=0
def tw15952626619479824499:=0
def tw15798615595419223155:=0
def tw15724187702927509206:=0
def tw15647386149351569143:=0
def tw15549153647478506418:=0
def tw15522616421810867610:=0
def tw15373181024847678118:=0
def tw15291685334743699751:=0
def tw15260537142088680607:=0
def tw15189446900839940784:=0
def tw15152643121419273856:=0
def tw14941884055751529301:=0
def tw14878736036547513549:=0
def tw1444454049318787547:=0
def tw14358868351593102755:=0
def tw14325748545870769190:=0
def tw14260563048610454454:=0
def tw14246394748673549080:=0
def tw14160080825914845899:=0
def tw13934205694652096072:=0
def tw13876202014610680576:=0
def tw13658750045178115172:=0
def tw13625894711224386638:=0
def tw13586655864074338511:=0
def tw13585693965410636305:=0
def tw13564921980057557723:=0
def tw13524447897083755971:=0
def tw13389109935689831292:=0
def tw13306084339615566899:=0
def tw13045474816180396499:=0
def tw13034812416914113951:=0
def tw1299615603920399491:=0
def tw12981699929568918392:=0
def tw12545423779096056593:=0
def tw12513242047066350212:=0
def tw12504412495999327507:=0
def tw12375692633321741208:=0
end PySem.W.Fast
open PySem PySem.W PyProof.Rows
set_option maxRecDepth 100000 in
set_option maxHeartbeats 0 in
theorem PySem.Challenge.cw_swapstars_k74_a_desk_told_holds : PySem.Challenge.rw_swapstars_k74_a_desk_told.Holds := by
 w_on;o_law;k_head;(case hw=>w_witness2)
 k_fill
 refine Sw.walk (l:=PySem.Challenge.rw_swapstars_k74_a_desk_told) rfl rfl (fun w h Y=>W.kIn_of Y) ?F
 case F=>
  intro w mg fa h KX G hmg
  refine' Sw.all_mk (due:=[("row",_),("star",_),("home",_),("copy",_),("join",_),("forth",_),("back",_),("drop",_),("show",_),("order",_),("kind",_),("least",_),("parts",_),("holes",_),("lead",_),("tree",_),("cars",_),("begun",_),("count",_),("joined",_),("names",_)]) KX G hmg ?ds0 ?ds1 ?ds2 ?zs ?cs ?eP ?gE ?fS ?fU ?aDUE ?kx ?tupk ?aANS ?ky ?kJ ?aDesk ?tdk ?mI ?mR ?mY ?au2 ?ku2 ?kib
  (case ds0|ds1|ds2=>repeat(first|exact trivial|refine .c (by k_is) ⟨_,_,_,_,_,_,_,_,_,by k_is,by k_is,by k_is⟩ ?_))
  (case zs=>repeat(first|exact trivial|refine .c (by k_is) ?_))
  (case cs=>exact⟨⟨_,_,_,_,_,_,_,_,_,_,_,_,_⟩,⟨by dsimp only;k_is,by dsimp only;k_is,by dsimp only;k_is,by dsimp only;k_is,by dsimp only;k_is,by dsimp only;k_is,by dsimp only;k_is,by dsimp only;k_is,by dsimp only;k_is,by dsimp only;k_is,by dsimp only;k_is,by dsimp only;k_is,by dsimp only;k_is⟩,⟨⟨by first|k_is|(dsimp only;k_is),by first|k_is|(dsimp only;k_is),by first|k_is|(dsimp only;k_is),by first|k_is|(dsimp only;k_is),by first|k_is|(dsimp only;k_is),by first|k_is|(dsimp only;k_is),by first|k_is|(dsimp only;k_is),by kernel_rfl⟩,⟨by dsimp only;k_is,by kernel_rfl,by dsimp only;k_is,by dsimp only;k_is⟩,by dsimp only;kit_is,⟨false,false,false,true,false,false,false,false,false,false,false,false,by dsimp only;kit_is,by dsimp only;kit_is,by dsimp only;kit_is,by dsimp only;kit_is,by dsimp only;kit_is,by dsimp only;kit_is,by dsimp only;kit_is,by dsimp only;kit_is,by dsimp only;kit_is,by dsimp only;kit_is,by dsimp only;kit_is,by dsimp only;kit_is,by decide⟩,by decide⟩,⟨⟨by first|k_is|(dsimp only;k_is),by first|k_is|(dsimp only;k_is),by first|k_is|(dsimp only;k_is),by first|k_is|(dsimp only;k_is),by first|k_is|(dsimp only;k_is),by first|k_is|(dsimp only;k_is),by first|k_is|(dsimp only;k_is),by kernel_rfl⟩,⟨by dsimp only;k_is,by kernel_rfl,by dsimp only;k_is,by dsimp only;k_is⟩,by dsimp only;kit_is,⟨false,false,false,false,false,false,false,false,false,true,false,false,by dsimp only;kit_is,by dsimp only;kit_is,by dsimp only;kit_is,by dsimp only;kit_is,by dsimp only;kit_is,by dsimp only;kit_is,by dsimp only;kit_is,by dsimp only;kit_is,by dsimp only;kit_is,by dsimp only;kit_is,by dsimp only;kit_is,by dsimp only;kit_is,by decide⟩,by decide⟩,⟨⟨by first|k_is|(dsimp only;k_is),by first|k_is|(dsimp only;k_is),by first|k_is|(dsimp only;k_is),by first|k_is|(dsimp only;k_is),by first|k_is|(dsimp only;k_is),by first|k_is|(dsimp only;k_is),by first|k_is|(dsimp only;k_is),by kernel_rfl⟩,⟨by dsimp only;k_is,by kernel_rfl,by dsimp only;k_is,by dsimp only;k_is⟩,by dsimp only;kit_is,⟨false,false,false,false,false,false,false,false,false,false,false,true,by dsimp only;kit_is,by dsimp only;kit_is,by dsimp only;kit_is,by dsimp only;kit_is,by dsimp only;kit_is,by dsimp only;kit_is,by dsimp only;kit_is,by dsimp only;kit_is,by dsimp only;kit_is,by dsimp only;kit_is,by dsimp only;kit_is,by dsimp only;kit_is,by decide⟩,by decide⟩,by kernel_rfl,by kernel_rfl,by kernel_rfl,by kernel_rfl⟩)
  (case eP|gE|fS|fU|aDUE=>k_is)
  (case kx=>exact⟨rfl,_,_,by k_is,by repeat(first|exact .nil|refine .cons ?_)⟩)
  (case tupk=>repeat(first|exact .nil|refine Sw.Kw (by k_is) (by decide) (by decide) (by repeat(first|exact .nil|refine .cons ⟨_,rfl⟩ ?_)) ?_))
  (case aANS=>k_is)
  (case ky=>exact⟨rfl,_,_,by k_is,by repeat(first|exact .nil|refine .cons ?_)⟩)
  (case kJ|aDesk=>k_is)
  (case tdk=>exact⟨⟨by first|k_is|kernel_rfl,by first|k_is|kernel_rfl,by first|k_is|kernel_rfl,by first|k_is|kernel_rfl⟩,by unfold L2.gO;first|k_is|kernel_rfl,by unfold L2.gO;first|k_is|kernel_rfl⟩)
  (case mI=>exact⟨_,⟨by first|k_is|kernel_rfl,by first|k_is|kernel_rfl,by first|k_is|kernel_rfl,by first|k_is|kernel_rfl⟩,_,_,_,_,_,_,_,_,_,by first|k_is|kernel_rfl,by first|k_is|kernel_rfl,by first|k_is|kernel_rfl⟩)
  (case mR|mY=>exact⟨_,⟨by first|k_is|kernel_rfl,by first|k_is|kernel_rfl,by first|k_is|kernel_rfl⟩,_,_,_,_,_,_,_,_,_,by first|k_is|kernel_rfl,by first|k_is|kernel_rfl,by first|k_is|kernel_rfl⟩)
  (case au2=>k_is)
  (case ku2=>exact⟨rfl,by decide,_,_,by k_is,.cons (.cons .nil)⟩)
  (case kib=>exact L2.tD _)
