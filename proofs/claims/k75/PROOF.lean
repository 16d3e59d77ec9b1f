import PyProof.Rows.All
import Wide.All
import OpenK.AllK
import Wide.FinOn
import Lean
import PyProof.EqAt
import PyProof.EqKinds
import PyProof.TupleCall
import KE.KIntText
import PyProof.StrBlockH
import PyProof.StrLawsTight
import PyProof.StrLawsReplace
import PyProof.StrLawsJoin
import PyProof.StrLawsNeg
import KE.LcSums
import PyProof.ZipIter
import PyProof.Draws
import PyProof.ToksMono
import PyProof.StrReplace2
import KE.KSortAsk
import KE.KItemsList
import KE.KRevIter
import PySem.Challenge.RW_swapstars_k75_a_desk_asked
open PySem.Str renaming ofString→NX
open List renaming length_map→NY
open List renaming getElem?_map→NZ
open List renaming length_append→N0
open List renaming getElem?_eq_getElem→N1
open List renaming map_append→N2
open List renaming length_cons→N3
open List renaming map_cons→N4
open List renaming length_take→N5
open List renaming mem_cons→N6
open List renaming map_map→N7
open List renaming getD_eq_getElem?_getD→N8
open List renaming mem_of_getElem?→N9
set_option Elab.async false
set_option linter.all false
set_option maxRecDepth 100000
set_option maxHeartbeats 8000000
namespace L2
open PySem PySem.Spec PyProof.Rows
abbrev Key:=Sum Int Str
def qt:Key->Value->Bool
 | .inl k,v=>Value.isInt k v
 | .inr x,v=>Value.isStrOf x v
def M4(w:World):Key->Int
 | .inl k=>hashInt k
 | .inr x=>hashStr w x
theorem bR:∀{k:Key}{v:Value},qt k v=true->(∃i t,k=Sum.inl i/\v=Value.int i t)\/(∃x t,k=Sum.inr x/\v=Value.str x t)
 | .inl i,v,h=>by
  obtain⟨t,e⟩:=Value.isInt_shape (k:=i) (v:=v) h
  exact .inl ⟨i,t,rfl,e⟩
 | .inr x,v,h=>by
  obtain⟨t,e⟩:=Value.isStrOf_shape (x:=x) (v:=v) h
  exact .inr ⟨x,t,rfl,e⟩
theorem Bs(i:Int)(t:Tok):qt (.inl i) (.int i t)=true:=by simp[qt,Value.isInt]
theorem BR(x:Str)(t:Tok):qt (.inr x) (.str x t)=true:=by simp[qt,Value.isStrOf]
theorem Jk(a b:Int):decide ((Sum.inl a:Key)=Sum.inl b)=(a==b):=by
 by_cases e:a=b
 .subst e;simp
 .have h:¬(Sum.inl a:Key)=Sum.inl b:=fun q=>e (Sum.inl.inj q)
  rw[decide_eq_false h]
  exact(beq_eq_false_iff_ne.mpr e).symm
theorem Ka(a b:Str):decide ((Sum.inr a:Key)=Sum.inr b)=decide (a=b):=by
 by_cases e:a=b
 .subst e;simp
 .have h:¬(Sum.inr a:Key)=Sum.inr b:=fun q=>e (Sum.inr.inj q)
  rw[decide_eq_false h,decide_eq_false e]
theorem I0(a:Int)(b:Str):decide ((Sum.inl a:Key)=Sum.inr b)=false:=decide_eq_false (fun q=>nomatch q)
theorem IP(a:Str)(b:Int):decide ((Sum.inr a:Key)=Sum.inl b)=false:=decide_eq_false (fun q=>nomatch q)
def aV(prog:Program)(w:World):PySem.KeyKind prog w Key where
 is:=qt
 hash:=M4 w
 inj:=fun v a b ha hb=>by
  rcases bR ha with⟨i,t,rfl,rfl⟩|⟨x,t,rfl,rfl⟩
  .rcases bR hb with⟨j,u,rfl,e⟩|⟨y,u,rfl,e⟩
   .injection e with e1 _;rw[e1]
   .exact nomatch e
  .rcases bR hb with⟨j,u,rfl,e⟩|⟨y,u,rfl,e⟩
   .exact nomatch e
   .injection e with e1 _;rw[e1]
 byValue:=fun k v h=>by
  rcases bR h with⟨i,t,rfl,rfl⟩|⟨x,t,rfl,rfl⟩<;>rfl
 pyHash:=fun hv h=>by
  rcases bR hv with⟨i,t,rfl,rfl⟩|⟨x,t,rfl,rfl⟩
  .exact wpAny_pyHash_int h
  .exact wpAny_pyHash_str h
 eqBool:=fun hu hv h=>by
  rcases bR hu with⟨i,t,rfl,rfl⟩|⟨x,t,rfl,rfl⟩
  .rcases bR hv with⟨j,u,rfl,rfl⟩|⟨y,u,rfl,rfl⟩
   .rw[Jk]at h;exact wpAny_eqBool_int h
   .rw[I0]at h;exact SeqAt.EqAt.int_str i t y u _ _ _ _ h
  .rcases bR hv with⟨j,u,rfl,rfl⟩|⟨y,u,rfl,rfl⟩
   .rw[IP]at h;exact SeqAt.EqAt.str_int x t j u _ _ _ _ h
   .rw[Ka]at h;exact wpAny_eqBool_str h
 «strs»:=fun k x t v h=>by
  rcases bR h with⟨i,u,rfl,e⟩|⟨y,u,rfl,e⟩
  .exact nomatch e
  .injection e with e1 _
   subst e1
   cases v<;>rfl
theorem wW(prog:Program)(w:World)(i:Int)(t:Tok):(aV prog w).is (.inl i) (.int i t)=true:=Bs i t
theorem wJ(prog:Program)(w:World)(x:Str)(t:Tok):(aV prog w).is (.inr x) (.str x t)=true:=BR x t
inductive V where
 |cP|bl (b:Bool)|int (i:Int)|str (x:Str)|byt (b:Array UInt8)|jR (b:UInt64)|ref (a:Addr)|ty (n:String)
 deriving DecidableEq
def RelV:V->Value->Prop
 | .cP,u=>u=Value.none
 | .bl b,u=>u=Value.bool b
 | .int i,u=>∃t,u=Value.int i t
 | .str x,u=>∃t,u=Value.str x t
 | .byt b,u=>∃t,u=Value.bytes b t
 | .jR b,u=>∃t,u=Value.float b t
 | .ref a,u=>u=Value.ref a
 | .ty n,u=>u=Value.type n
abbrev Vals:List V->List Value->Prop:=Paired RelV
theorem Vals.length {xs:List V}{us:List Value}(r:Vals xs us):xs.length=us.length:=Paired.length r
theorem Vals.get:∀{xs:List V}{us:List Value}{i:Nat}{x:V},Vals xs us->xs[i]?=some x->∃u,us[i]?=some u/\RelV x u
 |_,_,_,_,.nil,e=>by simp at e
 |_,_,0,_,.cons r _,e=>by simp at e;subst e;exact⟨_,rfl,r⟩
 |_,_,i+1,x,.cons _ t,e=>by
  obtain⟨u,h1,h2⟩:=Vals.get (i:=i) (x:=x) t (by simpa using e)
  exact⟨u,by simpa using h1,h2⟩
theorem Vals.set {x:V}{u:Value}(r:RelV x u):∀{xs:List V}{us:List Value}(i:Nat),Vals xs us->Vals (xs.set i x) (us.set i u)
 |_,_,_,.nil=> .nil
 |_,_,0,.cons _ t=> .cons r t
 |_,_,i+1,.cons q t=> .cons q (Vals.set r i t)
theorem Vals.append:∀{xs ys:List V}{us ws:List Value},Vals xs us->Vals ys ws->Vals (xs++ys) (us++ws)
 |_,_,_,_,.nil,s=>s
 |_,_,_,_,.cons r t,s=> .cons r (Vals.append t s)
theorem Vals.take:∀{xs:List V}{us:List Value}(n:Nat),Vals xs us->Vals (xs.take n) (us.take n)
 |_,_,0,_=> .nil
 |_,_,_+1,.nil=> .nil
 |_,_,n+1,.cons r t=> .cons r (Vals.take n t)
theorem Vals.drop:∀{xs:List V}{us:List Value}(n:Nat),Vals xs us->Vals (xs.drop n) (us.drop n)
 |_,_,0,r=>r
 |_,_,_+1,.nil=> .nil
 |_,_,n+1,.cons _ t=>Vals.drop n t
def jc:Option V->Option Value->Prop
 |some v,some u=>RelV v u
 |none,none=>True
 |_,_=>False
def KV{κ:Type}:List (κ×V)->List (κ×Value)->Prop:=Paired fun(p:κ×V)(q:κ×Value)=>p.1=q.1/\RelV p.2 q.2
def kV:Key->V
 | .inl i=> .int i
 | .inr x=> .str x
inductive HO where
 |lst (xs:List V)
 |tup (xs:List V)
 |dK (kvs:List (Key×V))|dT (kvs:List (List Key×V))
 |set (S:Int->Bool) (n:Nat)
 |ins (C dx:Addr) (fs:List (Str×V))
 |own (x:Addr)
 |xd (fs:List (Str×V))
 |met (f x:Addr)
 |yS (lo hi:Int)
 |w4 (o:Obj) (u:HO)
 |Hx (ps:Array Value)
 |ext (φ:Heap->Prop)
abbrev Hp:=Addr->Option HO
def upd(H:Hp)(a:Addr)(o:HO):Hp:=fun b=>if b=a then some o else H b
theorem ae{H:Hp}{a:Addr}{o:HO}:upd H a o a=some o:=by unfold upd;rw[if_pos rfl]
theorem ao{H:Hp}{a b:Addr}{o:HO}(h:b≠a):upd H a o b=H b:=by unfold upd;rw[if_neg h]
theorem E1{H:Hp}{a:Addr}{o u:HO}:upd (upd H a o) a u=upd H a u:=by
 funext b;unfold upd;split<;>rfl
theorem zS{H:Hp}{a b:Addr}{o u:HO}(h:H a=some o)(h':H b=some u)(d:o≠u):a≠b:=by
 intro e;subst e;rw[h]at h';exact d (Option.some.inj h')
theorem aj{H:Hp}{a b:Addr}{o:HO}(h:H a=some o)(h':H b=none):a≠b:=by
 intro e;subst e;rw[h]at h';cases h'
section
variable(P:Program)(w:World)
def bN(H:Hp)(h:Heap)(a:Addr):HO->Prop
 | .lst xs=>xs.length<=sizeLine/\∃(its:List Value)(n:Nat),Vals xs its/\h.get? a=some {cls:= .type "list",data:= .seq its.toArray n}
 | .tup xs=>xs.length<=sizeLine/\∃its:List Value,Vals xs its/\IsTup h a its.toArray
 | .dK kvs=>kvs.length<=sizeLine/\(a==sysModules)=false/\∃vs,KV kvs vs/\h.DictOf (aV P w) a vs
 | .dT kvs=>kvs.length<=sizeLine/\(a==sysModules)=false/\∃xs:List (List Key×Addr×Value),
   Paired (fun(p:List Key×V)(q:List Key×Addr×Value)=>p.1=q.1/\H q.2.1=some (.tup (p.1.map kV))/\RelV p.2 q.2.2) kvs xs/\
   ∃o es ep,h.get? a=some o/\o.ExactDict/\o.data= .dict es ep/\es.toList=xs.map (entryOfKey (tupleKind (aV P w)))/\(xs.map (·.1)).Nodup
 | .set S n=>h.SetOf (intKind P w) a S n
 | .ins C dx fs=>H dx=some (.own a)/\fs.length<=1000/\dx≠a/\h.get? a=some (W.instObj C dx)/\
   ∃mA,h.Ns1 dx mA/\(∀f,jc (fs.lookup f) (mA f))/\PySem.Within mA (fs.map (·.1))
 | .own _=>∃o,h.get? a=some o
 | .xd fs=>∃mA,h.Ns1 a mA/\∀f,jc (fs.lookup f) (mA f)
 | .yS lo hi=>∃t u v,h.get? a=some {cls:= .type "range",data:= .fields #[.int lo t,.int hi u,.int 1 v]}
 | .w4 o u=>h.get? a=some o/\bN H h a u
 | .Hx ps=>h.get? a=some {cls:= .none,data:= .fields ps}
 | .met f x=>h.get? a=some (W.methodObj (.ref f) (.ref x))
 | .ext φ=>φ h/\(∃o,h.get? a=some o)/\∀h1 h2:Heap,φ h1->(∀o,h1.get? a=some o->h2.get? a=some o)->φ h2
def lz(H:Hp)(h:Heap):Prop:=∀a o,H a=some o->bN P w H h a o
end
section
variable{P:Program}{w:World}{H H':Hp}{h h':Heap}{a:Addr}{o:HO}
theorem bN.lt (x:bN P w H h a o):a<h.objs.size:=by
 cases o with
 |lst xs=>obtain⟨_,_,_,_,e⟩:=x;exact Heap.lt_size e
 |tup xs=>obtain⟨_,_,_,p⟩:=x;exact p.lt
 |dK kvs=>obtain⟨_,_,_,_,o,_,_,e,_⟩:=x;exact Heap.lt_size e
 |dT kvs=>obtain⟨_,_,_,_,o,_,_,e,_⟩:=x;exact Heap.lt_size e
 |set S n=>obtain⟨o,_,_,_,e,_⟩:=x;exact Heap.lt_size e
 |ins C dx fs=>obtain⟨_,_,_,e,_⟩:=x;exact Heap.lt_size e
 |own y=>obtain⟨_,e⟩:=x;exact Heap.lt_size e
 |xd fs=>obtain⟨_,⟨_,_,_,e,_⟩,_⟩:=x;exact Heap.lt_size e
 |yS lo hi=>obtain⟨_,_,_,e⟩:=x;exact Heap.lt_size e
 |w4 ob u=>obtain⟨e,_⟩:=x;exact Heap.lt_size e
 |Hx ps=>exact Heap.lt_size (show h.get? a=some _ from x)
 |met f y=>exact Heap.lt_size (show h.get? a=some _ from x)
 |ext φ=>obtain⟨_,⟨_,e⟩,_⟩:=x;exact Heap.lt_size e
theorem Paired.yn {α β:Type}{F G:α->β->Prop}:∀{l₁:List α}{l₂:List β},Paired F l₁ l₂->(∀a b,F a b->G a b)->Paired G l₁ l₂
 |_,_,.nil,_=> .nil
 |_,_,.cons r t,f=> .cons (f _ _ r) (Paired.yn t f)
theorem bN.iF (x:bN P w H h a o)(k:∀b u,(b=a\/H b=some (.own a))->h.get? b=some u->h'.get? b=some u)
  (ho:∀b,H b=some (.own a)->H' b=some (.own a)) (ht:∀b xs,H b=some (.tup xs)->H' b=some (.tup xs)):bN P w H' h' a o:=by
 induction o with
 |lst xs=>obtain⟨z,its,n,r,e⟩:=x;exact⟨z,its,n,r,k _ _ (.inl rfl) e⟩
 |tup xs=>obtain⟨z,its,r,ob,e,c⟩:=x;exact⟨z,its,r,ob,k _ _ (.inl rfl) e,c⟩
 |dK kvs=>obtain⟨z,y,vs,r,ob,es,ep,e,c⟩:=x;exact⟨z,y,vs,r,ob,es,ep,k _ _ (.inl rfl) e,c⟩
 |dT kvs=>
  obtain⟨z,y,xs,r,ob,es,ep,e,c⟩:=x
  exact⟨z,y,xs,Paired.yn r fun p q z=>⟨z.1,ht _ _ z.2.1,z.2.2⟩,ob,es,ep,k _ _ (.inl rfl) e,c⟩
 |set S n=>obtain⟨ob,es,ep,t,e,c⟩:=x;exact⟨ob,es,ep,t,k _ _ (.inl rfl) e,c⟩
 |ins C dx fs=>
  obtain⟨d,z,ne,e,mA,⟨od,es,ep,e2,c⟩,r⟩:=x
  exact⟨ho _ d,z,ne,k _ _ (.inl rfl) e,mA,⟨od,es,ep,k _ _ (.inr d) e2,c⟩,r⟩
 |own y=>obtain⟨ob,e⟩:=x;exact⟨ob,k _ _ (.inl rfl) e⟩
 |xd fs=>obtain⟨mA,⟨od,es,ep,e,c⟩,r⟩:=x;exact⟨mA,⟨od,es,ep,k _ _ (.inl rfl) e,c⟩,r⟩
 |yS lo hi=>obtain⟨t,u,v,e⟩:=x;exact⟨t,u,v,k _ _ (.inl rfl) e⟩
 |w4 ob u ih=>obtain⟨e,q⟩:=x;exact⟨k _ _ (.inl rfl) e,ih q⟩
 |Hx ps=>
  have e:h.get? a=some {cls:= .none,data:= .fields ps}:=x
  show h'.get? a=some {cls:= .none,data:= .fields ps}
  exact k a _ (.inl rfl) e
 |met f y=>
  have e:h.get? a=some (W.methodObj (.ref f) (.ref y)):=x
  show h'.get? a=some (W.methodObj (.ref f) (.ref y))
  exact k a _ (.inl rfl) e
 |ext φ=>obtain⟨p,⟨o,e⟩,st⟩:=x;exact⟨st _ _ p fun o q=>k _ _ (.inl rfl) q,⟨o,k _ _ (.inl rfl) e⟩,st⟩
theorem lz.lt (x:lz P w H h)(e:H a=some o):a<h.objs.size:=(x a o e).lt
theorem lz.fresh (x:lz P w H h)(e:h.objs.size<=a):H a=none:=by
 cases q:H a with
 |none=>rfl
 |some u=>exact absurd (Nat.lt_of_lt_of_le (x.lt q) e) (Nat.lt_irrefl _)
theorem lz.kept (x:lz P w H h)(k:∀b u,h.get? b=some u->h'.get? b=some u):lz P w H h':=fun a o e=>
 (x a o e).iF (fun b u _ q=>k b u q) (fun _ q=>q) fun _ _ q=>q
theorem lz.laid (x:lz P w H h)(k:∀b u,h.get? b=some u->h'.get? b=some u)(hp:h.objs.size<=a)(new:bN P w (upd H a o) h' a o):lz P w (upd H a o) h':=fun b u e=>by
 have hn:=x.fresh hp
 by_cases hb:b=a
 .subst hb;rw[ae]at e;cases e;exact new
 .rw[ao hb]at e
  exact(x b u e).iF (fun c v _ q=>k c v q) (fun c q=>by rw[ao (aj q hn)];exact q) fun c xs q=>by rw[ao (aj q hn)];exact q
end
def Rd(H:Hp)(a:Addr)(u:HO):Prop:=H a=some u\/∃o,H a=some (.w4 o u)
theorem Rd.ok {P:Program}{w:World}{H:Hp}{h:Heap}{a:Addr}{u:HO}(r:Rd H a u)(x:lz P w H h):bN P w H h a u:=by
 rcases r with r|⟨o,r⟩
 .exact x a u r
 .obtain⟨_,q⟩:=x a _ r
  exact q
def Li:Option HO->Prop
 |some (.lst _)=>True
 |some (.dK _)=>True
 |some (.dT _)=>True
 |some (.set _ _)=>True
 |some (.ins _ _ _)=>True
 |some (.ext _)=>True
 |_=>False
section
variable{P:Program}{w:World}{H:Hp}{h h':Heap}{x e:Addr}{o':HO}
theorem lz.write (ok:lz P w H h)(mu:Li (H x))(he:e=x\/H e=some (.own x))(k:∀b u,b≠e->h.get? b=some u->h'.get? b=some u)(heo:∃u,h'.get? e=some u)
  (new:bN P w (upd H x o') h' x o'):lz P w (upd H x o') h':=fun b u q=>by
 have nown:∀c y,H c=some (.own y)->c≠x:=fun c y r z=>by subst z;rw[r]at mu;exact mu
 have ntup:∀c xs,H c=some (.tup xs)->c≠x:=fun c xs r z=>by subst z;rw[r]at mu;exact mu
 by_cases hb:b=x
 .subst hb;rw[ae]at q;cases q;exact new
 .rw[ao hb]at q
  by_cases hbe:b=e
  .have q':H b=some (.own x):=by
    rcases he with z|z
    .exact absurd (hbe.trans z) hb
    .rw[hbe];exact z
   rw[q]at q';cases q'
   obtain⟨v,hv⟩:=heo
   exact⟨v,by rw[hbe];exact hv⟩
  .refine(ok b u q).iF (fun c v hc r=>k c v ?_ r) (fun c r=>by rw[ao (nown c b r)];exact r) fun c xs r=>by rw[ao (ntup c xs r)];exact r
   rcases hc with rfl|hc
   .exact hbe
   .rintro rfl
    rcases he with z|z
    .exact nown c b hc z
    .rw[hc]at z;cases z;exact hb rfl
end
structure Un(fs ex:List Addr)(H H':Hp)(h h':Heap):Prop where
 keep:∀b o,h.get? b=some o->H b=none->b∉fs->b∉ex->h'.get? b=some o
 slot:∀b o,h.get? b=some o->H b=none->b∈fs->b∉ex->∃sl,h'.get? b=some {o with slots:=sl}
 free:∀b o,h.get? b=some o->H b=none->b∉ex->H' b=none
 there:∀b o,h.get? b=some o->b∉ex->∃o',h'.get? b=some o'
 cy:∀b xs,H b=some (.tup xs)->H' b=some (.tup xs)
 iX:∀b o u,H b=some (.w4 o u)->H' b=some (.w4 o u)
 jM:∀b ps,H b=some (.Hx ps)->∃more,H' b=some (.Hx (ps++more))
section
variable{fs fs' ex ex':List Addr}{H H1 H2:Hp}{h h1 h2 h':Heap}{a x e:Addr}{o:HO}
theorem Un.any (u:Un fs ex H H1 h h1){b:Addr}{ob:Obj}(q:h.get? b=some ob)(n:H b=none)(hx:b∉ex):∃sl,h1.get? b=some {ob with slots:=sl}:=by
 by_cases hb:b∈fs
 .exact u.slot b ob q n hb hx
 .exact⟨ob.slots,u.keep b ob q n hb hx⟩
theorem Un.kept (k:∀b u,h.get? b=some u->h'.get? b=some u):Un fs ex H H h h':=
 ⟨fun b ob q _ _ _=>k b ob q,fun b ob q _ _ _=>⟨ob.slots,k b ob q⟩,fun _ _ _ n _=>n,fun b ob q _=>⟨ob,k b ob q⟩,fun _ _ q=>q,fun _ _ _ q=>q,fun _ ps q=>⟨#[],by rw[q];simp⟩⟩
theorem Un.refl:Un fs ex H H h h:=Un.kept fun _ _ q=>q
theorem Un.laid (k:∀b u,h.get? b=some u->h'.get? b=some u)(hp:h.objs.size<=a)(hn:H a=none):Un fs ex H (upd H a o) h h' where
 keep:=fun b u q _ _ _=>k b u q
 slot:=fun b u q _ _ _=>⟨u.slots,k b u q⟩
 free:=fun b u q n _=>by rw[ao (Nat.ne_of_lt (Nat.lt_of_lt_of_le (Heap.lt_size q) hp))];exact n
 there:=fun b u q _=>⟨u,k b u q⟩
 cy:=fun b xs q=>by rw[ao (aj q hn)];exact q
 iX:=fun b u xs q=>by rw[ao (aj q hn)];exact q
 jM:=fun b ps q=>⟨#[],by rw[ao (aj q hn),q];simp⟩
theorem Un.write (mu:Li (H x))(he:e=x\/H e=some (.own x))(k:∀b u,b≠e->h.get? b=some u->h'.get? b=some u)(heo:∃u,h'.get? e=some u):Un fs ex H (upd H x o) h h':=by
 have hx:∀b,H b=none->b≠x:=fun b n z=>by subst z;rw[n]at mu;exact mu
 have hb:∀b,H b=none->b≠e:=fun b n z=>by
  subst z
  rcases he with r|r
  .exact hx b n r
  .rw[n]at r;cases r
 have hm:∀b u,H b=some u->¬Li (some u)->b≠x:=fun b u q nm z=>by subst z;rw[q]at mu;exact nm mu
 refine⟨fun b u q n _ _=>k b u (hb b n) q,fun b u q n _ _=>⟨u.slots,k b u (hb b n) q⟩,fun b u q n _=>by rw[ao (hx b n)];exact n,fun b u q _=>?_,
  fun b xs q=>by rw[ao (hm b _ q fun z=>z)];exact q,fun b u xs q=>by rw[ao (hm b _ q fun z=>z)];exact q,fun b ps q=>⟨#[],by rw[ao (hm b _ q fun z=>z),q];simp⟩⟩
 by_cases hbe:b=e
 .subst hbe;exact heo
 .exact⟨u,k b u hbe q⟩
end
def vM(h:Heap)(H:Hp):List Addr:=(List.range h.objs.size).filter fun a=>(H a).isSome
def uu(h:Heap)(H:Hp):Heap:=W.hideAll h (vM h H)
theorem BS(h:Heap)(H:Hp):(uu h H).objs.size=h.objs.size:=W.hideAll_size _ _
theorem Ec{h:Heap}{H:Hp}{b:Addr}{o:Obj}(e:h.get? b=some o)(n:H b=none):(uu h H).get? b=some o:=
 W.hideAll_get _ e fun hm=>by
  have q:(H b).isSome=true:=(List.mem_filter.mp hm).2
  rw[n]at q;simp at q
theorem Fh{h:Heap}{H:Hp}{b:Addr}{o:Obj}(e:(uu h H).get? b=some o):h.get? b=some o/\H b=none:=by
 have e':h.get? b=some o:=W.of_hideAll (vM h H) e
 refine⟨e',?_⟩
 cases q:H b with
 |none=>rfl
 |some x=>
  have hm:b∈vM h H:=List.mem_filter.mpr ⟨List.mem_range.mpr (Heap.lt_size e'),by simp[q]⟩
  have z:(uu h H).get? b=none:=W.hideAll_none (vM h H) hm
  rw[z]at e;cases e
structure Mod(K:W.Frag)(mg:Str->Option Value)(base:Heap):Prop where
 ET:K.In base
 glob:base.Ns mainGlobals mg
 blt:∃mb,base.Ns builtinsNs mb/\∀x:Str,x≠"__name__"->mb x=bootBuiltins x
 nolimit:base.NoLimit
structure Cx where
 prog:Program
 w:World
 K:W.Frag
 mg:Str->Option Value
 base:Heap
 A:Around
 N:List Str
 s₀:Shared
 H₀:Hp
 env:Env
 outer:List Env
 stack:List Env
 ex:List Addr
 fn:Str->Bool
 calm:Bool
 pn:List (Addr×Obj)
 xe:Value->Shared->Prop
def gQ(l:List Env):List Addr:=l.filterMap (·.frame)
abbrev Cx.fs (X:Cx):List Addr:=gQ X.outer
def Mo(sc:Scope)(x:Str):Prop:=sc.names.lookup x=some .local\/sc.names.lookup x=some .cell\/sc.names.lookup x=some .free
def Loc(sc:Scope)(x:Str):Prop:=sc.names.lookup x=some .local\/sc.names.lookup x=some .cell
def Look(env:Env)(h:Heap)(m:Str->Option Value)(x:Str)(u:Value):Prop:=
 (env.kindOf x=some .local/\m x=some u)\/((env.kindOf x=some .cell\/env.kindOf x=some .free)/\∃c,env.cells.lookup x=some c/\h.IsCell c (some u))
structure Cx.Ok (X:Cx):Prop where
 mod:Mod X.K X.mg X.base
 kind:X.env.scope.kind= .function
 glob:X.env.globals=mainGlobals
 blt:X.env.builtins=builtinsNs
 above:X.s₀.heap.objs.size<=X.env.locals
 inj:∀x y c,X.env.cells.lookup x=some c->X.env.cells.lookup y=some c->x=y
 has:∀x,(X.env.kindOf x=some .cell\/X.env.kindOf x=some .free)->∃c,X.env.cells.lookup x=some c
 DF:∀x c,X.fn x=true->X.env.cells.lookup x=some c->X.s₀.heap.objs.size<=c
 hd:X.calm=true->X.A.handled=none
 frames:X.A.frames=some X.stack
 Cd:X.stack=X.outer\/(X.stack=X.env::X.outer/\X.env.frame=some X.env.locals)
 HF:∀b∈X.ex,b≠X.env.locals/\∀x c,X.env.cells.lookup x=some c->c≠b
 bs:∀b o,X.base.get? b=some o->X.s₀.heap.get? b=some o/\X.H₀ b=none
 Ai:X.base.objs.size<=X.s₀.heap.objs.size
 qg:∀b o,X.base.get? b=some o->b∉X.ex
 sW:∀b∈X.ex,b∉X.fs
 iR:X.s₀.heap.FunFrames X.base X.outer
 p9:∀b∈X.fs,X.H₀ b=none
structure Inv(X:Cx)(pins:List (Addr×Obj))(σ:List (Option V))(H:Hp)(s:Shared):Prop where
 ok:X.Ok
 os:s.os=X.s₀.os
 bare:AllBare s.gens
 base:Un X.fs X.ex X.H₀ H X.s₀.heap s.heap
 loc:∃m,s.heap.Ns X.env.locals m/\∀(i:Nat)(x:Str)(v:V),X.N[i]?=some x->σ[i]?=some (some v)->Mo X.env.scope x->∃u,RelV v u/\Look X.env s.heap m x u
 cell:∀x c,X.env.cells.lookup x=some c->∃v,s.heap.IsCell c v
 free:H X.env.locals=none
 fO:∀x c,X.env.cells.lookup x=some c->H c=none
 pin:∀p∈X.pn++pins,s.heap.get? p.1=some p.2/\H p.1=none/\p.1≠X.env.locals/\p.1∉X.fs/\∀v,p.2.data≠.cell v
 aY:lz X.prog X.w H s.heap
 len:σ.length=X.N.length
section
variable{X:Cx}{pins:List (Addr×Obj)}{σ:List (Option V)}{H H':Hp}{s:Shared}{h':Heap}
theorem Cx.Ok.MY (ok:X.Ok){b:Addr}{o:Obj}(e:X.base.get? b=some o):b∉X.fs:=fun hb=>by
 have:=(ok.iR.mem hb).1
 rw[e]at this;cases this
theorem Inv.bs (I:Inv X pins σ H s):∀b o,X.base.get? b=some o->s.heap.get? b=some o/\H b=none:=fun b o e=>
 ⟨I.base.keep b o (I.ok.bs b o e).1 (I.ok.bs b o e).2 (I.ok.MY e) (I.ok.qg b o e),I.base.free b o (I.ok.bs b o e).1 (I.ok.bs b o e).2 (I.ok.qg b o e)⟩
theorem Inv.bk (I:Inv X pins σ H s):∀b o,X.base.get? b=some o->s.heap.get? b=some o:=fun b o e=>(I.bs b o e).1
theorem Inv.mod (I:Inv X pins σ H s):Mod X.K X.mg X.base:=I.ok.mod
theorem Inv.kU (I:Inv X pins σ H s):X.K.In s.heap:=I.ok.mod.ET.keeps I.bk
theorem Inv.lt (I:Inv X pins σ H s):X.env.locals<s.heap.objs.size:=let⟨_,hn,_⟩:=I.loc;hn.lt
theorem Inv.sz (I:Inv X pins σ H s):X.s₀.heap.objs.size<=s.heap.objs.size:=Nat.le_trans I.ok.above (Nat.le_of_lt I.lt)
theorem Inv.Ld (I:Inv X pins σ H s){a:Addr}(h:s.heap.objs.size<=a):a∉X.fs:=fun hb=>by
 obtain⟨_,o,ho,_⟩:=I.ok.iR.mem hb
 exact absurd (Nat.lt_of_lt_of_le (Heap.lt_size ho) (Nat.le_trans I.sz h)) (Nat.lt_irrefl _)
theorem Inv.DW (I:Inv X pins σ H s):∀x c,X.env.cells.lookup x=some c->c≠X.env.locals:=fun x c e z=>by
 obtain⟨v,o,ho,hd⟩:=I.cell x c e
 obtain⟨m,⟨o',es,ep,ho',hd',_⟩,_⟩:=I.loc
 rw[z,ho']at ho;cases ho;rw[hd']at hd;cases hd
theorem Inv.iR (I:Inv X pins σ H s):s.heap.FunFrames X.base X.outer:=by
 have all:∀(l:List Env),(∀b∈gQ l,b∈X.fs)->X.s₀.heap.FunFrames X.base l->s.heap.FunFrames X.base l:=by
  intro l
  induction l with
  |nil=>intro _ _;trivial
  |cons env r ih=>
   intro hs hl
   obtain⟨hk,⟨L,o,hf,hn,ho,hd⟩,hr⟩:=hl
   have hL:L∈X.fs:=hs L (by unfold gQ;rw[List.filterMap_cons,hf];exact List.mem_cons_self)
   obtain⟨sl,e⟩:=I.base.slot L o ho (I.ok.p9 L hL) hL fun z=>I.ok.sW L z hL
   exact⟨hk,⟨L,_,hf,hn,e,hd⟩,ih (fun b hb=>hs b (by unfold gQ;rw[List.filterMap_cons,hf];exact List.mem_cons_of_mem _ hb)) hr⟩
 exact all X.outer (fun _ hb=>hb) I.ok.iR
theorem Inv.stack (I:Inv X pins σ H s):s.heap.FunFrames X.base X.stack:=by
 rcases I.ok.Cd with e|⟨e,hf⟩
 .rw[e];exact I.iR
 .rw[e]
  obtain⟨m,hn,_⟩:=I.loc
  refine .cons (by rw[I.ok.kind];decide) hf hn ?_ I.iR
  exact Heap.get?_none_of_le (Nat.le_trans I.ok.Ai I.ok.above)
theorem Inv.kf (I:Inv X pins σ H s):∀b∈gQ X.stack,b∈X.env.locals::X.fs:=fun b hb=>by
 rcases I.ok.Cd with e|⟨e,hf⟩
 .rw[e]at hb;exact List.mem_cons_of_mem _ hb
 .rw[e]at hb
  unfold gQ at hb
  rw[List.filterMap_cons,hf]at hb
  exact hb
theorem Inv.qd (I:Inv X pins σ H s):∀b∈gQ X.stack,H b=none:=fun b hb=>by
 rcases List.mem_cons.mp (I.kf b hb)with e|hb
 .rw[e];exact I.free
 .obtain⟨_,o,ho,_⟩:=I.ok.iR.mem hb
  exact I.base.free b o ho (I.ok.p9 b hb) fun z=>I.ok.sW b z hb
theorem Inv.step {g':Array GenState}{t':Nat}{d':Drawn}{ch:List Addr}(I:Inv X pins σ H s)
  (hch:∀b∈ch,(b∈X.ex\/X.s₀.heap.objs.size<=b)/\b≠X.env.locals/\(∀x c,X.env.cells.lookup x=some c->c≠b)/\∀p∈X.pn++pins,p.1≠b)
  (keep:∀b o,b≠X.env.locals->b∉X.fs->b∉ch->s.heap.get? b=some o->H b=none->h'.get? b=some o)
  (slot:∀b o,b≠X.env.locals->b∈X.fs->b∉ch->s.heap.get? b=some o->H b=none->∃sl,h'.get? b=some {o with slots:=sl}) (free:∀b o,b∉ch->s.heap.get? b=some o->H b=none->H' b=none)
  (there:∀b o,b∉ch->s.heap.get? b=some o->∃o',h'.get? b=some o')
  (cy:∀b xs,H b=some (.tup xs)->H' b=some (.tup xs)) (iX:∀b o u,H b=some (.w4 o u)->H' b=some (.w4 o u)) (jM:∀b ps,H b=some (.Hx ps)->∃more,H' b=some (.Hx (ps++more)))
  (ns:∀m,s.heap.Ns X.env.locals m->h'.Ns X.env.locals m) (aY:lz X.prog X.w H' h') (hg:AllBare g'):
  Inv X pins σ H' {s with heap:=h',gens:=g',drawn:=d',toks:=t'}:=by
 have neL:∀b o,X.s₀.heap.get? b=some o->b≠X.env.locals:=fun b o e=>Nat.ne_of_lt (Nat.lt_of_lt_of_le (Heap.lt_size e) I.ok.above)
 have neC:∀b o,X.s₀.heap.get? b=some o->b∉X.ex->b∉ch:=fun b o e hx hb=>by
  rcases(hch b hb).1 with z|z
  .exact hx z
  .exact absurd (Nat.lt_of_lt_of_le (Heap.lt_size e) z) (Nat.lt_irrefl _)
 have cellK:∀x c,X.env.cells.lookup x=some c->∀v,s.heap.IsCell c v->h'.IsCell c v:=fun x c e v ⟨o,ho,hd⟩=>by
  have nch:c∉ch:=fun z=>(hch c z).2.2.1 x c e rfl
  by_cases hc:c∈X.fs
  .obtain⟨sl,q⟩:=slot c o (I.DW x c e) hc nch ho (I.fO x c e)
   exact⟨_,q,hd⟩
  .exact⟨o,keep c o (I.DW x c e) hc nch ho (I.fO x c e),hd⟩
 refine⟨I.ok,I.os,hg,⟨fun b o e n hb hx=>?_,fun b o e n hb hx=>?_,fun b o e n hx=>?_,fun b o e hx=>?_,fun b xs e=>cy b xs (I.base.cy b xs e),fun b o xs e=>iX b o xs (I.base.iX b o xs e),fun b ps e=>?_⟩,?_,fun x c e=>?_,?_,fun x c e=>?_,fun p hp=>?_,aY,I.len⟩
 .exact keep b o (neL b o e) hb (neC b o e hx) (I.base.keep b o e n hb hx) (I.base.free b o e n hx)
 .obtain⟨sl,e1⟩:=I.base.slot b o e n hb hx
  obtain⟨sl',e2⟩:=slot b _ (neL b o e) hb (neC b o e hx) e1 (I.base.free b o e n hx)
  exact⟨sl',e2⟩
 .obtain⟨o',e1⟩:=I.base.there b o e hx
  exact free b o' (neC b o e hx) e1 (I.base.free b o e n hx)
 .obtain⟨o',e1⟩:=I.base.there b o e hx
  exact there b o' (neC b o e hx) e1
 .obtain⟨m1,e1⟩:=I.base.jM b ps e
  obtain⟨m2,e2⟩:=jM b _ e1
  exact⟨m1++m2,by rw[e2,Array.append_assoc]⟩
 .obtain⟨m,hn,hl⟩:=I.loc
  refine⟨m,ns m hn,fun i x v e1 e2 e3=>?_⟩
  obtain⟨u,r,l⟩:=hl i x v e1 e2 e3
  refine⟨u,r,?_⟩
  rcases l with l|⟨k,c,e,z⟩
  .exact .inl l
  .exact .inr ⟨k,c,e,cellK x c e _ z⟩
 .obtain⟨v,z⟩:=I.cell x c e
  exact⟨v,cellK x c e v z⟩
 .obtain⟨m,⟨o,_,_,ho,_⟩,_⟩:=I.loc
  exact free _ o (fun z=>(hch _ z).2.1 rfl) ho I.free
 .obtain⟨v,o,ho,hd⟩:=I.cell x c e
  exact free c o (fun z=>(hch c z).2.2.1 x c e rfl) ho (I.fO x c e)
 .obtain⟨e,n,ne,nf,d⟩:=I.pin p hp
  have nch:p.1∉ch:=fun z=>(hch p.1 z).2.2.2 p hp rfl
  exact⟨keep p.1 p.2 ne nf nch e n,free p.1 p.2 nch e n,ne,nf,d⟩
theorem Inv.un {t':Nat}(I:Inv X pins σ H s)(u:Un X.fs [] H H' s.heap h')(aY:lz X.prog X.w H' h'):Inv X pins σ H' {s with heap:=h',toks:=t'}:=by
 obtain⟨m,⟨o,es,ep,ho,r⟩,_⟩:=id I.loc
 obtain⟨sl,hL⟩:=u.any ho I.free (by simp)
 exact I.step (g':=s.gens) (d':=s.drawn) (ch:=[]) (fun _ z=>nomatch z) (fun b o _ hb _ e n=>u.keep b o e n hb (by simp)) (fun b o _ hb _ e n=>u.slot b o e n hb (by simp)) (fun b o _ e n=>u.free b o e n (by simp)) (fun b o _ e=>u.there b o e (by simp)) u.cy u.iX u.jM (fun m' hm=>by
  obtain⟨o',es',ep',ho',r'⟩:=hm
  rw[ho]at ho';cases ho'
  exact⟨_,es',ep',hL,r'⟩) aY I.bare
theorem Inv.call {g':Array GenState}{t':Nat}{d':Drawn}{ch:List Addr}(I:Inv X pins σ H s)(u:Un (gQ X.stack) ch H H' s.heap h')(aY:lz X.prog X.w H' h')(hg:AllBare g')
  (hch:∀b∈ch,(b∈X.ex\/X.s₀.heap.objs.size<=b)/\b≠X.env.locals/\(∀x c,X.env.cells.lookup x=some c->c≠b)/\∀p∈X.pn++pins,p.1≠b):
  Inv X pins σ H' {s with heap:=h',gens:=g',drawn:=d',toks:=t'}:=by
 obtain⟨m,⟨o,es,ep,ho,r⟩,_⟩:=id I.loc
 obtain⟨sl,hL⟩:=u.any ho I.free fun z=>(hch _ z).2.1 rfl
 exact I.step (ch:=ch) hch (fun b o hL hb hc e n=>u.keep b o e n (fun z=>(List.mem_cons.mp (I.kf b z)).elim hL hb) hc) (fun b o _ _ hc e n=>u.any e n hc) (fun b o hc e n=>u.free b o e n hc) (fun b o hc e=>u.there b o e hc) u.cy u.iX u.jM (fun m' hm=>by
  obtain⟨o',es',ep',ho',r'⟩:=hm
  rw[ho]at ho';cases ho'
  exact⟨_,es',ep',hL,r'⟩) aY hg
theorem Inv.turned {t':Nat}{it:Addr}(I:Inv X pins σ H s)(k:∀b o,b≠it->s.heap.get? b=some o->h'.get? b=some o)(hn:H it=none)(hL:it≠X.env.locals)
  (h1:it∈X.ex\/X.s₀.heap.objs.size<=it) (h2:∀x c,X.env.cells.lookup x=some c->c≠it) (h3:∀p∈X.pn++pins,p.1≠it):Inv X pins σ H {s with heap:=h',toks:=t'}:=by
 have nit:∀b u,H b=some u->b≠it:=fun b u e z=>by rw[z,hn]at e;cases e
 refine I.step (g':=s.gens) (d':=s.drawn) (ch:=[it]) (fun b hb=>?_) (fun b o _ _ hc e _=>k b o (fun z=>hc (by simp[z])) e) (fun b o _ _ hc e _=>⟨o.slots,k b o (fun z=>hc (by simp[z])) e⟩) (fun _ _ _ _ n=>n)
  (fun b o hc e=>⟨o,k b o (fun z=>hc (by simp[z])) e⟩) (fun _ _ e=>e) (fun _ _ _ e=>e) (fun b ps e=>⟨#[],by rw[e];simp⟩) (fun m hm=>?_) (fun b u e=>?_) I.bare
 .have e:b=it:=by simpa using hb
  subst e
  exact⟨h1,hL,h2,h3⟩
 .obtain⟨o,es,ep,ho,r⟩:=hm
  exact⟨o,es,ep,k _ o (Ne.symm hL) ho,r⟩
 .refine(I.aY b u e).iF (fun c v hc q=>k c v ?_ q) (fun _ q=>q) fun _ _ q=>q
  rcases hc with z|z
  .rw[z];exact nit b u e
  .exact nit c _ z
theorem Inv.tok (I:Inv X pins σ H s)(t:Nat):Inv X pins σ H {s with toks:=t}:=I.un (h':=s.heap) (t':=t) Un.refl I.aY
theorem Inv.kept {t':Nat}(I:Inv X pins σ H s)(k:∀b u,s.heap.get? b=some u->h'.get? b=some u):Inv X pins σ H {s with heap:=h',toks:=t'}:=I.un (Un.kept k) (I.aY.kept k)
theorem Inv.laid {a:Addr}{o:HO}{t':Nat}(I:Inv X pins σ H s)(k:∀b u,s.heap.get? b=some u->h'.get? b=some u)(hp:s.heap.objs.size<=a)(new:bN X.prog X.w (upd H a o) h' a o):
  Inv X pins σ (upd H a o) {s with heap:=h',toks:=t'}:=I.un (Un.laid k hp (I.aY.fresh hp)) (I.aY.laid k hp new)
theorem Inv.write {x e:Addr}{o:HO}{t':Nat}(I:Inv X pins σ H s)(mu:Li (H x))(he:e=x\/H e=some (.own x))(k:∀b u,b≠e->s.heap.get? b=some u->h'.get? b=some u)(heo:∃u,h'.get? e=some u)
  (new:bN X.prog X.w (upd H x o) h' x o):Inv X pins σ (upd H x o) {s with heap:=h',toks:=t'}:=I.un (Un.write mu he k heo) (I.aY.write mu he k heo new)
theorem Inv.pP {pins':List (Addr×Obj)}(I:Inv X pins σ H s)(h:∀p∈pins',s.heap.get? p.1=some p.2/\H p.1=none/\p.1≠X.env.locals/\p.1∉X.fs/\∀v,p.2.data≠.cell v):Inv X pins' σ H s:=
 ⟨I.ok,I.os,I.bare,I.base,I.loc,I.cell,I.free,I.fO,fun p hp=>(List.mem_append.mp hp).elim (fun z=>I.pin p (List.mem_append_left _ z)) (h p),I.aY,I.len⟩
theorem qp{N:List Str}(hN:N.Nodup){i j:Nat}{x:Str}(a:N[i]?=some x)(b:N[j]?=some x):i=j:=by
 obtain⟨h1,e1⟩:=List.getElem?_eq_some_iff.mp a
 obtain⟨h2,e2⟩:=List.getElem?_eq_some_iff.mp b
 exact(List.getElem_inj hN).mp (e1.trans e2.symm)
theorem n4{M:Model}{A:Around}{E:Value->Shared->Prop}{i:Nat}{x:Str}{v:V}{u:Value}{Q:Unit->Shared->Prop}(I:Inv X pins σ H s)(hN:X.N.Nodup)(hi:X.N[i]?=some x)(hx:Loc X.env.scope x)(r:RelV v u)
  (h:∀s',Inv X pins (σ.set i (some v)) H s'->(∃a,Heap.SameBut a s.heap s'.heap/\(a=X.env.locals\/X.env.cells.lookup x=some a))->Q () s') (hf:X.fn x=true\/X.env.scope.names.lookup x=some .local:=by first|exact .inl rfl|exact .inr rfl|assumption):wpAny M A (storeName X.env x u) Q E s:=by
 obtain⟨m,hn,hl⟩:=id I.loc
 have hcls:(X.env.scope.kind== .class||(X.env.scope.kind== .module&&X.env.locals !=X.env.globals))=false:=by rw[I.ok.kind];rfl
 have hiσ:i<σ.length:=by rw[I.len];exact(List.getElem?_eq_some_iff.mp hi).1
 have DW:=I.DW
 have tracked:∀{a:Addr}{h':Heap},(∃o,s.heap.get? a=some o/\H a=none)->Heap.SameBut a s.heap h'->lz X.prog X.w H h':=fun{a h'} ha hs b ob e=>by
  obtain⟨_,_,hfree⟩:=ha
  refine(I.aY b ob e).iF (fun c w' hc q=>(hs.2 c ?_).trans q) (fun _ q=>q) fun _ _ q=>q
  rintro rfl
  rcases hc with rfl|hc
  .rw[hfree]at e;cases e
  .rw[hfree]at hc;cases hc
 rcases hx with hk|hk
 .refine wpAny_storeName_local hk hn (fun h' hn' hs=>?_) hcls
  obtain⟨oL,_,_,hoL,_⟩:=id hn
  refine h _ ⟨I.ok,I.os,I.bare,⟨fun b o e n hb hx=>?_,fun b o e n hb hx=>?_,I.base.free,fun b o e hx=>?_,I.base.cy,I.base.iX,I.base.jM⟩,⟨_,hn',fun j y v' e1 e2 e3=>?_⟩,fun y c e=>?_,I.free,I.fO,fun p hp=>?_,tracked ⟨oL,hoL,I.free⟩ hs,by simpa using I.len⟩ ⟨_,hs,.inl rfl⟩
  .exact(hs.2 b (Nat.ne_of_lt (Nat.lt_of_lt_of_le (Heap.lt_size e) I.ok.above))).trans (I.base.keep b o e n hb hx)
  .obtain⟨sl,e1⟩:=I.base.slot b o e n hb hx
   exact⟨sl,(hs.2 b (Nat.ne_of_lt (Nat.lt_of_lt_of_le (Heap.lt_size e) I.ok.above))).trans e1⟩
  .obtain⟨o',e1⟩:=I.base.there b o e hx
   exact⟨o',(hs.2 b (Nat.ne_of_lt (Nat.lt_of_lt_of_le (Heap.lt_size e) I.ok.above))).trans e1⟩
  .by_cases hj:j=i
   .subst hj
    rw[hi]at e1;cases e1
    rw[List.getElem?_set_self hiσ]at e2
    cases e2
    exact⟨u,r,.inl ⟨hk,by simp⟩⟩
   .rw[List.getElem?_set_ne (Ne.symm hj)]at e2
    obtain⟨u',r',q⟩:=hl j y v' e1 e2 e3
    refine⟨u',r',?_⟩
    rcases q with⟨k,e⟩|⟨k,c,e,z⟩
    .refine .inl ⟨k,?_⟩
     have:y≠x:=fun e=>hj (qp hN e1 (e▸hi))
     simp[this,e]
    .exact .inr ⟨k,c,e,z.sameBut hs (DW y c e)⟩
  .obtain⟨w',z⟩:=I.cell y c e
   exact⟨w',z.sameBut hs (DW y c e)⟩
  .obtain⟨e,n,ne,nf,d⟩:=I.pin p hp
   exact⟨(hs.2 p.1 ne).trans e,n,ne,nf,d⟩
 .have hfn:X.fn x=true:=by
   rcases hf with z|z
   .exact z
   .rw[z]at hk;cases hk
  obtain⟨c,hc⟩:=I.ok.has x (.inl hk)
  obtain⟨w',z⟩:=I.cell x c hc
  refine wpAny_storeName_cell I.ok.kind hk hc z (fun h' hc' hs=>?_)
  obtain⟨oc,hoc,hocd⟩:=id z
  refine h {s with heap:=h'} ⟨I.ok,I.os,I.bare,⟨fun b o e n hb hx=>?_,fun b o e n hb hx=>?_,I.base.free,fun b o e hx=>?_,I.base.cy,I.base.iX,I.base.jM⟩,⟨m,hn.sameBut hs (Ne.symm (DW x c hc)),fun j y v' e1 e2 e3=>?_⟩,fun y c' e=>?_,I.free,I.fO,fun p hp=>?_,tracked ⟨oc,hoc,I.fO x c hc⟩ hs,by simpa using I.len⟩ ⟨c,hs,.inr hc⟩
  .exact(hs.2 b (Nat.ne_of_lt (Nat.lt_of_lt_of_le (Heap.lt_size e) (I.ok.DF x c hfn hc)))).trans (I.base.keep b o e n hb hx)
  .obtain⟨sl,e1⟩:=I.base.slot b o e n hb hx
   exact⟨sl,(hs.2 b (Nat.ne_of_lt (Nat.lt_of_lt_of_le (Heap.lt_size e) (I.ok.DF x c hfn hc)))).trans e1⟩
  .obtain⟨o',e1⟩:=I.base.there b o e hx
   exact⟨o',(hs.2 b (Nat.ne_of_lt (Nat.lt_of_lt_of_le (Heap.lt_size e) (I.ok.DF x c hfn hc)))).trans e1⟩
  .by_cases hj:j=i
   .subst hj
    rw[hi]at e1;cases e1
    rw[List.getElem?_set_self hiσ]at e2
    cases e2
    exact⟨u,r,.inr ⟨.inl hk,c,hc,hc'⟩⟩
   .rw[List.getElem?_set_ne (Ne.symm hj)]at e2
    obtain⟨u',r',q⟩:=hl j y v' e1 e2 e3
    refine⟨u',r',?_⟩
    rcases q with q|⟨k,c',e,z'⟩
    .exact .inl q
    .refine .inr ⟨k,c',e,z'.sameBut hs ?_⟩
     rintro rfl
     exact hj (qp hN e1 (I.ok.inj _ _ _ e hc▸hi))
  .by_cases hcc:c'=c
   .subst hcc;exact⟨_,hc'⟩
   .obtain⟨w2,z2⟩:=I.cell y c' e
    exact⟨w2,z2.sameBut hs hcc⟩
  .obtain⟨e,n,ne,nf,d⟩:=I.pin p hp
   refine⟨(hs.2 p.1 ?_).trans e,n,ne,nf,d⟩
   intro q
   rw[q,hoc]at e
   have q':oc=p.2:=Option.some.inj e
   exact d w' (by rw[←q'];exact hocd)
theorem gL{M:Model}{A:Around}{E:Value->Shared->Prop}{i:Nat}{x:Str}{v:V}{u:Value}{Q:Unit->Shared->Prop}(I:Inv X pins σ H s)(hN:X.N.Nodup)(hi:X.N[i]?=some x)(hx:Loc X.env.scope x)(r:RelV v u)
  (h:∀s',Inv X pins (σ.set i (some v)) H s'->Q () s') (hf:X.fn x=true\/X.env.scope.names.lookup x=some .local:=by first|exact .inl rfl|exact .inr rfl|assumption):wpAny M A (storeName X.env x u) Q E s:=
 n4 I hN hi hx r (fun s' I' _=>h s' I') hf
theorem Inv.DN {s':Shared}{ch:List Addr}(I:Inv X pins σ H s)(ho:s'.os=s.os)(u:Un (gQ X.stack) ch H H' s.heap s'.heap)(aY:lz X.prog X.w H' s'.heap)(hg:AllBare s'.gens)
  (hch:∀b∈ch,(b∈X.ex\/X.s₀.heap.objs.size<=b)/\b≠X.env.locals/\(∀x c,X.env.cells.lookup x=some c->c≠b)/\∀p∈X.pn++pins,p.1≠b):Inv X pins σ H' s':=by
 obtain⟨h',g',d',t',o'⟩:=s'
 have e:o'=s.os:=ho
 subst e
 exact I.call (g':=g') (t':=t') (d':=d') u aY hg hch
end
abbrev XK:=Value->Option Addr->Hp->Prop
abbrev St:=List (Option V)
abbrev VK:=V->Hp->Prop
abbrev TE:=St->Hp->VK->Prop
abbrev TT:=St->Hp->(Bool->Hp->Prop)->Prop
abbrev TA:=St->Hp->(List V->Hp->Prop)->Prop
structure Ends where
 nx:St->Hp->Prop
 rt:VK
 bk:St->Hp->Prop:=fun _ _=>False
 ct:St->Hp->Prop:=fun _ _=>False
abbrev TS:=Ends->St->Hp->Prop
def EP(X:Cx)(pins:List (Addr×Obj))(σ:St)(Q:VK)(u:Value)(s':Shared):Prop:=∃v H',Inv X pins σ H' s'/\RelV v u/\Q v H'
def TP(X:Cx)(pins:List (Addr×Obj))(σ:St)(Q:Bool->Hp->Prop)(b:Bool)(s':Shared):Prop:=∃H',Inv X pins σ H' s'/\Q b H'
def AP(X:Cx)(pins:List (Addr×Obj))(σ:St)(Q:List V->Hp->Prop)(us:List Value)(s':Shared):Prop:=∃vs H',Inv X pins σ H' s'/\Vals vs us/\Q vs H'
def SP(X:Cx)(pins:List (Addr×Obj))(D:Ends)(f:Flow)(s':Shared):Prop:=
 match f with
 | .next=>∃σ' H',Inv X pins σ' H' s'/\D.nx σ' H'
 | .brk=>∃σ' H',Inv X pins σ' H' s'/\D.bk σ' H'
 | .cont=>∃σ' H',Inv X pins σ' H' s'/\D.ct σ' H'
 | .ret u=>∃v σ' H',Inv X pins σ' H' s'/\RelV v u/\D.rt v H'
def PE(X:Cx)(e:Expr)(t:TE):Prop:=
 ∀(pins:List (Addr×Obj))(s:Shared)(σ:St)(H:Hp)(Q:VK),Inv X pins σ H s->t σ H Q->wpAny (model X.prog X.w) X.A (eval e X.env) (EP X pins σ Q) X.xe s
def PT(X:Cx)(e:Expr)(t:TT):Prop:=
 ∀(pins:List (Addr×Obj))(s:Shared)(σ:St)(H:Hp)(Q:Bool->Hp->Prop),Inv X pins σ H s->t σ H Q->wpAny (model X.prog X.w) X.A (isTrue e X.env (eval e X.env)) (TP X pins σ Q) X.xe s
def PW(X:Cx)(e:Expr)(t:TT):Prop:=
 ∀(whole:Sem Value)(pins:List (Addr×Obj))(s:Shared)(σ:St)(H:Hp)(Q:Bool->Hp->Prop),Inv X pins σ H s->t σ H Q->wpAny (model X.prog X.w) X.A (isTrue e X.env whole) (TP X pins σ Q) X.xe s
theorem PW.pt {X:Cx}{e:Expr}{t:TT}(h:PW X e t):PT X e t:=h _
def PA(X:Cx)(es:List Expr)(t:TA):Prop:=
 ∀(pos:Pos)(pins:List (Addr×Obj))(s:Shared)(σ:St)(H:Hp)(Q:List V->Hp->Prop),Inv X pins σ H s->t σ H Q->wpAny (model X.prog X.w) X.A (spliced (backTo pos (starEach es X.env))) (AP X pins σ Q) X.xe s
def PS(X:Cx)(st:Stmt)(t:TS):Prop:=
 ∀(pins:List (Addr×Obj))(s:Shared)(σ:St)(H:Hp)(D:Ends),Inv X pins σ H s->t D σ H->wpAny (model X.prog X.w) X.A (exec st X.env) (SP X pins D) X.xe s
def tT(X:Cx)(st:List Stmt)(t:TS):Prop:=
 ∀(pins:List (Addr×Obj))(s:Shared)(σ:St)(H:Hp)(D:Ends),Inv X pins σ H s->t D σ H->wpAny (model X.prog X.w) X.A (execs st X.env) (SP X pins D) X.xe s
theorem aW{α:Type}{t:Sem α}{Q Q':α->Shared->Prop}{M:Model}{A:Around}{E:Value->Shared->Prop}{s:Shared}(h:wpAny M A t Q E s)(hQ:∀a s,Q a s->Q' a s):wpAny M A t Q' E s:=wpAny_mono h hQ fun _ _ x=>x
section
variable{X:Cx}
theorem bin{a b:Expr}{ta tb:TE}(ha:PE X a ta)(hb:PE X b tb){pins:List (Addr×Obj)}{s:Shared}{σ:St}{H:Hp}{R:V->V->Hp->Prop}(I:Inv X pins σ H s)(h:ta σ H fun x H1=>tb σ H1 fun y H2=>R x y H2)
  {α:Type} {Q:α->Shared->Prop} {f:Value->Value->Sem α}
  (hf:∀v u s2 x y H2,Inv X pins σ H2 s2->RelV x v->RelV y u->R x y H2->wpAny (model X.prog X.w) X.A (f v u) Q X.xe s2):
  wpAny (model X.prog X.w) X.A (eval a X.env) (fun v s₁=>wpAny (model X.prog X.w) X.A (eval b X.env) (fun u s₂=>wpAny (model X.prog X.w) X.A (f v u) Q X.xe s₂) X.xe s₁) X.xe s:=by
 refine aW (ha pins s σ H _ I h) fun v s1 ⟨x,H1,I1,r1,q1⟩=>?_
 refine aW (hb pins s1 σ H1 _ I1 q1) fun u s2 ⟨y,H2,I2,r2,q2⟩=>?_
 exact hf v u s2 x y H2 I2 r1 r2 q2
def lj(i:Nat):TE:=fun σ H Q=>∃v,σ[i]?=some (some v)/\Q v H
def tC(v:V):TE:=fun _ H Q=>Q v H
theorem EB{i:Nat}{x:Str}{pos:Pos}(hN:X.N[i]?=some x)(hv:Mo X.env.scope x)(hd:(x==("__debug__" :Str))=false:=by decide)(hcd:(x==("__classdict__" :Str))=false:=by decide):PE X (.Name x pos) (lj i):=by
 intro pins s σ H Q I h
 obtain⟨v,e,h⟩:=h
 obtain⟨m,hn,hl⟩:=I.loc
 obtain⟨u,r,l⟩:=hl i x v hN e hv
 have fin:EP X pins σ Q u s:=⟨v,H,I,r,h⟩
 rcases l with⟨hk,hm⟩|⟨hk,c,hc,hcell⟩
 .exact wpAny_Name (wpAny_loadName_local I.ok.kind hk hn hm fin) hd
 .rcases hk with hk|hk
  .exact wpAny_Name (wpAny_loadName_cell I.ok.kind hk hc hcell fin) hd
  .exact wpAny_Name (wpAny_loadName_free I.ok.kind hk hc hcell fin hcd) hd
theorem ak{i j pos}:PE X (.Constant (.int i) j pos) (tC (.int i)):=fun _ _ _ H _ I h=>wpAny_Constant_int ⟨.int i,H,I.tok _,⟨_,rfl⟩,h⟩
theorem iK{b j pos}:PE X (.Constant (.bool b) j pos) (tC (.bl b)):=fun _ _ _ H _ I h=>Constant_bool ⟨.bl b,H,I,rfl,h⟩
theorem aw{x j pos}:PE X (.Constant (.str x) j pos) (tC (.str x)):=fun _ _ _ H _ I h=>Calls.Constant_str ⟨.str x,H,I.tok _,⟨_,rfl⟩,h⟩
def Gl(X:Cx)(x:Str):Prop:=X.env.kindOf x=some .globalImplicit
theorem kW{E:Value->Shared->Prop}{pins:List (Addr×Obj)}{s:Shared}{σ:St}{H:Hp}{x:Str}{u:Value}{pos:Pos}{Q:Value->Shared->Prop}(I:Inv X pins σ H s)(hg:Gl X x)(hm:X.mg x=some u)(h:Q u s)
  (hd:(x==("__debug__" :Str))=false:=by decide):wpAny (model X.prog X.w) X.A (eval (.Name x pos) X.env) Q E s:=
 Calls.Name_function_global I.ok.kind hg (Calls.loadGlobal_global (by rw[I.ok.glob];exact I.mod.glob.keeps I.bk) hm h) hd
theorem kc{E:Value->Shared->Prop}{pins:List (Addr×Obj)}{s:Shared}{σ:St}{H:Hp}{x:Str}{u:Value}{pos:Pos}{Q:Value->Shared->Prop}(I:Inv X pins σ H s)(hg:Gl X x)(hm:X.mg x=none)(hv:bootBuiltins x=some u)(h:Q u s)
  (hn:x≠"__name__" :=by decide) (hd:(x==("__debug__" :Str))=false:=by decide):wpAny (model X.prog X.w) X.A (eval (.Name x pos) X.env) Q E s:=by
 obtain⟨mb,h1,h2⟩:=I.mod.blt
 exact Calls.Name_function_global I.ok.kind hg (Calls.loadGlobal_builtin (by rw[I.ok.glob];exact I.mod.glob.keeps I.bk) hm (by rw[I.ok.blt];exact h1.keeps I.bk) ((h2 x hn).trans hv) h) hd
theorem cT{x:Str}{v:V}{u:Value}{pos:Pos}(hg:Gl X x)(hm:X.mg x=some u)(r:RelV v u)(hd:(x==("__debug__" :Str))=false:=by decide):PE X (.Name x pos) (tC v):=
 fun _ _ _ H _ I h=>kW I hg hm ⟨v,H,I,r,h⟩ hd
theorem i4{x:Str}{v:V}{u:Value}{pos:Pos}(hg:Gl X x)(hm:X.mg x=none)(hv:bootBuiltins x=some u)(r:RelV v u)(hn:x≠"__name__" :=by decide)(hd:(x==("__debug__" :Str))=false:=by decide):PE X (.Name x pos) (tC v):=
 fun _ _ _ H _ I h=>kc I hg hm hv ⟨v,H,I,r,h⟩ hn hd
variable{a b:Expr}{ta tb:TE}{pos:Pos}
def PC(X:Cx)(op:CmpOp)(a b:Expr)(t:TE):Prop:=
 ∀(pins:List (Addr×Obj))(s:Shared)(σ:St)(H:Hp)(Q:VK),Inv X pins σ H s->t σ H Q->
  wpAny (model X.prog X.w) X.A (eval a X.env) (fun v s₁=>wpAny (model X.prog X.w) X.A (eval b X.env) (fun u s₂=>wpAny (model X.prog X.w) X.A (compareOp op v u) (EP X pins σ Q) X.xe s₂) X.xe s₁) X.xe s
def tB(t:TE):TT:=fun σ H Q=>t σ H fun x H1=>∃c,x= .bl c/\Q c H1
theorem rh{op:CmpOp}{t:TE}(h:PC X op a b t)(h1:behindInMarks op b=false:=by first|exact nobehind _ (by decide) (by decide)|rfl):PT X (.Compare a [op] [b] pos) (tB t):=by
 intro pins s σ H Q I hw
 refine wpAny_isTrue_Compare1 (aW (h pins s σ H _ I hw) fun v s1 h1=>aW h1 fun u s2 h2=>aW h2 fun c s3 ⟨x,H1,I1,r1,q1⟩=>?_) h1
 obtain⟨d,rfl,q⟩:=q1
 cases r1
 exact wpAny_truthy_bool ⟨H1,I1,q⟩
theorem cC{e:Expr}{t:TE}(h:PE X e t)(he:∀whole,isTrue e X.env whole=(do let v←whole;standAt e.pos;holding [v] (truthy v)):=by intro _;rfl):PT X e (tB t):=by
 intro pins s σ H Q I hw
 refine isTrue_plain (aW (h pins s σ H _ I hw) fun v s1 ⟨x,H1,I1,r1,q1⟩=>?_) (he _)
 obtain⟨d,rfl,q⟩:=q1
 cases r1
 exact wpAny_truthy_bool ⟨H1,I1,q⟩
variable{tA tB':TT}{rest:List Expr}
def MO(t u:TT):TT:=fun σ H Q=>t σ H fun c H1=>if c=true then u σ H1 Q else Q false H1
def NC(t u:TT):TT:=fun σ H Q=>t σ H fun c H1=>if c=true then Q true H1 else u σ H1 Q
def ME(t:TT):TT:=fun σ H Q=>t σ H fun c H1=>Q (!c) H1
theorem uo(ha:PT X a tA):PW X (.BoolOp .And [a] pos) tA:=by
 intro wh pins s σ H Q I h
 refine isTrue_and (aW (ha pins s σ H Q I h) fun c s1 e=>?_)
 cases c with
 |true=>exact isTrue_and_nil e
 |false=>exact e
theorem j9(ha:PT X a tA):PW X (.BoolOp .Or [a] pos) tA:=by
 intro wh pins s σ H Q I h
 refine isTrue_or (aW (ha pins s σ H Q I h) fun c s1 e=>?_)
 cases c with
 |false=>exact isTrue_or_nil e
 |true=>exact e
theorem y2(ha:PT X a tA)(hb:PW X (.BoolOp .And (b::rest) pos) tB'):PW X (.BoolOp .And (a::b::rest) pos) (MO tA tB'):=by
 intro wh pins s σ H Q I h
 refine isTrue_and (aW (ha pins s σ H _ I h) fun c s1 ⟨H1,I1,q1⟩=>?_)
 cases c with
 |true=>exact hb wh pins s1 σ H1 Q I1 q1
 |false=>exact⟨H1,I1,q1⟩
theorem lL(ha:PT X a tA)(hb:PW X (.BoolOp .Or (b::rest) pos) tB'):PW X (.BoolOp .Or (a::b::rest) pos) (NC tA tB'):=by
 intro wh pins s σ H Q I h
 refine isTrue_or (aW (ha pins s σ H _ I h) fun c s1 ⟨H1,I1,q1⟩=>?_)
 cases c with
 |true=>exact⟨H1,I1,q1⟩
 |false=>exact hb wh pins s1 σ H1 Q I1 q1
theorem dz(ha:PT X a tA):PT X (.UnaryOp .Not a pos) (ME tA):=by
 intro pins s σ H Q I h
 exact isTrue_not (ha pins s σ H (fun c H1=>Q (!c) H1) I h)
def K8(ta tb:TE):TE:=fun σ H Q=>ta σ H fun x H1=>∃c,x= .bl c/\if c=true then tb σ H1 Q else Q (.bl false) H1
def KQ(ta:TE):TE:=fun σ H Q=>ta σ H fun x H1=>∃c,x= .bl c/\Q (.bl (!c)) H1
theorem yY{op}{t:TE}(h:PE X a t):PE X (.BoolOp op [a] pos) t:=fun pins s σ H Q I hw=>BoolOp_one (h pins s σ H Q I hw)
theorem y4(ha:PE X a ta)(hb:PE X (.BoolOp .And (b::rest) pos) tb):PE X (.BoolOp .And (a::b::rest) pos) (K8 ta tb):=by
 intro pins s σ H Q I h
 refine BoolOp_and (aW (ha pins s σ H _ I h) fun v s1 ⟨x,H1,I1,r1,q1⟩=>?_)
 obtain⟨c,rfl,q1⟩:=q1
 cases r1
 refine wpAny_truthy_bool ?_
 cases c with
 |true=>exact hb pins s1 σ H1 Q I1 q1
 |false=>exact⟨.bl false,H1,I1,rfl,q1⟩
theorem IF(ha:PE X a ta):PE X (.UnaryOp .Not a pos) (KQ ta):=by
 intro pins s σ H Q I h
 refine UnaryOp_ (aW (ha pins s σ H _ I h) fun v s1 ⟨x,H1,I1,r1,q1⟩=>?_)
 obtain⟨c,rfl,q1⟩:=q1
 cases r1
 exact not_of (wpAny_truthy_bool ⟨.bl (!c),H1,I1,rfl,q1⟩)
def NU(t:TT)(ta tb:TE):TE:=fun σ H Q=>t σ H fun c H1=>if c=true then ta σ H1 Q else tb σ H1 Q
theorem j8{c:Expr}(hc:PT X c tA)(ha:PE X a ta)(hb:PE X b tb):PE X (.IfExp c a b pos) (NU tA ta tb):=by
 intro pins s σ H Q I h
 refine wpAny_IfExp (aW (hc pins s σ H _ I h) fun d s1 ⟨H1,I1,q1⟩=>?_)
 cases d with
 |true=>exact ha pins s1 σ H1 Q I1 q1
 |false=>exact hb pins s1 σ H1 Q I1 q1
end
def aC(K:W.Frag)(H:Hp)(a:Addr)(xs:List V):Prop:=
 Rd H a (.lst xs)\/
  ∃(o:Obj)(its:Array Value)(n:Nat),K.lookup a=some o/\o.cls= .type "list"/\o.dict=none/\o.data= .seq its n/\its.size<=sizeLine/\Vals xs its.toList
def e8(K:W.Frag)(H:Hp)(a:Addr)(xs:List V):Prop:=
 Rd H a (.tup xs)\/
  ∃(o:Obj)(its:Array Value)(n:Nat),K.lookup a=some o/\o.cls= .type "tuple"/\o.data= .seq its n/\its.size<=sizeLine/\Vals xs its.toList
def MR:Value->Option V
 | .none=>some .cP
 | .bool b=>some (.bl b)
 | .int i _=>some (.int i)
 | .str x _=>some (.str x)
 | .bytes b _=>some (.byt b)
 | .float b _=>some (.jR b)
 | .ref a=>some (.ref a)
 | .type n=>some (.ty n)
 |_=>none
theorem RelV.abs {x:V}{u:Value}(r:RelV x u):MR u=some x:=by
 cases x with
 |cP=>cases r;rfl
 |bl _=>cases r;rfl
 |int _=>obtain⟨t,rfl⟩:=r;rfl
 |str _=>obtain⟨t,rfl⟩:=r;rfl
 |byt _=>obtain⟨t,rfl⟩:=r;rfl
 |jR _=>obtain⟨t,rfl⟩:=r;rfl
 |ref _=>cases r;rfl
 |ty _=>cases r;rfl
theorem RelV.inj {x y:V}{u:Value}(r:RelV x u)(q:RelV y u):x=y:=Option.some.inj (r.abs.symm.trans q.abs)
theorem Vals.inj:∀{xs ys:List V}{us:List Value},Vals xs us->Vals ys us->xs=ys
 |_,_,_,.nil,.nil=>rfl
 |_,_,_,.cons r t,.cons r' t'=>by rw[r.inj r',Vals.inj t t']
section
variable{X:Cx}{pins:List (Addr×Obj)}{σ:St}{H:Hp}{s:Shared}{a:Addr}{xs ys:List V}
theorem aC.of {K:W.Frag}(h:H a=some (.lst xs)):aC K H a xs:= .inl (.inl h)
theorem e8.of {K:W.Frag}(h:H a=some (.tup xs)):e8 K H a xs:= .inl (.inl h)
theorem Inv.list (I:Inv X pins σ H s)(h:aC X.K H a xs):∃its:List Value,Vals xs its/\PlainL s.heap a its.toArray/\xs.length<=sizeLine:=by
 rcases h with h|⟨o,its,n,hk,hc,hd,hs,hz,r⟩
 .obtain⟨z,its,n,r,e⟩:=h.ok I.aY
  exact⟨its,r,⟨_,n,e,rfl,rfl,rfl⟩,z⟩
 .refine⟨its.toList,r,⟨o,n,I.kU a o hk,hc,hd,by simpa using hs⟩,?_⟩
  have e:=r.length
  simp only[Array.length_toList]at e
  lia
theorem Inv.tuple (I:Inv X pins σ H s)(h:e8 X.K H a xs):∃its:List Value,Vals xs its/\IsTup s.heap a its.toArray/\xs.length<=sizeLine:=by
 rcases h with h|⟨o,its,n,hk,hc,hs,hz,r⟩
 .obtain⟨z,its,r,p⟩:=h.ok I.aY
  exact⟨its,r,p,z⟩
 .refine⟨its.toList,r,⟨o,I.kU a o hk,hc,n,by simpa using hs⟩,?_⟩
  have e:=r.length
  simp only[Array.length_toList]at e
  lia
theorem Inv.DS (I:Inv X pins σ H s)(h:aC X.K H a xs)(h':aC X.K H a ys):xs=ys:=by
 obtain⟨its,r,⟨o,n,e,_,_,d⟩,_⟩:=I.list h
 obtain⟨its',r',⟨o',n',e',_,_,d'⟩,_⟩:=I.list h'
 rw[e]at e';cases e'
 rw[d]at d'
 injection d' with d1 _
 have:its=its':=by simpa using congrArg Array.toList d1
 subst this
 exact r.inj r'
theorem Inv.BE (I:Inv X pins σ H s)(h:e8 X.K H a xs)(h':e8 X.K H a ys):xs=ys:=by
 obtain⟨its,r,⟨o,e,_,n,d⟩,_⟩:=I.tuple h
 obtain⟨its',r',⟨o',e',_,n',d'⟩,_⟩:=I.tuple h'
 rw[e]at e';cases e'
 rw[d]at d'
 injection d' with d1 _
 have:its=its':=by simpa using congrArg Array.toList d1
 subst this
 exact r.inj r'
end
abbrev Cx.si (X:Cx)(E:Value->Shared->Prop):Cx:={X with xe:=E}
abbrev Cx.Ml (X:Cx):Cx:=X.si fun _ _=>False
theorem Cx.Ok.si {X:Cx}(ok:X.Ok)(E:Value->Shared->Prop):(X.si E).Ok:=
 ⟨ok.mod,ok.kind,ok.glob,ok.blt,ok.above,ok.inj,ok.has,ok.DF,ok.hd,ok.frames,ok.Cd,ok.HF,ok.bs,ok.Ai,ok.qg,ok.sW,ok.iR,ok.p9⟩
theorem Cx.Ok.jS {X:Cx}{E:Value->Shared->Prop}(ok:(X.si E).Ok):X.Ok:=
 ⟨ok.mod,ok.kind,ok.glob,ok.blt,ok.above,ok.inj,ok.has,ok.DF,ok.hd,ok.frames,ok.Cd,ok.HF,ok.bs,ok.Ai,ok.qg,ok.sW,ok.iR,ok.p9⟩
section
variable{X:Cx}{pins:List (Addr×Obj)}{σ:St}{H:Hp}{s:Shared}{E:Value->Shared->Prop}
theorem Inv.si (I:Inv X pins σ H s)(E:Value->Shared->Prop):Inv (X.si E) pins σ H s:=⟨I.ok.si E,I.os,I.bare,I.base,I.loc,I.cell,I.free,I.fO,I.pin,I.aY,I.len⟩
theorem Inv.jS (I:Inv (X.si E) pins σ H s):Inv X pins σ H s:=⟨I.ok.jS,I.os,I.bare,I.base,I.loc,I.cell,I.free,I.fO,I.pin,I.aY,I.len⟩
theorem SP.jS {D:Ends}{f:Flow}{s':Shared}(h:SP (X.si E) pins D f s'):SP X pins D f s':=by
 cases f with
 |next=>obtain⟨σ',H',I,q⟩:=h;exact⟨σ',H',I.jS,q⟩
 |brk=>obtain⟨σ',H',I,q⟩:=h;exact⟨σ',H',I.jS,q⟩
 |cont=>obtain⟨σ',H',I,q⟩:=h;exact⟨σ',H',I.jS,q⟩
 |ret u=>obtain⟨v,σ',H',I,r,q⟩:=h;exact⟨v,σ',H',I.jS,r,q⟩
theorem tT.Ml {st:List Stmt}{t:TS}(h:tT X.Ml st t):tT X st t:=fun pins s σ H D I hw=>
 wpAny_mono (h pins s σ H D (I.si _) hw) (fun _ _ q=>q.jS) fun _ _ z=>False.elim z
end
section
variable{X:Cx}{st:Stmt}{rest:List Stmt}{t u:TS}{e:Expr}{te:TE}{pos:Pos}
def KR:TS:=fun D σ H=>D.nx σ H
def DJ(t u:TS):TS:=fun D σ H=>t {D with nx:=u D} σ H
theorem aE:tT X [] KR:=fun _ _ σ H _ I h=>wpAny_execs_nil ⟨σ,H,I,h⟩
theorem ah(h1:PS X st t)(h2:tT X rest u):tT X (st::rest) (DJ t u):=by
 intro pins s σ H D I h
 refine wpAny_execs_cons (aW (h1 pins s σ H {D with nx:=u D} I h) fun f s1 q=>?_)
 cases f with
 |next=>
  obtain⟨σ',H',I',q⟩:=q
  exact h2 pins s1 σ' H' D I' q
 |ret v=>exact q
 |brk=>exact q
 |cont=>exact q
theorem ai(h1:PS X st t):tT X [st] t:=by
 intro pins s σ H D I h
 refine wpAny_execs_cons (aW (h1 pins s σ H D I h) fun f s1 q=>?_)
 cases f with
 |next=>exact wpAny_execs_nil q
 |ret v=>exact q
 |brk=>exact q
 |cont=>exact q
theorem Inv.quiet {pins:List (Addr×Obj)}{σ:St}{H:Hp}{s:Shared}(I:Inv X pins σ H s):interactive X.env=false:=by simp[interactive,I.ok.kind]
def LN(te:TE):TS:=fun D σ H=>te σ H fun _ H1=>D.nx σ H1
theorem cB(he:PE X e te)(hs:swapsWith e none pos.line X.env=pure false:=by rfl):PS X (.Expr e pos) (LN te):=by
 intro pins s σ H D I h
 exact wpAny_Expr_any (aW (he pins s σ H _ I h) fun v s1 ⟨x,H1,I1,r1,q1⟩=>⟨σ,H1,I1,q1⟩) I.quiet hs
def FH(te:TE):TS:=fun D σ H=>te σ H D.rt
theorem aA(he:PE X e te):PS X (.Return (some e) pos) (FH te):=by
 intro pins s σ H D I h
 exact wpAny_Return_some (aW (he pins s σ H _ I h) fun v s1 ⟨x,H1,I1,r1,q1⟩=>⟨x,σ,H1,I1,r1,q1⟩)
def Ed(c:TT)(t u:TS):TS:=fun D σ H=>c σ H fun b H1=>if b=true then t D σ H1 else u D σ H1
theorem bt{c:Expr}{a b:List Stmt}{tc:TT}(hc:PT X c tc)(ha:tT X a t)(hb:tT X b u):PS X (.If c a b pos) (Ed tc t u):=by
 intro pins s σ H D I h
 refine wpAny_If (aW (hc pins s σ H _ I h) fun d s1 ⟨H1,I1,q1⟩=>?_)
 cases d with
 |true=>exact ha pins s1 σ H1 D I1 q1
 |false=>exact hb pins s1 σ H1 D I1 q1
def Iy:TS:=fun _ _ _=>False
theorem nA:PS X st Iy:=fun _ _ _ _ _ _ h=>h.elim
end
abbrev TG:=V->St->Hp->(St->Hp->Prop)->Prop
abbrev Ht:=List V->St->Hp->(St->Hp->Prop)->Prop
def PG(X:Cx)(target:Expr)(t:TG):Prop:=
 ∀(pins:List (Addr×Obj))(s:Shared)(σ:St)(H:Hp)(v:V)(u:Value)(Q:St->Hp->Prop),Inv X pins σ H s->RelV v u->t v σ H Q->
  wpAny (model X.prog X.w) X.A (assign target X.env u) (fun _ s'=>∃σ' H',Inv X pins σ' H' s'/\Q σ' H') X.xe s
def KH(X:Cx)(ts:List Expr)(t:Ht):Prop:=
 ∀(pins:List (Addr×Obj))(s:Shared)(σ:St)(H:Hp)(vs:List V)(us:List Value)(Q:St->Hp->Prop),Inv X pins σ H s->Vals vs us->t vs σ H Q->
  wpAny (model X.prog X.w) X.A (assignInOrder ((assignEach ts X.env).map (·.2)) us) (fun _ s'=>∃σ' H',Inv X pins σ' H' s'/\Q σ' H') X.xe s
abbrev JN:=V->V->V->Hp->(Hp->Prop)->Prop
def KI(X:Cx)(t:JN):Prop:=
 ∀(pins:List (Addr×Obj))(s:Shared)(σ:St)(H:Hp)(o i v:V)(ov iv u:Value)(Q:Hp->Prop),Inv X pins σ H s->RelV o ov->RelV i iv->RelV v u->t o i v H Q->
  wpAny (model X.prog X.w) X.A (setItem ov iv u) (fun _ s'=>∃H',Inv X pins σ H' s'/\Q H') X.xe s
section
variable{X:Cx}{pos:Pos}
def cF(i:Nat):TG:=fun v σ H Q=>Q (σ.set i (some v)) H
theorem ay{i:Nat}{x:Str}(hN:X.N.Nodup)(hi:X.N[i]?=some x)(hx:Loc X.env.scope x)(hf:X.fn x=true\/X.env.scope.names.lookup x=some .local:=by first|exact .inl rfl|exact .inr rfl|assumption):PG X (.Name x pos) (cF i):=by
 intro pins s σ H v u Q I r h
 exact wpAny_assign_Name (gL I hN hi hx r (fun s' I'=>⟨_,H,I',h⟩) hf)
def Jp:Ht:=fun vs σ H Q=>vs=[]/\Q σ H
def vQ(t:TG)(u:Ht):Ht:=fun vs σ H Q=>∃v r,vs=v::r/\t v σ H fun σ' H'=>u r σ' H' Q
theorem dW:KH X [] Jp:=by
 intro pins s σ H vs us Q I r h
 obtain⟨e,h⟩:=h
 subst e
 cases r
 exact assignInOrder_nil ⟨σ,H,I,h⟩
theorem bh{e:Expr}{es:List Expr}{t:TG}{u:Ht}(h1:PG X e t)(h2:KH X es u)
  (hs:(assignEach (e::es) X.env).map (·.2)=assign e X.env::(assignEach es X.env).map (·.2):=by rfl):KH X (e::es) (vQ t u):=by
 intro pins s σ H vs us Q I r h
 obtain⟨v,vr,e1,h⟩:=h
 subst e1
 cases r with
 |cons r rr=>
  rw[hs]
  refine assignInOrder_cons (aW (h1 pins s σ H _ _ _ I r h) fun _ s1 ⟨σ1,H1,I1,q1⟩=>?_)
  exact h2 pins s1 σ1 H1 _ _ Q I1 rr q1
def GC(K:W.Frag)(n:Nat)(t:Ht):TG:=fun v σ H Q=>∃a xs,v= .ref a/\e8 K H a xs/\xs.length=n/\t xs σ H Q
theorem JL{es:List Expr}{k:Nat}{t:Ht}{n:Nat}(hc:X.calm=true)(h:KH X es t)
  (hn:(assignEach es X.env).length=n:=by rfl) (hst:(assignEach es X.env).findIdx? (·.1)=none:=by rfl):PG X (.Tuple es k pos) (GC X.K n t):=by
 intro pins s σ H v u Q I r hw
 obtain⟨a,xs,e1,hq,hl,hw⟩:=hw
 subst e1
 cases r
 obtain⟨its,rv,ht,hz⟩:=I.tuple hq
 refine assign_Tuple_tuple (I.ok.hd hc) ht (by simp[hn,←hl,rv.length]) hst fun h' hx=>?_
 have I1:Inv X pins σ H {s with heap:=h'}:=I.kept (t':=s.toks) fun b o e=>hx b o (Nat.ne_of_lt (Heap.lt_size e)) e
 exact h pins _ σ H xs _ Q I1 (by simpa using rv) hw
def M5(to ti:TE)(t:JN):TG:=fun v σ H Q=>to σ H fun o H1=>ti σ H1 fun i H2=>t o i v H2 fun H3=>Q σ H3
theorem En{o i:Expr}{to ti:TE}{t:JN}(ho:PE X o to)(hi:PE X i ti)(hs:KI X t)
  (ha:∀v,assign (.Subscript o i pos) X.env v=(do
   let ov←holding [v] (eval o X.env)
   let iv←holding [v,ov] (eval i X.env)
   standAt pos
   holding [v,ov,iv] (setItem ov iv v)
   release [v,ov,iv] []):=by intro _;rfl):PG X (.Subscript o i pos) (M5 to ti t):=by
 intro pins s σ H v u Q I r h
 rw[ha]
 refine wpAny_bind (wpAny_holding (aW (ho pins s σ H _ I h) fun ov s1 ⟨x,H1,I1,r1,q1⟩=>?_))
 refine wpAny_bind (wpAny_holding (aW (hi pins s1 σ H1 _ I1 q1) fun iv s2 ⟨y,H2,I2,r2,q2⟩=>?_))
 refine wpAny_bind (wpAny_standAt (wpAny_bind (wpAny_holding (aW (hs pins s2 σ H2 x y v ov iv u _ I2 r1 r2 r q2) fun _ s3 ⟨H3,I3,q3⟩=>?_))))
 exact wpAny_release ⟨σ,H3,I3,q3⟩
def yt(te:TE)(g:TG):TS:=fun D σ H=>te σ H fun x H1=>g x σ H1 D.nx
theorem qG{tg e:Expr}{te:TE}{g:TG}(he:PE X e te)(hg:PG X tg g)(hs:swapsWithSole [tg] e pos.line X.env=pure false:=by rfl)(hw:swappedStores [tg] e X.env=pure none:=by rfl)
  (h1:(assignEach [tg] X.env).map (·.2)=[assign tg X.env]:=by rfl):PS X (.Assign [tg] e pos) (yt te g):=by
 intro pins s σ H D I h
 refine wpAny_Assign_stores (aW (he pins s σ H _ I h) fun v s1 ⟨x,H1,I1,r1,q1⟩=>?_) hs hw
 rw[h1]
 exact aW (hg pins s1 σ H1 x v _ I1 r1 q1) fun _ s2 q=>q
theorem aB{i:Nat}{x:Str}{e:Expr}{te:TE}{pos':Pos}(hN:X.N.Nodup)(hi:X.N[i]?=some x)(hx:Loc X.env.scope x)(he:PE X e te)(hs:swapsWith e (some (.Name x pos')) pos.line X.env=pure false:=by rfl)(hf:X.fn x=true\/X.env.scope.names.lookup x=some .local:=by first|exact .inl rfl|exact .inr rfl|assumption):
  PS X (.Assign [.Name x pos'] e pos) (yt te (cF i)):=by
 intro pins s σ H D I h
 refine wpAny_Assign_Name (aW (he pins s σ H _ I h) fun v s1 ⟨y,H1,I1,r1,q1⟩=>?_) hs
 exact gL I1 hN hi hx r1 (fun s2 I2=>⟨_,H1,I2,q1⟩) hf
def MP(i j:Nat)(ta:TA):TS:=fun D σ H=>ta σ H fun vs H1=>∃v w,vs=[v,w]/\D.nx ((σ.set i (some v)).set j (some w)) H1
theorem Jj{i j:Nat}{x y:Str}{a b:Expr}{ta:TA}{px py pt:Pos}{kt k2 pt2}(hc:X.calm=true)(hN:X.N.Nodup)(hi:X.N[i]?=some x)(hj:X.N[j]?=some y)(hij:i≠j)
  (hx:X.env.scope.names.lookup x=some .local) (hy:X.env.scope.names.lookup y=some .local) (ha:PA X [a,b] ta)
  (hw:swappedStores [.Tuple [.Name x px,.Name y py] kt pt] (.Tuple [a,b] k2 pt2) X.env=pure (some [x,y]))
  (hs:swapsWithSole [.Tuple [.Name x px,.Name y py] kt pt] (.Tuple [a,b] k2 pt2) pos.line X.env=pure false:=by rfl):
  PS X (.Assign [.Tuple [.Name x px,.Name y py] kt pt] (.Tuple [a,b] k2 pt2) pos) (MP i j ta):=by
 intro pins s σ H D I h
 rw[exec_Assign_arm]
 refine wpAny_bind (wpAny_standAt ?_)
 rw[hs]
 refine wpAny_bind (wpAny_pure ?_)
 rw[if_neg (by decide)]
 refine wpAny_bind (Tuple_ (aW (ha _ pins s σ H _ I h) fun us s1 ⟨vs,H1,I1,r1,q1⟩=>?_))
 obtain⟨v,w,e1,q1⟩:=q1
 subst e1
 obtain⟨u1,u2,rfl,rv,rw'⟩:∃u1 u2,us=[u1,u2]/\RelV v u1/\RelV w u2:=by
  cases r1 with
  |cons p q=>
   cases q with
   |cons p' q'=>
    cases q'
    exact⟨_,_,rfl,p,p'⟩
 refine wpAny_newObj_type ?_ (by show 2<=sizeLine;decide)
 have I2:Inv X pins σ H1 {s1 with heap:=s1.heap.push {cls:= .type "tuple",data:= .seq [u1,u2].toArray}}:=I1.kept (t':=s1.toks) fun b o e=>Heap.get?_push_of_some _ e
 rw[hw]
 refine wpAny_bind (wpAny_pure ?_)
 show wpAny (model X.prog X.w) X.A (do rule "assign.swapped-stores";let items←unpackItems (.ref s1.heap.objs.size) 2 none;assignInOrder [fun v=>bindName X.env y v,fun v=>bindName X.env x v] items.reverse;pure Flow.next) _ _ _
 refine wpAny_bind (wpAny_rule (wpAny_bind (unpackItems_tuple (items:= #[u1,u2]) (I.ok.hd hc) (IsTup.new s1.heap _) fun h' hx'=>?_)))
 have I3:=I2.kept (h':=h') (t':=s1.toks) fun b o e=>hx' b o (Nat.ne_of_lt (Heap.lt_size e)) e
 show wpAny _ _ (assignInOrder [fun v=>bindName X.env y v,fun v=>bindName X.env x v] [u2,u1]>>=fun _=>pure Flow.next) _ _ _
 refine wpAny_bind (assignInOrder_cons (wpAny_bindName (gL I3 hN hj (.inl hy) rw' (fun s2 I4=>?_) (.inr hy))))
 refine assignInOrder_cons (wpAny_bindName (gL I4 hN hi (.inl hx) rv (fun s3 I5=>assignInOrder_nil (wpAny_pure ?_)) (.inr hx)))
 rw[List.set_comm _ _ (Ne.symm hij)]at I5
 exact⟨_,H1,I5,q1⟩
end
section
variable{X:Cx}{pos:Pos}
def J6(c:TT)(tb:TS):TS:=fun D σ H=>∃W:Nat->St->Hp->Prop,(∃m,W m σ H)/\∀m σ H,W m σ H->
 c σ H fun b H1=>if b=true then∃N:St->Hp->Prop,(∀σ' H',N σ' H'->∃m',m'<m/\W m' σ' H')/\tb {D with nx:=N,ct:=N,bk:=D.nx} σ H1 else D.nx σ H1
theorem qJ{c:Expr}{body:List Stmt}{tc:TT}{tb:TS}(hp:PassesOwn (model X.prog X.w) X.A X.env X.xe)(hc:PT X c tc)(hb:tT X body tb):PS X (.While c body [] pos) (J6 tc tb):=by
 intro pins s σ H D I h
 obtain⟨W,⟨m0,w0⟩,turn⟩:=h
 refine wpAny_While (codeAny_whileLoop (fun n s'=>∃σ' H',Inv X pins σ' H' s'/\W n σ' H') ?_ m0 ⟨σ,H,I,w0⟩)
 rintro n s1 ⟨σ1,H1,I1,w1⟩
 refine wpAny_passesOwn hp (aW (hc pins s1 σ1 H1 _ I1 (turn n σ1 H1 w1)) fun b s2 ⟨H2,I2,q2⟩=>?_)
 cases b with
 |true=>
  obtain⟨N,hN,q2⟩:=q2
  rw[if_pos rfl]
  refine wpAny_passesOwn hp (aW (hb pins s2 σ1 H2 _ I2 q2) fun f s3 q3=>?_)
  cases f with
  |next=>
   obtain⟨σ3,H3,I3,n3⟩:=q3
   obtain⟨m',hm,w3⟩:=hN σ3 H3 n3
   exact⟨m',hm,σ3,H3,I3,w3⟩
  |cont=>
   obtain⟨σ3,H3,I3,n3⟩:=q3
   obtain⟨m',hm,w3⟩:=hN σ3 H3 n3
   exact⟨m',hm,σ3,H3,I3,w3⟩
  |brk=>exact q3
  |ret v=>exact q3
 |false=>
  rw[if_neg Bool.false_ne_true]
  exact wpAny_execs_nil ⟨σ1,H2,I2,q2⟩
end
structure It where
 go:Nat->Hp->Prop
 JA:Nat->Hp->V->Hp->Prop
 stop:Nat->Hp->Prop
def j4(X:Cx)(pins:List (Addr×Obj))(H:Hp)(b:Addr):Prop:=
 H b=none/\b≠X.env.locals/\b∉X.fs/\(b∈X.ex\/X.s₀.heap.objs.size<=b)/\(∀x c,X.env.cells.lookup x=some c->c≠b)/\∀p∈X.pn++pins,p.1≠b
theorem Inv.Bf {X:Cx}{pins:List (Addr×Obj)}{σ:St}{H H':Hp}{s:Shared}{b:Addr}(I:Inv X pins σ H s)(hb:s.heap.objs.size<=b)(hn:H' b=none):j4 X pins H' b:=by
 refine⟨hn,Nat.ne_of_gt (Nat.lt_of_lt_of_le I.lt hb),I.Ld hb,.inr (Nat.le_trans I.sz hb),fun x c e z=>?_,fun p hp z=>?_⟩
 .obtain⟨v,q⟩:=I.cell x c e
  exact absurd (Nat.lt_of_lt_of_le q.lt (by rw[z];exact hb)) (Nat.lt_irrefl _)
 .exact absurd (Nat.lt_of_lt_of_le (Heap.lt_size (I.pin p hp).1) (by rw[z];exact hb)) (Nat.lt_irrefl _)
structure Turn(P:Program)(w:World)(K:W.Frag)(tg:Expr)(J:It)(fp:List Addr)(it:Addr)(tn:Nat->Heap->Prop):Prop where
 mem:it∈fp
 obj:∀i h,tn i h->∀b∈fp,∃o,h.get? b=some o/\∀v,o.data≠.cell v
 keep:∀i h h',tn i h->(∀b∈fp,∀o,h.get? b=some o->h'.get? b=some o)->tn i h'
 item:∀(X:Cx),X.prog=P->X.w=w->X.K=K->X.calm=true->∀(i:Nat)(pins:List (Addr×Obj))(s:Shared)(σ:St)(H:Hp)(E:Value->Shared->Prop),Inv X pins σ H s->(∀b∈fp,j4 X pins H b)->tn i s.heap->J.go i H->
  wpAny (model P w) X.A (pyNext (.ref it)) (fun r s1=>∃u,r=some u/\
   wpAny (model P w) X.A (letOwnedTupleGo tg (.ref it) u) (fun _ s2=>∃x H',Inv X pins σ H' s2/\RelV x u/\J.JA i H x H'/\tn (i+1) s2.heap/\∀b∈fp,H' b=none) E s1) E s
 done:∀(X:Cx),X.prog=P->X.w=w->X.K=K->X.calm=true->∀(i:Nat)(pins:List (Addr×Obj))(s:Shared)(σ:St)(H:Hp)(E:Value->Shared->Prop),Inv X pins σ H s->(∀b∈fp,j4 X pins H b)->tn i s.heap->J.stop i H->
  wpAny (model P w) X.A (pyNext (.ref it)) (fun r s1=>r=none/\Inv X pins σ H s1) E s
 self:∀(A:Around)(i:Nat)(s:Shared)(Q:Value->Shared->Prop)(E:Value->Shared->Prop),tn i s.heap->Q (.ref it) s->wpAny (model P w) A (pyIter (.ref it)) Q E s
abbrev TI:=St->Hp->(It->Hp->Prop)->Prop
def Mi(X:Cx)(pins:List (Addr×Obj))(σ:St)(tg:Expr)(R:It->Hp->Prop)(itv:Value)(s2:Shared):Prop:=
 ∃(it:Addr)(fp:List Addr)(tn:Nat->Heap->Prop)(J:It)(H':Hp),itv= .ref it/\Inv X pins σ H' s2/\Turn X.prog X.w X.K tg J fp it tn/\tn 0 s2.heap/\(∀b∈fp,j4 X pins H' b)/\R J H'
def PI(X:Cx)(tg iter:Expr)(wi:TI):Prop:=
 ∀(pins:List (Addr×Obj))(s:Shared)(σ:St)(H:Hp)(R:It->Hp->Prop),Inv X pins σ H s->wi σ H R->
  wpAny (model X.prog X.w) X.A (eval iter X.env) (fun v s1=>wpAny (model X.prog X.w) X.A (pyIter v) (Mi X pins σ tg R) X.xe s1) X.xe s
theorem wM{M:Model}{A:Around}{E:Value->Shared->Prop}{s:Shared}{tg:Expr}{it:Addr}{u:Value}{o:Obj}{n:String}{vs:Array Value}{Q:Unit->Shared->Prop}(ho:s.heap.get? it=some o)(hc:o.cls= .type n)(hd:o.data= .fields vs)
  (hn:["enumerate","zip","dict_itemiterator","dict_reverseitemiterator","odict_iterator","itertools.zip_longest","itertools.pairwise"].contains n=false) (hQ:Q () s):wpAny M A (letOwnedTupleGo tg (.ref it) u) Q E s:=by
 unfold letOwnedTupleGo
 cases tg<;>first
  |exact wpAny_pure hQ
  |(cases u<;>first
    |exact wpAny_pure hQ
    |(refine wpAny_bind (wpAny_load ho ?_)
      rw[hc,hd]
      show wpAny M A (if(["enumerate","zip","dict_itemiterator","dict_reverseitemiterator","odict_iterator","itertools.zip_longest","itertools.pairwise"].contains n&&vs[0]?==some (rawInt _))=true then _ else _) Q E s
      rw[if_neg (by intro h;rw[hn,Bool.false_and]at h;cases h)]
      exact wpAny_pure hQ))
def Fb(K:W.Frag)(a:Addr):It:=
 ⟨fun i H=>∃xs x,aC K H a xs/\xs[i]?=some x,fun i H x H'=>H'=H/\∀xs,aC K H a xs->xs[i]?=some x,fun i H=>∃xs,aC K H a xs/\xs.length<=i⟩
def M0(K:W.Frag)(a:Addr):It:=
 ⟨fun i H=>∃xs x,e8 K H a xs/\xs[i]?=some x,fun i H x H'=>H'=H/\∀xs,e8 K H a xs->xs[i]?=some x,fun i H=>∃xs,e8 K H a xs/\xs.length<=i⟩
def Hg(lo:Int)(n:Nat):It:=⟨fun i _=>i<n,fun i H x H'=>H'=H/\x= .int (lo+i),fun i _=>n<=i⟩
theorem Bj{P:Program}{w:World}{K:W.Frag}{tg:Expr}(a it:Addr):Turn P w K tg (Fb K a) [it] it (fun i h=>h.IsListIter it a i)where
 mem:=by simp
 obj:=fun i h st b hb=>by
  have e:b=it:=by simpa using hb
  subst e
  obtain⟨o,e,c,d⟩:=st
  exact⟨o,e,fun v z=>by rw[d]at z;cases z⟩
 keep:=fun i h h' st k=>st.at fun o e=>k it (by simp) o e
 item:=by
  intro X hP hw hK hc i pins s σ H E I hf st hg
  subst hP hw hK
  obtain⟨xs,x,hq,hx⟩:=hg
  obtain⟨its,rv,p,hz⟩:=I.list hq
  obtain⟨u,hu,ru⟩:=rv.get hx
  obtain⟨f0,f1,f2,f3,f4,f5⟩:=hf it (by simp)
  refine wpAny_pyNext_list_item st p.isList (x:=u) (by simpa using hu) fun h' st' sb=>?_
  have I1:Inv X pins σ H {s with heap:=h'}:=I.turned (t':=s.toks) (fun b o hb e=>(sb.2 b hb).trans e) f0 f1 f3 f4 f5
  obtain⟨o,e,c,d⟩:=id st'
  exact⟨u,rfl,wM (s:={s with heap:=h'}) e c d (by decide) ⟨x,H,I1,ru,⟨rfl,fun ys hy=>by rw[I.DS hy hq];exact hx⟩,st',fun b hb=>(hf b hb).1⟩⟩
 done:=by
  intro X hP hw hK hc i pins s σ H E I hf st hg
  subst hP hw hK
  obtain⟨xs,hq,hx⟩:=hg
  obtain⟨its,rv,p,hz⟩:=I.list hq
  obtain⟨f0,f1,f2,f3,f4,f5⟩:=hf it (by simp)
  have hl:=rv.length
  exact wpAny_pyNext_list_end (I.ok.hd hc) st p.isList (by simp;lia) fun h' eb=>⟨rfl,I.turned (t':=s.toks) (fun b o hb e=>eb b o hb e) f0 f1 f3 f4 f5⟩
 self:=fun _ _ _ _ _ st h=>wpAny_pyIter_listiter st h
theorem yX{P:Program}{w:World}{K:W.Frag}{tg:Expr}(a it:Addr):Turn P w K tg (M0 K a) [it] it (fun i h=>h.IsTupleIter it a i)where
 mem:=by simp
 obj:=fun i h st b hb=>by
  have e:b=it:=by simpa using hb
  subst e
  obtain⟨o,e,c,d⟩:=st
  exact⟨o,e,fun v z=>by rw[d]at z;cases z⟩
 keep:=fun i h h' st k=>st.at fun o e=>k it (by simp) o e
 item:=by
  intro X hP hw hK hc i pins s σ H E I hf st hg
  subst hP hw hK
  obtain⟨xs,x,hq,hx⟩:=hg
  obtain⟨its,rv,p,hz⟩:=I.tuple hq
  obtain⟨u,hu,ru⟩:=rv.get hx
  obtain⟨f0,f1,f2,f3,f4,f5⟩:=hf it (by simp)
  refine wpAny_pyNext_tuple_item st (show s.heap.IsTuple a its.toArray from p) (x:=u) (by simpa using hu) fun h' st' sb=>?_
  have I1:Inv X pins σ H {s with heap:=h'}:=I.turned (t':=s.toks) (fun b o hb e=>(sb.2 b hb).trans e) f0 f1 f3 f4 f5
  obtain⟨o,e,c,d⟩:=id st'
  exact⟨u,rfl,wM (s:={s with heap:=h'}) e c d (by decide) ⟨x,H,I1,ru,⟨rfl,fun ys hy=>by rw[I.BE hy hq];exact hx⟩,st',fun b hb=>(hf b hb).1⟩⟩
 done:=by
  intro X hP hw hK hc i pins s σ H E I hf st hg
  subst hP hw hK
  obtain⟨xs,hq,hx⟩:=hg
  obtain⟨its,rv,p,hz⟩:=I.tuple hq
  obtain⟨f0,f1,f2,f3,f4,f5⟩:=hf it (by simp)
  have hl:=rv.length
  exact wpAny_pyNext_tuple_end (I.ok.hd hc) st (show s.heap.IsTuple a its.toArray from p) (by simp;lia) fun h' eb=>⟨rfl,I.turned (t':=s.toks) (fun b o hb e=>eb b o hb e) f0 f1 f3 f4 f5⟩
 self:=fun _ _ _ _ _ st h=>wpAny_pyIter_tupleiter st h
theorem zd{P:Program}{w:World}{K:W.Frag}{tg:Expr}(it:Addr)(lo:Int)(n:Nat):Turn P w K tg (Hg lo n) [it] it (fun i h=>IsRangeIter h it (lo+(i:Nat)*1) ((n:Int)-(i:Nat)) 1)where
 mem:=by simp
 obj:=fun i h st b hb=>by
  have e:b=it:=by simpa using hb
  subst e
  exact⟨_,st,fun v z=>by
   have z':Data.fields _=Data.cell v:=z
   cases z'⟩
 keep:=fun i h h' st k=>k it (by simp) _ st
 item:=by
  intro X hP hw hK hc i pins s σ H E I hf st hg
  subst hP hw hK
  obtain⟨f0,f1,f2,f3,f4,f5⟩:=hf it (by simp)
  have W:=Walks.range (prog:=X.prog) (w:=X.w) (I.ok.hd hc) it lo 1 n
  refine W.item i s _ _ hg st fun v h' tk hv st' kk=>?_
  obtain⟨t,rfl⟩:=hv
  have I1:Inv X pins σ H {s with heap:=h',toks:=tk}:=I.turned (fun b o hb e=>kk b o (by simpa using hb) e) f0 f1 f3 f4 f5
  refine⟨_,rfl,wM (s:={s with heap:=h',toks:=tk}) (n:= "range_iterator") st' rfl rfl (by decide) ⟨.int (lo+i),H,I1,⟨t,?_⟩,⟨rfl,rfl⟩,st',fun b hb=>(hf b hb).1⟩⟩
  rw[Int.mul_one]
 done:=by
  intro X hP hw hK hc i pins s σ H E I hf st hg
  subst hP hw hK
  obtain⟨f0,f1,f2,f3,f4,f5⟩:=hf it (by simp)
  exact wpAny_pyNext_range_end (I.ok.hd hc) st (by have:n<=i:=hg;lia) fun h' eb=>⟨rfl,I.turned (t':=s.toks) (fun b o hb e=>eb b o hb e) f0 f1 f3 f4 f5⟩
 self:=fun _ _ _ _ _ st h=>wpAny_pyIter_rangeiter st h
section
variable{X:Cx}{tg:Expr}
def HG(K:W.Frag)(tl:TE):TI:=fun σ H R=>tl σ H fun x H1=>∃a,x= .ref a/\(∃xs,aC K H1 a xs)/\R (Fb K a) H1
def K3(K:W.Frag)(tl:TE):TI:=fun σ H R=>tl σ H fun x H1=>∃a,x= .ref a/\(∃xs,e8 K H1 a xs)/\R (M0 K a) H1
theorem FQ{l:Expr}{tl:TE}(hl:PE X l tl):PI X tg l (HG X.K tl):=by
 intro pins s σ H R I h
 refine aW (hl pins s σ H _ I h) fun v s1 ⟨x,H1,I1,r1,q1⟩=>?_
 obtain⟨a,e,⟨xs,hq⟩,q⟩:=q1
 subst e
 cases r1
 obtain⟨its,rv,p,hz⟩:=I1.list hq
 refine wpAny_pyIter_list p.isList ?_
 refine⟨s1.heap.objs.size,[s1.heap.objs.size],_,_,H1,rfl,I1.kept (t':=s1.toks) fun b o e=>Heap.get?_push_of_some _ e,Bj a _,⟨_,Heap.get?_push_size _ rfl,rfl,rfl⟩,fun b hb=>?_,q⟩
 have e:b=s1.heap.objs.size:=by simpa using hb
 subst e
 exact I1.Bf (Nat.le_refl _) (I1.aY.fresh (Nat.le_refl _))
theorem J8{l:Expr}{tl:TE}(hl:PE X l tl):PI X tg l (K3 X.K tl):=by
 intro pins s σ H R I h
 refine aW (hl pins s σ H _ I h) fun v s1 ⟨x,H1,I1,r1,q1⟩=>?_
 obtain⟨a,e,⟨xs,hq⟩,q⟩:=q1
 subst e
 cases r1
 obtain⟨its,rv,p,hz⟩:=I1.tuple hq
 refine wpAny_pyIter_tuple (show s1.heap.IsTuple a its.toArray from p) ?_
 refine⟨s1.heap.objs.size,[s1.heap.objs.size],_,_,H1,rfl,I1.kept (t':=s1.toks) fun b o e=>Heap.get?_push_of_some _ e,yX a _,⟨_,Heap.get?_push_size _ rfl,rfl,rfl⟩,fun b hb=>?_,q⟩
 have e:b=s1.heap.objs.size:=by simpa using hb
 subst e
 exact I1.Bf (Nat.le_refl _) (I1.aY.fresh (Nat.le_refl _))
theorem wQ{pins:List (Addr×Obj)}{σ:St}{H:Hp}{s:Shared}{R:It->Hp->Prop}{E:Value->Shared->Prop}{lo hi:Int}{t u v:Tok}{tk:Nat}(I:Inv X pins σ H s)(h1: -(2^62)<=lo)(h2:lo<2^62)(h3: -(2^62)<=hi)(h4:hi<2^62)
  (q:R (Hg lo (hi-lo).toNat) H):wpAny (model X.prog X.w) X.A (pyIter (.ref s.heap.objs.size)) (Mi X pins σ tg R) E {s with heap:=s.heap.push {cls:= .type "range",data:= .fields #[.int lo t,.int hi u,.int 1 v]},toks:=tk}:=by
 refine wpAny_pyIter_range (IsRange.new ..) (small_one h1 h2 h3 h4) ?_
 have I1:Inv X pins σ H {s with heap:=s.heap.push {cls:= .type "range",data:= .fields #[.int lo t,.int hi u,.int 1 v]},toks:=tk}:=I.kept fun b o e=>Heap.get?_push_of_some _ e
 refine⟨(s.heap.push {cls:= .type "range",data:= .fields #[.int lo t,.int hi u,.int 1 v]}).objs.size,[(s.heap.push {cls:= .type "range",data:= .fields #[.int lo t,.int hi u,.int 1 v]}).objs.size],_,_,H,rfl,
  I1.kept (t':=tk) fun b o e=>Heap.get?_push_of_some _ e,zd _ lo (hi-lo).toNat,?_,fun b hb=>?_,q⟩
 .have e1:lo+((0:Nat):Int)*1=lo:=by simp
  have e2:(((hi-lo).toNat:Nat):Int)-((0:Nat):Int)=Builtin.Range.rangeSize lo hi 1:=by rw[rangeSize_one];split<;>lia
  show IsRangeIter _ _ (lo+((0:Nat):Int)*1) ((((hi-lo).toNat:Nat):Int)-((0:Nat):Int)) 1
  rw[e1,e2]
  exact Heap.get?_push_size _ rfl
 .have e:b=(s.heap.push {cls:= .type "range",data:= .fields #[.int lo t,.int hi u,.int 1 v]}).objs.size:=by simpa using hb
  subst e
  exact I1.Bf (Nat.le_refl _) (I1.aY.fresh (Nat.le_refl _))
def Lp(ta:TA):TI:=fun σ H R=>ta σ H fun vs H1=>∃j:Int,vs=[.int j]/\-(2^62)<=j/\j<2^62/\R (Hg 0 j.toNat) H1
def LG(ta:TA):TI:=fun σ H R=>ta σ H fun vs H1=>∃i j:Int,vs=[.int i,.int j]/\(-(2^62)<=i/\i<2^62/\-(2^62)<=j/\j<2^62)/\R (Hg i (j-i).toNat) H1
theorem oI{a:Expr}{ta:TA}{p pos:Pos}(hg:Gl X "range")(hm:X.mg "range" =none)(ha:PA X [a] ta)(hs:starEach [a] X.env=[(false,eval a X.env)]:=by rfl):PI X tg (.Call (.Name "range" p) [a] [] pos) (Lp ta):=by
 intro pins s σ H R I h
 refine Call_ (kc I hg hm boot_range (PyProof.Rows.callWith_type1 (aW (ha pos pins s σ H _ I h) fun us s1 ⟨vs,H1,I1,r1,q1⟩=>?_) hs rfl))
 obtain⟨j,e,q1,q2,q⟩:=q1
 subst e
 cases r1 with
 |cons r rr=>
  cases rr
  obtain⟨t,rfl⟩:=r
  exact call_range_1 (wQ I1 (by lia) (by lia) q1 q2 (by simpa using q))
theorem fh{a b:Expr}{ta:TA}{p pos:Pos}(hg:Gl X "range")(hm:X.mg "range" =none)(ha:PA X [a,b] ta)(hs:starEach [a,b] X.env=[(false,eval a X.env),(false,eval b X.env)]:=by rfl)(hs2:starEach [b] X.env=[(false,eval b X.env)]:=by rfl):
  PI X tg (.Call (.Name "range" p) [a,b] [] pos) (LG ta):=by
 intro pins s σ H R I h
 refine Call_ (kc I hg hm boot_range (PyProof.Rows.callWith_type1 (aW (ha pos pins s σ H _ I h) fun us s1 ⟨vs,H1,I1,r1,q1⟩=>?_) (by rw[hs,hs2]) (by rw[hs2];rfl)))
 obtain⟨i,j,e,⟨q1,q2,q3,q4⟩,q⟩:=q1
 subst e
 cases r1 with
 |cons r rr=>
  cases rr with
  |cons r' rr=>
   cases rr
   obtain⟨t,rfl⟩:=r
   obtain⟨t',rfl⟩:=r'
   exact call_range_2 (wQ I1 q1 q2 q3 q4 q)
def MN(wi:TI)(g:TG)(tb:TS):TS:=fun D σ H=>wi σ H fun J H1=>∃W:Nat->Nat->St->Hp->Prop,(∃m,W 0 m σ H1)/\∀i m σ H,W i m σ H->
 (J.stop i H/\D.nx σ H)\/(J.go i H/\∃N:St->Hp->Prop,(∀σ' H',N σ' H'->∃m',m'<m/\W (i+1) m' σ' H')/\∀x H',J.JA i H x H'->g x σ H' fun σ2 H2=>tb {D with nx:=N,ct:=N,bk:=D.nx} σ2 H2)
def oq(fp:List Addr)(h:Heap):List (Addr×Obj):=fp.filterMap fun b=>(h.get? b).map fun o=>(b,o)
theorem fc{fp:List Addr}{h:Heap}{b:Addr}{o:Obj}(hb:b∈fp)(e:h.get? b=some o):(b,o)∈oq fp h:=List.mem_filterMap.mpr ⟨b,hb,by rw[e];rfl⟩
theorem BU{fp:List Addr}{h:Heap}{p:Addr×Obj}(hp:p∈oq fp h):p.1∈fp/\h.get? p.1=some p.2:=by
 obtain⟨b,hb,e⟩:=List.mem_filterMap.mp hp
 cases q:h.get? b with
 |none=>rw[q]at e;cases e
 |some o=>
  rw[q]at e
  have e':(b,o)=p:=Option.some.inj e
  subst e'
  exact⟨hb,q⟩
theorem Inv.pinned {pins:List (Addr×Obj)}{σ:St}{H:Hp}{s:Shared}{fp:List Addr}(I:Inv X pins σ H s)(hf:∀b∈fp,j4 X pins H b)(ho:∀b∈fp,∃o,s.heap.get? b=some o/\∀v,o.data≠.cell v):Inv X (pins++oq fp s.heap) σ H s:=
 I.pP fun p hp=>(List.mem_append.mp hp).elim (fun z=>I.pin p (List.mem_append_right _ z)) fun z=>by
  obtain⟨hb,e⟩:=BU z
  obtain⟨f0,f1,f2,_⟩:=hf p.1 hb
  obtain⟨o,e',d⟩:=ho p.1 hb
  rw[e]at e';cases e'
  exact⟨e,f0,f1,f2,d⟩
theorem Inv.eC {pins pl:List (Addr×Obj)}{σ:St}{H:Hp}{s:Shared}(I:Inv X (pins++pl) σ H s):Inv X pins σ H s:=I.pP fun p hp=>I.pin p (List.mem_append_right _ (List.mem_append_left _ hp))
theorem eu{iter:Expr}{body:List Stmt}{wi:TI}{g:TG}{tb:TS}{pos:Pos}(hp:PassesOwn (model X.prog X.w) X.A X.env X.xe)(hc:X.calm=true)(hi:PI X tg iter wi)(hg:PG X tg g)(hb:tT X body tb)
  (hs:∀x,foldedSetIterable iter X.env x=pure x:=by intro _;rfl):PS X (.For tg iter body [] pos) (MN wi g tb):=by
 intro pins s σ H D I h
 refine wpAny_For (aW (hi pins s σ H _ I h) fun v s1 h1=>aW h1 fun itv s2 h2=>?_) hs
 obtain⟨it,fp,tn,J,H2,e,I2,T,st2,f2,W,⟨m0,w0⟩,turn⟩:=h2
 subst e
 have stat:∀{H':Hp},(∀b∈fp,H' b=none)->∀b∈fp,j4 X pins H' b:=fun hn b hb=>⟨hn b hb,(f2 b hb).2⟩
 refine codeAny_forLoop_any (fun n s'=>∃i σ' H',Inv X pins σ' H' s'/\tn i s'.heap/\(∀b∈fp,H' b=none)/\W i n σ' H') ?_ m0 ⟨0,σ,H2,I2,st2,fun b hb=>(f2 b hb).1,w0⟩
 rintro n s3 ⟨i,σ3,H3,I3,st3,fr3,w3⟩
 rcases turn i n σ3 H3 w3 with⟨stop,qn⟩|⟨go,N,hN,step⟩
 .refine wpAny_passesOwn hp (aW (T.done X rfl rfl rfl hc i pins s3 σ3 H3 X.xe I3 (stat fr3) st3 stop) fun r s4 ⟨hr,I4⟩=>?_)
  subst hr
  exact wpAny_execs_nil ⟨σ3,H3,I4,qn⟩
 .refine wpAny_passesOwn hp (aW (T.item X rfl rfl rfl hc i pins s3 σ3 H3 X.xe I3 (stat fr3) st3 go) fun r s4 ⟨u,hr,h4⟩=>?_)
  subst hr
  refine wpAny_passesOwn hp (aW h4 fun _ s5 ⟨x,H5,I5,r5,y5,st5,fr5⟩=>?_)
  have I5':=I5.pinned (stat fr5) (T.obj _ _ st5)
  refine wpAny_passesOwn hp (aW (hg _ s5 σ3 H5 x u _ I5' r5 (step x H5 y5)) fun _ s6 ⟨σ6,H6,I6,q6⟩=>?_)
  refine wpAny_passesOwn hp (aW (hb _ s6 σ6 H6 _ I6 q6) fun f s7 q7=>?_)
  have again:∀{σ7:St}{H7:Hp},Inv X (pins++oq fp s5.heap) σ7 H7 s7->N σ7 H7->∃m,m<n/\∃i σ' H',Inv X pins σ' H' s7/\tn i s7.heap/\(∀b∈fp,H' b=none)/\W i m σ' H':=fun{σ7 H7} I7 n7=>by
   obtain⟨m',hm,w7⟩:=hN σ7 H7 n7
   refine⟨m',hm,i+1,σ7,H7,I7.eC,T.keep _ _ _ st5 fun b hb o e=>(I7.pin (b,o) (List.mem_append_right _ (List.mem_append_right _ (fc hb e)))).1,fun b hb=>?_,w7⟩
   obtain⟨o,e,d⟩:=T.obj _ _ st5 b hb
   exact(I7.pin (b,o) (List.mem_append_right _ (List.mem_append_right _ (fc hb e)))).2.1
  cases f with
  |next=>obtain⟨σ7,H7,I7,n7⟩:=q7;exact again I7 n7
  |cont=>obtain⟨σ7,H7,I7,n7⟩:=q7;exact again I7 n7
  |brk=>obtain⟨σ7,H7,I7,q7⟩:=q7;exact⟨σ7,H7,I7.eC,q7⟩
  |ret v=>obtain⟨x7,σ7,H7,I7,r7,q7⟩:=q7;exact⟨x7,σ7,H7,I7.eC,r7,q7⟩
end
theorem kh{K:W.Frag}{a:Addr}{xs:List V}{g:TG}{tb:TS}{D:Ends}{σ:St}{H:Hp}(Pv:Nat->St->Hp->Prop)(h0:Pv 0 σ H)(hl:∀i σ H,i<=xs.length->Pv i σ H->aC K H a xs)
  (hs:∀i x σ H,xs[i]?=some x->Pv i σ H->g x σ H fun σ2 H2=>tb {D with nx:=Pv (i+1),ct:=Pv (i+1),bk:=D.nx} σ2 H2) (hd:∀σ H,Pv xs.length σ H->D.nx σ H):
  ∃W:Nat->Nat->St->Hp->Prop,(∃m,W 0 m σ H)/\∀i m σ H,W i m σ H->
   ((Fb K a).stop i H/\D.nx σ H)\/((Fb K a).go i H/\∃N:St->Hp->Prop,(∀σ' H',N σ' H'->∃m',m'<m/\W (i+1) m' σ' H')/\∀x H',(Fb K a).JA i H x H'->g x σ H' fun σ2 H2=>tb {D with nx:=N,ct:=N,bk:=D.nx} σ2 H2):=by
 refine⟨fun i m σ H=>m=xs.length-i/\i<=xs.length/\Pv i σ H,⟨xs.length,by simp,Nat.zero_le _,h0⟩,?_⟩
 rintro i m σ H ⟨rfl,hi,p⟩
 have q:=hl i σ H hi p
 by_cases hlt:i<xs.length
 .refine .inr ⟨⟨xs,xs[i],q,by simp[hlt]⟩,Pv (i+1),fun σ' H' p'=>⟨xs.length-(i+1),by lia,rfl,hlt,p'⟩,fun x H' y=>?_⟩
  obtain⟨e,y⟩:=y
  subst e
  exact hs i x σ _ (y xs q) p
 .have e:i=xs.length:=by lia
  subst e
  exact .inl ⟨⟨xs,q,Nat.le_refl _⟩,hd σ H p⟩
theorem cU{lo:Int}{n:Nat}{g:TG}{tb:TS}{D:Ends}{σ:St}{H:Hp}(Pv:Nat->St->Hp->Prop)(h0:Pv 0 σ H)
  (hs:∀i σ H,i<n->Pv i σ H->g (.int (lo+i)) σ H fun σ2 H2=>tb {D with nx:=Pv (i+1),ct:=Pv (i+1),bk:=D.nx} σ2 H2) (hd:∀σ H,Pv n σ H->D.nx σ H):
  ∃W:Nat->Nat->St->Hp->Prop,(∃m,W 0 m σ H)/\∀i m σ H,W i m σ H->
   ((Hg lo n).stop i H/\D.nx σ H)\/((Hg lo n).go i H/\∃N:St->Hp->Prop,(∀σ' H',N σ' H'->∃m',m'<m/\W (i+1) m' σ' H')/\∀x H',(Hg lo n).JA i H x H'->g x σ H' fun σ2 H2=>tb {D with nx:=N,ct:=N,bk:=D.nx} σ2 H2):=by
 refine⟨fun i m σ H=>m=n-i/\i<=n/\Pv i σ H,⟨n,by simp,Nat.zero_le _,h0⟩,?_⟩
 rintro i m σ H ⟨rfl,hi,p⟩
 by_cases hlt:i<n
 .refine .inr ⟨hlt,Pv (i+1),fun σ' H' p'=>⟨n-(i+1),by lia,rfl,hlt,p'⟩,fun x H' y=>?_⟩
  obtain⟨e,y⟩:=y
  subst e y
  exact hs i σ _ hlt p
 .have e:i=n:=by lia
  subst e
  exact .inl ⟨Nat.le_refl _,hd σ H p⟩
abbrev R2:=V->V->Hp->VK->Prop
def lg(X:Cx)(f:Value->Value->Sem Value)(r:R2):Prop:=
 ∀(pins:List (Addr×Obj))(s:Shared)(σ:St)(H:Hp)(x y:V)(v u:Value)(Q:VK),Inv X pins σ H s->RelV x v->RelV y u->r x y H Q->
  wpAny (model X.prog X.w) X.A (f v u) (EP X pins σ Q) X.xe s
def Mu(X:Cx)(f:Value->Sem Value)(r:V->Hp->VK->Prop):Prop:=
 ∀(pins:List (Addr×Obj))(s:Shared)(σ:St)(H:Hp)(x:V)(v:Value)(Q:VK),Inv X pins σ H s->RelV x v->r x H Q->
  wpAny (model X.prog X.w) X.A (f v) (EP X pins σ Q) X.xe s
def cq(X:Cx)(f:Value)(r:List V->Hp->VK->Prop):Prop:=
 ∀(pins:List (Addr×Obj))(s:Shared)(σ:St)(H:Hp)(xs:List V)(us:List Value)(Q:VK),Inv X pins σ H s->Vals xs us->r xs H Q->
  wpAny (model X.prog X.w) X.A (call f us) (EP X pins σ Q) X.xe s
def zE(r:R2)(ta tb:TE):TE:=fun σ H Q=>ta σ H fun x H1=>tb σ H1 fun y H2=>r x y H2 Q
def NL(r:V->Hp->VK->Prop)(ta:TE):TE:=fun σ H Q=>ta σ H fun x H1=>r x H1 Q
def rI(C:Int->Int->Prop)(g:Int->Int->V):R2:=fun x y H Q=>∃i j,x= .int i/\y= .int j/\C i j/\Q (g i j) H
def HI(g:Int->Int->V):R2:=fun x y H Q=>∃i j,x= .int i/\y= .int j/\Q (g i j) H
def rU(g:Int->V):V->Hp->VK->Prop:=fun x H Q=>∃i,x= .int i/\Q (g i) H
section
variable{X:Cx}{a b c:Expr}{ta tb tc:TE}{pos:Pos}
theorem J3(ha:PE X a ta)(hb:PE X b tb){pins:List (Addr×Obj)}{s:Shared}{σ:St}{H:Hp}{R:V->V->Hp->Prop}(I:Inv X pins σ H s)
  (h:ta σ H fun x H1=>tb σ H1 fun y H2=>R x y H2) {Q:Value->Shared->Prop} {f:Value->Value->Sem Value}
  (hf:∀v u s2 x y H2,Inv X pins σ H2 s2->RelV x v->RelV y u->R x y H2->wpAny (model X.prog X.w) X.A (f v u) Q X.xe s2):
  wpAny (model X.prog X.w) X.A (eval a X.env) (fun v s₁=>wpAny (model X.prog X.w) X.A (eval b X.env) (fun u s₂=>wpAny (model X.prog X.w) X.A (f v u) Q X.xe s₂) X.xe s₁) X.xe s:=by
 refine aW (ha pins s σ H _ I h) fun v s1 ⟨x,H1,I1,r1,q1⟩=>?_
 refine aW (hb pins s1 σ H1 _ I1 q1) fun u s2 ⟨y,H2,I2,r2,q2⟩=>?_
 exact hf v u s2 x y H2 I2 r1 r2 q2
theorem ax{op:Operator}{r:R2}(ho:lg X (binaryOp op) r)(ha:PE X a ta)(hb:PE X b tb):PE X (.BinOp a op b pos) (zE r ta tb):=by
 intro pins s σ H Q I h
 exact wpAny_BinOp (J3 ha hb I h fun v u s2 x y H2 I2 rx ry q=>ho pins s2 σ H2 x y v u Q I2 rx ry q)
theorem HR{op:UnaryOp}{r:V->Hp->VK->Prop}(ho:Mu X (unaryOp op) r)(ha:PE X a ta):PE X (.UnaryOp op a pos) (NL r ta):=by
 intro pins s σ H Q I h
 exact UnaryOp_ (aW (ha pins s σ H _ I h) fun v s1 ⟨x,H1,I1,r1,q1⟩=>ho pins s1 σ H1 x v Q I1 r1 q1)
theorem Mh{f:Value->Value->Sem Value}{C:Int->Int->Prop}{g:Int->Int->Int}
  (rule:∀(i j:Int)(t u:Tok)(s:Shared)(Q:Value->Shared->Prop)(E:Value->Shared->Prop),C i j->Q (.int (g i j) s.toks) {s with toks:=s.toks+1}->wpAny (model X.prog X.w) X.A (f (.int i t) (.int j u)) Q E s):
  lg X f (rI C fun i j=> .int (g i j)):=by
 intro pins s σ H x y v u Q I rx ry h
 obtain⟨i,j,rfl,rfl,hc,q⟩:=h
 obtain⟨t,rfl⟩:=rx
 obtain⟨t',rfl⟩:=ry
 exact rule i j t t' s _ _ hc ⟨.int (g i j),H,I.tok _,⟨_,rfl⟩,q⟩
theorem LV{f:Value->Value->Sem Value}{g:Int->Int->Int}
  (rule:∀(i j:Int)(t u:Tok)(s:Shared)(Q:Value->Shared->Prop)(E:Value->Shared->Prop),Q (.int (g i j) s.toks) {s with toks:=s.toks+1}->wpAny (model X.prog X.w) X.A (f (.int i t) (.int j u)) Q E s):
  lg X f (HI fun i j=> .int (g i j)):=by
 intro pins s σ H x y v u Q I rx ry h
 obtain⟨i,j,rfl,rfl,q⟩:=h
 obtain⟨t,rfl⟩:=rx
 obtain⟨t',rfl⟩:=ry
 exact rule i j t t' s _ _ ⟨.int (g i j),H,I.tok _,⟨_,rfl⟩,q⟩
theorem Gp{f:Value->Value->Sem Value}{g:Int->Int->Bool}
  (rule:∀(i j:Int)(t u:Tok)(s:Shared)(Q:Value->Shared->Prop)(E:Value->Shared->Prop),Q (.bool (g i j)) s->wpAny (model X.prog X.w) X.A (f (.int i t) (.int j u)) Q E s):
  lg X f (HI fun i j=> .bl (g i j)):=by
 intro pins s σ H x y v u Q I rx ry h
 obtain⟨i,j,rfl,rfl,q⟩:=h
 obtain⟨t,rfl⟩:=rx
 obtain⟨t',rfl⟩:=ry
 exact rule i j t t' s _ _ ⟨.bl (g i j),H,I,rfl,q⟩
def MJ(i j:Int):Prop:=0<=j/\j<=1000000/\i.natAbs<2^64
def J4(i j:Int):Prop:=(-(2^64)<i/\i<2^64)\/(-(2^64)<j/\j<2^64)
theorem J4.ok {i j:Int}(h:J4 i j):IntMulOk i j:=by
 rcases h with⟨h1,h2⟩|⟨h1,h2⟩
 .exact .of_left (intBits_le_64 h1 h2)
 .exact .of_right (intBits_le_64 h1 h2)
theorem bw:lg X (binaryOp .Add) (HI fun i j=> .int (i+j)):=LV fun _ _ _ _ _ _ _ q=>add_int q
theorem cx:lg X (binaryOp .Sub) (HI fun i j=> .int (i-j)):=LV fun _ _ _ _ _ _ _ q=>sub_int q
theorem lT:lg X (binaryOp .Mult) (rI J4 fun i j=> .int (i*j)):=Mh fun _ _ _ _ _ _ _ hc q=>mul_int q hc.ok
theorem lZ:lg X (binaryOp .Mod) (rI (fun _ j=>0<j) fun i j=> .int (i%j)):=Mh fun i j _ _ _ _ _ hc q=>by
 have h1:(0:Int)<j:=hc
 exact mod_int' (by lia) (by rw[Int.fmod_eq_emod_of_nonneg i (by lia)];exact q)
theorem yO:lg X (binaryOp .Pow) (rI MJ fun i j=> .int (i^j.toNat)):=Mh fun _ _ _ _ _ _ _ hc q=>pow_int_small hc.1 hc.2.1 hc.2.2 q
theorem NM{f:Value->Sem Value}{g:Int->Int}
  (rule:∀(i:Int)(t:Tok)(s:Shared)(Q:Value->Shared->Prop)(E:Value->Shared->Prop),Q (.int (g i) s.toks) {s with toks:=s.toks+1}->wpAny (model X.prog X.w) X.A (f (.int i t)) Q E s):
  Mu X f (rU fun i=> .int (g i)):=by
 intro pins s σ H x v Q I rx h
 obtain⟨i,rfl,q⟩:=h
 obtain⟨t,rfl⟩:=rx
 exact rule i t s _ _ ⟨.int (g i),H,I.tok _,⟨_,rfl⟩,q⟩
theorem DB:Mu X (unaryOp .USub) (rU fun i=> .int (-i)):=NM fun _ _ _ _ _ q=>neg_int q
end
def L9:V->V->Bool
 | .cP,.cP=>true| .cP,.int _=>true| .int _,.cP=>true| .cP,.bl _=>true| .bl _,.cP=>true| .cP,.str _=>true| .str _,.cP=>true
 | .int _,.int _=>true| .bl _,.bl _=>true| .str _,.str _=>true| .byt _,.byt _=>true
 | .int _,.str _=>true| .str _,.int _=>true| .bl _,.str _=>true| .str _,.bl _=>true
 |_,_=>false
def Nx:R2:=fun x y H Q=>L9 x y=true/\Q (.bl (decide (x=y))) H
def ND:R2:=fun x y H Q=>L9 x y=true/\Q (.bl (!decide (x=y))) H
theorem Au{i j:Int}:decide (V.int i=V.int j)=(i==j):=by
 rw[Bool.eq_iff_iff]
 simp
theorem De{i j:Bool}:decide (V.bl i=V.bl j)=(i==j):=by
 rw[Bool.eq_iff_iff]
 simp
theorem zK{i j:Str}:decide (V.str i=V.str j)=(i==j):=by
 rw[Bool.eq_iff_iff]
 simp
theorem AH{i j:Array UInt8}:decide (V.byt i=V.byt j)=(i.toList==j.toList):=by
 rw[Bool.eq_iff_iff]
 cases i
 cases j
 simp
section
variable{X:Cx}{a b c:Expr}{ta tb tc:TE}{pos:Pos}
theorem bz{pins:List (Addr×Obj)}{σ:St}{H:Hp}{s:Shared}{Q:VK}{k k':Bool}(I:Inv X pins σ H s)(q:Q (.bl k) H)(e:k=k'):EP X pins σ Q (.bool k') s:=by
 subst e
 exact⟨.bl k,H,I,rfl,q⟩
theorem cG:lg X (compareOp .Eq) Nx:=by
 intro pins s σ H x y v u Q I rx ry h
 obtain⟨hs,q⟩:=h
 cases x with
 |cP=>
  cases rx
  cases y with
  |cP=>cases ry;exact PySem.EqNone.eq_none_none (bz I q (by simp))
  |bl j=>cases ry;exact PySem.EqNone.eq_none_bool (bz I q (by simp))
  |int j=>obtain⟨t',rfl⟩:=ry;exact PySem.EqNone.eq_none_int (bz I q (by simp))
  |str j=>obtain⟨t',rfl⟩:=ry;exact PySem.EqNone.eq_none_str (bz I q (by simp))
  |_=>exact absurd (show false=true from hs) Bool.false_ne_true
 |bl i=>
  cases rx
  cases y with
  |cP=>cases ry;exact PySem.EqNone.eq_bool_none (bz I q (by simp))
  |bl j=>cases ry;exact eq_bool (bz I q De)
  |str j=>obtain⟨t',rfl⟩:=ry;exact PySem.EqMixed.eq_bool_str (bz I q (by simp))
  |_=>exact absurd (show false=true from hs) Bool.false_ne_true
 |int i=>
  obtain⟨t,rfl⟩:=rx
  cases y with
  |cP=>cases ry;exact PySem.EqNone.eq_int_none (bz I q (by simp))
  |int j=>obtain⟨t',rfl⟩:=ry;exact eq_int (bz I q Au)
  |str j=>obtain⟨t',rfl⟩:=ry;exact PySem.EqMixed.eq_int_str (bz I q (by simp))
  |_=>exact absurd (show false=true from hs) Bool.false_ne_true
 |str i=>
  obtain⟨t,rfl⟩:=rx
  cases y with
  |cP=>cases ry;exact PySem.EqNone.eq_str_none (bz I q (by simp))
  |bl j=>cases ry;exact PySem.EqMixed.eq_str_bool (bz I q (by simp))
  |int j=>obtain⟨t',rfl⟩:=ry;exact PySem.EqMixed.eq_str_int (bz I q (by simp))
  |str j=>obtain⟨t',rfl⟩:=ry;exact eq_str (bz I q zK)
  |_=>exact absurd (show false=true from hs) Bool.false_ne_true
 |byt i=>
  obtain⟨t,rfl⟩:=rx
  cases y with
  |byt j=>obtain⟨t',rfl⟩:=ry;exact W.eq_bytes (bz I q AH)
  |_=>exact absurd (show false=true from hs) Bool.false_ne_true
 |_=>cases y<;>exact absurd (show false=true from hs) Bool.false_ne_true
theorem lG:lg X (compareOp .NotEq) ND:=by
 intro pins s σ H x y v u Q I rx ry h
 obtain⟨hs,q⟩:=h
 cases x with
 |cP=>
  cases rx
  cases y with
  |cP=>cases ry;exact PySem.EqNone.ne_none_none (bz I q (by simp))
  |bl j=>cases ry;exact PySem.EqNone.ne_none_bool (bz I q (by simp))
  |int j=>obtain⟨t',rfl⟩:=ry;exact PySem.EqNone.ne_none_int (bz I q (by simp))
  |str j=>obtain⟨t',rfl⟩:=ry;exact PySem.EqNone.ne_none_str (bz I q (by simp))
  |_=>exact absurd (show false=true from hs) Bool.false_ne_true
 |bl i=>
  cases rx
  cases y with
  |cP=>cases ry;exact PySem.EqNone.ne_bool_none (bz I q (by simp))
  |bl j=>cases ry;exact ne_bool (bz I q (congrArg not De))
  |str j=>obtain⟨t',rfl⟩:=ry;exact PySem.EqMixed.ne_bool_str (bz I q (by simp))
  |_=>exact absurd (show false=true from hs) Bool.false_ne_true
 |int i=>
  obtain⟨t,rfl⟩:=rx
  cases y with
  |cP=>cases ry;exact PySem.EqNone.ne_int_none (bz I q (by simp))
  |int j=>obtain⟨t',rfl⟩:=ry;exact ne_int (bz I q (congrArg not Au))
  |str j=>obtain⟨t',rfl⟩:=ry;exact PySem.EqMixed.ne_int_str (bz I q (by simp))
  |_=>exact absurd (show false=true from hs) Bool.false_ne_true
 |str i=>
  obtain⟨t,rfl⟩:=rx
  cases y with
  |cP=>cases ry;exact PySem.EqNone.ne_str_none (bz I q (by simp))
  |bl j=>cases ry;exact PySem.EqMixed.ne_str_bool (bz I q (by simp))
  |int j=>obtain⟨t',rfl⟩:=ry;exact PySem.EqMixed.ne_str_int (bz I q (by simp))
  |str j=>obtain⟨t',rfl⟩:=ry;exact ne_str (bz I q (congrArg not zK))
  |_=>exact absurd (show false=true from hs) Bool.false_ne_true
 |byt i=>
  obtain⟨t,rfl⟩:=rx
  cases y with
  |byt j=>obtain⟨t',rfl⟩:=ry;exact W.ne_bytes (bz I q (congrArg not AH))
  |_=>exact absurd (show false=true from hs) Bool.false_ne_true
 |_=>cases y<;>exact absurd (show false=true from hs) Bool.false_ne_true
theorem Dx:lg X (compareOp .Lt) (HI fun i j=> .bl (decide (i<j))):=Gp fun _ _ _ _ _ _ _ q=>lt_int q
theorem zY:lg X (compareOp .LtE) (HI fun i j=> .bl (decide (i<=j))):=Gp fun _ _ _ _ _ _ _ q=>le_int q
theorem qB:lg X (compareOp .Gt) (HI fun i j=> .bl (decide (j<i))):=Gp fun _ _ _ _ _ _ _ q=>gt_int q
theorem LX:lg X (compareOp .GtE) (HI fun i j=> .bl (decide (j<=i))):=Gp fun _ _ _ _ _ _ _ q=>ge_int q
theorem aL(b:Expr){op:CmpOp}(h:op≠.In:=by decide)(h2:op≠.NotIn:=by decide):behindInMarks op b=false:=by
 have e1:(op==CmpOp.In)=false:=by cases op<;>first|rfl|exact absurd rfl h
 have e2:(op==CmpOp.NotIn)=false:=by cases op<;>first|rfl|exact absurd rfl h2
 cases b<;>simp[behindInMarks,e1,e2]
theorem fH{op:CmpOp}{r:R2}(ho:lg X (compareOp op) r)(ha:PE X a ta)(hb:PE X b tb)(hm:behindInMarks op b=false):PE X (.Compare a [op] [b] pos) (zE r ta tb):=by
 intro pins s σ H Q I h
 exact wpAny_Compare1 (J3 ha hb I h fun v u s2 x y H2 I2 rx ry q=>ho pins s2 σ H2 x y v u Q I2 rx ry q) hm
def CI(t:TE):TT:=fun σ H Q=>t σ H fun x H'=>∃k,x= .bl k/\Q k H'
theorem aI{op:CmpOp}{r:R2}(ho:lg X (compareOp op) r)(ha:PE X a ta)(hb:PE X b tb)(hm:behindInMarks op b=false):PT X (.Compare a [op] [b] pos) (CI (zE r ta tb)):=by
 intro pins s σ H Q I h
 refine wpAny_isTrue_Compare1 (aW (ha pins s σ H _ I h) fun v s1 ⟨x,H1,I1,r1,q1⟩=>aW (hb pins s1 σ H1 _ I1 q1) fun u s2 ⟨y,H2,I2,r2,q2⟩=>
  aW (ho pins s2 σ H2 x y v u _ I2 r1 r2 q2) fun c s3 ⟨z,H3,I3,r3,k,e,q3⟩=>?_) hm
 subst e
 cases r3
 exact wpAny_truthy_bool ⟨H3,I3,q3⟩
def CY(r r':R2)(ta tb tc:TE):TE:=fun σ H Q=>ta σ H fun x H1=>tb σ H1 fun y H2=>r x y H2 fun z H3=>∃k,z= .bl k/\
 (if k=true then tc σ H3 fun w' H4=>r' y w' H4 Q else Q (.bl false) H3)
theorem C3{op op':CmpOp}{r r':R2}(ho:lg X (compareOp op) r)(ho':lg X (compareOp op') r')(ha:PE X a ta)(hb:PE X b tb)(hc:PE X c tc)
  (hm:lastMarks [op,op'] [b,c]=false:=by with_unfolding_all rfl):PE X (.Compare a [op,op'] [b,c] pos) (CY r r' ta tb tc):=by
 intro pins s σ H Q I h
 refine Compare_chain (aW (ha pins s σ H _ I h) fun v s1 ⟨x,H1,I1,r1,q1⟩=>chain_link (aW (hb pins s1 σ H1 _ I1 q1) fun u s2 ⟨y,H2,I2,r2,q2⟩=>
  aW (ho pins s2 σ H2 x y v u _ I2 r1 r2 q2) fun d s3 ⟨z,H3,I3,r3,k,e,q3⟩=>?_)) hm
 subst e
 cases r3
 refine wpAny_truthy_bool ?_
 cases k with
 |false=>exact ite_ff ⟨.bl false,H3,I3,rfl,q3⟩
 |true=>exact ite_tt (chain_last (aW (hc pins s3 σ H3 _ I3 q3) fun w' s4 ⟨z',H4,I4,r4,q4⟩=>ho' pins s4 σ H4 y z' u w' Q I4 r2 r4 q4))
theorem Df{op op':CmpOp}{r r':R2}(ho:lg X (compareOp op) r)(ho':lg X (compareOp op') r')(ha:PE X a ta)(hb:PE X b tb)(hc:PE X c tc)
  (hm:lastMarks [op,op'] [b,c]=false:=by with_unfolding_all rfl):PT X (.Compare a [op,op'] [b,c] pos) (CI (CY r r' ta tb tc)):=by
 intro pins s σ H Q I h
 refine isTrue_chain (aW (ha pins s σ H _ I h) fun v s1 ⟨x,H1,I1,r1,q1⟩=>test_link (aW (hb pins s1 σ H1 _ I1 q1) fun u s2 ⟨y,H2,I2,r2,q2⟩=>
  aW (ho pins s2 σ H2 x y v u _ I2 r1 r2 q2) fun d s3 ⟨z,H3,I3,r3,k,e,q3⟩=>?_)) hm
 subst e
 cases r3
 refine wpAny_truthy_bool ?_
 cases k with
 |false=>
  obtain⟨k',e',q'⟩:=q3
  cases e'
  exact ite_ff ⟨H3,I3,q'⟩
 |true=>
  refine ite_tt (test_last (aW (hc pins s3 σ H3 _ I3 q3) fun w' s4 ⟨z',H4,I4,r4,q4⟩=>aW (ho' pins s4 σ H4 y z' u w' _ I4 r2 r4 q4) fun d' s5 ⟨z2,H5,I5,r5,k2,e2,q5⟩=>?_))
  subst e2
  cases r5
  exact wpAny_truthy_bool ⟨H5,I5,q5⟩
theorem qf:(sizeLine:Nat)<2^63:=by rw[sizeLine_eq];decide
theorem bo:lg X (binaryOp .Add) (fun x y H Q=>∃i j,x= .str i/\y= .str j/\i.length+j.length<=sizeLine/\Q (.str (i++j)) H):=by
 intro pins s σ H x y v u Q I rx ry h
 obtain⟨i,j,rfl,rfl,hz,q⟩:=h
 obtain⟨t,rfl⟩:=rx
 obtain⟨t',rfl⟩:=ry
 exact add_str (fun t' tk=>⟨.str (i++j),H,I.tok _,⟨_,rfl⟩,q⟩) hz
theorem vals1{x:V}{us:List Value}(r:Vals [x] us):∃u,us=[u]/\RelV x u:=by
 cases r with
 |cons r1 r2=>cases r2;exact⟨_,rfl,r1⟩
theorem vals2{x y:V}{us:List Value}(r:Vals [x,y] us):∃u w',us=[u,w']/\RelV x u/\RelV y w':=by
 cases r with
 |cons r1 r2=>
  cases r2 with
  |cons r3 r4=>cases r4;exact⟨_,_,rfl,r1,r3⟩
theorem DR:cq X (.builtin "abs") (fun xs H Q=>∃i,xs=[.int i]/\Q (.int (if i<0 then-i else i)) H):=by
 intro pins s σ H xs us Q I r h
 obtain⟨i,rfl,q⟩:=h
 obtain⟨u,rfl,t,rfl⟩:=vals1 r
 exact call_abs_int fun u tk=>⟨.int (if i<0 then-i else i),H,I.tok _,⟨_,rfl⟩,q⟩
theorem kZ(hc:X.calm=true):cq X (.builtin "max") (fun xs H Q=>∃i j,xs=[.int i,.int j]/\Q (.int (if j>i then j else i)) H):=by
 intro pins s σ H xs us Q I r h
 obtain⟨i,j,rfl,q⟩:=h
 obtain⟨u,w',rfl,⟨t,rfl⟩,⟨t',rfl⟩⟩:=vals2 r
 refine max_two_ints (I.ok.hd hc) fun h' tk k=>⟨_,H,I.kept k,?_,q⟩
 by_cases hj:j>i
 .rw[if_pos hj,if_pos hj];exact⟨_,rfl⟩
 .rw[if_neg hj,if_neg hj];exact⟨_,rfl⟩
theorem iP(hc:X.calm=true):cq X (.builtin "min") (fun xs H Q=>∃i j,xs=[.int i,.int j]/\Q (.int (if j<i then j else i)) H):=by
 intro pins s σ H xs us Q I r h
 obtain⟨i,j,rfl,q⟩:=h
 obtain⟨u,w',rfl,⟨t,rfl⟩,⟨t',rfl⟩⟩:=vals2 r
 refine min_two_ints (I.ok.hd hc) fun h' tk k=>⟨_,H,I.kept k,?_,q⟩
 by_cases hj:j<i
 .rw[if_pos hj,if_pos hj];exact⟨_,rfl⟩
 .rw[if_neg hj,if_neg hj];exact⟨_,rfl⟩
theorem kR:cq X (.type "int") (fun xs H Q=>(∃i,xs=[.int i]/\Q (.int i) H)\/∃k,xs=[.bl k]/\Q (.int (if k then 1 else 0)) H):=by
 intro pins s σ H xs us Q I r h
 rcases h with⟨i,rfl,q⟩|⟨k,rfl,q⟩
 .obtain⟨u,rfl,t,rfl⟩:=vals1 r
  exact call_int_int ⟨.int i,H,I,⟨_,rfl⟩,q⟩
 .obtain⟨u,rfl,r1⟩:=vals1 r
  cases r1
  exact call_int_bool ⟨.int (if k then 1 else 0),H,I.tok _,⟨_,rfl⟩,q⟩
theorem bH:cq X (.type "str") (fun xs H Q=>∃i,xs=[.int i]/\i.natAbs.log2<1920/\Q (.str (toString i)) H):=by
 intro pins s σ H xs us Q I r h
 obtain⟨i,rfl,hz,q⟩:=h
 obtain⟨u,rfl,t,rfl⟩:=vals1 r
 exact PySem.P.str_of_int hz ⟨.str _,H,I.tok _,⟨_,rfl⟩,q⟩
end
structure y3(h:Heap)(x dx C:Addr)(mA:Str->Option Value):Prop where
 obj:h.get? x=some (W.instObj C dx)
 ns:h.Ns1 dx mA
 ne:dx≠x
theorem A8{h:Heap}{dx:Addr}{mA:Str->Option Value}(n:h.Ns1 dx mA):∃od,h.get? dx=some od/\∀name,W.lookIn name od=some (mA name):=by
 obtain⟨o,es,ep,ho,hd,hk,_,hm⟩:=n
 refine⟨o,ho,fun name=>?_⟩
 have e:=hm name
 unfold nsFind findBy at e
 rw[←Array.find?_toList]at e
 unfold W.lookIn
 rw[hd]
 dsimp only
 split
 .rename_i y q
  rw[q]at e
  exact congrArg some e
 .rename_i q
  rw[q]at e
  have a:es.toList.any (·.refKey)=false:=by
   rw[List.any_eq_false]
   intro y hy
   obtain⟨z,t,hkey⟩:=hk y (Array.mem_toList_iff.mp hy)
   simp[DictEntry.refKey,hkey]
  have a':¬es.toList.any (·.refKey)=true:=by rw[a];exact Bool.false_ne_true
  rw[if_neg a']
  exact congrArg some e
theorem y3.look {h:Heap}{x dx C:Addr}{mA:Str->Option Value}(I:y3 h x dx C mA):∃od,W.InstAt h x (W.instObj C dx) C (some od)/\∀name,W.lookIn name od=some (mA name):=
 let⟨od,ho,hl⟩:=A8 I.ns
 ⟨od,⟨I.obj,rfl,rfl,ho⟩,hl⟩
section
variable{prog:Program}{w:World}{A:Around}{E:Value->Shared->Prop}{s:Shared}{K:W.Frag}{x dx C f:Addr}{mA:Str->Option Value}{name:Str}{v:Value}
theorem get_map{expr:Bool}{Q:Value->Shared->Prop}(X:K.In s.heap)(I:y3 s.heap x dx C mA)(hg:W.plainGet K C name=true)(hh:W.hasDictIn K C=true)
  (ha:W.findIn K (.ref C) name=some none) (hv:mA name=some v) (hv':W.handedIn v=true) (h:Q v {s with toks:=s.toks+1}):
  wpAny (model prog w) A (getAttr (.ref x) name expr) Q E s:=by
 obtain⟨od,J,hl⟩:=I.look
 exact W.get_value X J (W.plainGet_of hg).1 (W.findObj_own hh ha rfl (by rw[hl,hv])) hv' h
theorem Cs{pl:Sem Bool}{Q:Value×List Value->Shared->Prop}(X:K.In s.heap)(I:y3 s.heap x dx C mA)(hg:W.plainGet K C name=true)
  (hf:W.findIn K (.ref C) name=some (some (.ref f))) (ht:W.isFn K (.ref f)=true) (hv:mA name=none) (h:Q (.ref f,[.ref x]) s):
  wpAny (model prog w) A (getMethod (.ref x) name pl) Q E s:=by
 obtain⟨od,J,hl⟩:=I.look
 exact W.method_fn X J (W.plainGet_of hg).1 (W.plainGet_of hg).2 hf (beq_iff_eq.mp ht) (by show(W.lookIn name od).map (·.isSome)=some false;rw[hl,hv];rfl) h
theorem GK{ns:List Str}{Q:Unit->Shared->Prop}(X:K.In s.heap)(I:y3 s.heap x dx C mA)
  (hs:W.findIn K (.ref C) "__setattr__" =some (some (.builtin "object.__setattr__"))) (hp:W.plainOver K C=true) (ht:W.takerIn K C name=some none) (hh:W.hasDictIn K C=true)
  (hw:PySem.Within mA ns) (hsz:ns.length<=sizeLine)
  (h:∀h',y3 h' x dx C (fun y=>if y=name then some v else mA y)->Heap.SameBut dx s.heap h'->Q () {s with heap:=h',toks:=s.toks+2}):
  wpAny (model prog w) A (setAttr (.ref x) name v) Q E s:=by
 obtain⟨od,J,hl⟩:=I.look
 refine W.set_plain X J hs (W.osa_open (s:={s with toks:=s.toks+1}) (r:=none) X J hp ht fun b=>?_)
 obtain⟨cd,hc,hd'⟩:=W.any_some hh
 have hx:s.heap.get? x=some ⟨.ref C,some dx,.plain,#[]⟩:=I.obj
 refine wpAny_bind (wpAny_pure (wpAny_bind (wpAny_bind (wpAny_loadPart hx (wpAny_bind (W.Looks.here (s:={s with toks:=s.toks+1}) (W.looks_clsIn X hc) ?_))))))
 rw[hd']
 refine wpAny_pure (a:=some dx) (wpAny_bind (wpAny_pure (wpAny_bind ?_)))
 refine wpAny_nsSet1 (s:={s with toks:=s.toks+1}) I.ns fun h' hn2 hs2=>?_
 obtain⟨oD,esD,epD,hoD,hdD,hcD⟩:=hn2.count (PySem.Within.cons name v hw)
 refine wpAny_bind (wpAny_lookBehind hoD (by rw[hdD];exact pastItsLine_dict (Nat.le_trans hcD (by rw[N3];lia))) ?_)
 exact wpAny_pure (h _ ⟨(hs2.2 _ (Ne.symm I.ne)).trans I.obj,hn2,I.ne⟩ hs2)
theorem DO{R:Result->Shared->Prop}{vs:List Value}{kw:List (Str×Value)}(X:K.In s.heap)(hm:W.makesIn K C=true)
  (hi:W.findIn K (.ref C) "__init__" =some (some (.ref f))) (hf:W.typeIn K (.ref f)=some (.type "function"))
  (h:codeAny (model prog w) (A.under (.builtin "type.__call__" ⟨.ref C::vs,kw⟩)) (.call (.ref f) ⟨.ref (s.heap.objs.size+1)::vs,kw⟩) (W.InitBack (s.heap.objs.size+1) R)
   {s with heap:=(s.heap.push W.emptyDict).push (W.instObj C s.heap.objs.size)}):
  codeAny (model prog w) A (.call (.ref C) ⟨vs,kw⟩) R s:=by
 obtain⟨hh,g,d,t,os⟩:=s
 exact W.make_core (W.makes_of X hm) (W.looks_findIn X hi) (fun self=>W.bind_fn X self hf) (.inl rfl) h
end
def jI(f:Str)(v:V):List (Str×V)->List (Str×V)
 |[]=>[(f,v)]
 |(g,x)::r=>if g=f then(g,v)::r else(g,x)::jI f v r
theorem pf(f g:Str)(v:V):∀fs:List (Str×V),(jI f v fs).lookup g=if g=f then some v else fs.lookup g
 |[]=>by
  show List.lookup g [(f,v)]=_
  by_cases h:g=f
  .have hb:(g==f)=true:=beq_iff_eq.mpr h
   simp only[List.lookup,hb,if_pos h]
  .have hb:(g==f)=false:=beq_eq_false_iff_ne.mpr h
   simp only[List.lookup,hb,if_neg h]
 |(k,x)::r=>by
  have ih:=pf f g v r
  rw[show jI f v ((k,x)::r)=(if k=f then(k,v)::r else(k,x)::jI f v r)from rfl]
  by_cases hk:k=f
  .rw[if_pos hk]
   by_cases h:g=k
   .have hb:(g==k)=true:=beq_iff_eq.mpr h
    simp only[List.lookup,hb,if_pos (h.trans hk)]
   .have hb:(g==k)=false:=beq_eq_false_iff_ne.mpr h
    simp only[List.lookup,hb,if_neg (fun e:g=f=>h (e.trans hk.symm))]
  .rw[if_neg hk]
   by_cases h:g=k
   .have hb:(g==k)=true:=beq_iff_eq.mpr h
    simp only[List.lookup,hb,if_neg (fun e:g=f=>hk (h.symm.trans e))]
   .have hb:(g==k)=false:=beq_eq_false_iff_ne.mpr h
    simp only[List.lookup,hb]
    exact ih
theorem nY(f:Str)(v:V):∀fs:List (Str×V),f∈(jI f v fs).map (·.1)/\∀g,g∈fs.map (·.1)->g∈(jI f v fs).map (·.1)
 |[]=>⟨by simp[jI],fun g h=>by simp at h⟩
 |(k,x)::r=>by
  obtain⟨i1,i2⟩:=nY f v r
  rw[show jI f v ((k,x)::r)=(if k=f then(k,v)::r else(k,x)::jI f v r)from rfl]
  by_cases hk:k=f
  .rw[if_pos hk]
   subst hk
   exact⟨by simp,fun g h=>by simpa using h⟩
  .rw[if_neg hk]
   refine⟨?_,fun g h=>?_⟩
   .rw[N4]
    exact List.mem_cons_of_mem _ i1
   .rw[N4]at h⊢
    rcases List.mem_cons.mp h with e|e
    .exact List.mem_cons.mpr (.inl e)
    .exact List.mem_cons_of_mem _ (i2 g e)
theorem o6(f:Str)(v:V):∀fs:List (Str×V),(jI f v fs).length<=fs.length+1
 |[]=>by simp[jI]
 |(k,x)::r=>by
  have ih:=o6 f v r
  rw[show jI f v ((k,x)::r)=(if k=f then(k,v)::r else(k,x)::jI f v r)from rfl]
  by_cases hk:k=f
  .rw[if_pos hk,N3,N3];lia
  .rw[if_neg hk,N3,N3];lia
theorem jc.some_of {v:V}{o:Option Value}(r:jc (some v) o):∃u,o=some u/\RelV v u:=by
 cases o with
 |none=>exact(show False from r).elim
 |some u=>exact⟨u,rfl,r⟩
theorem jc.none_of {o:Option Value}(r:jc none o):o=none:=by
 cases o with
 |none=>rfl
 |some u=>exact(show False from r).elim
theorem AV{v:V}{u:Value}(r:RelV v u):W.handedIn u=true:=by
 cases v with
 |cP=>cases(show u=Value.none from r);rfl
 |bl b=>cases(show u=Value.bool b from r);rfl
 |int i=>obtain⟨t,e⟩:=(show∃t,u=Value.int i t from r);cases e;rfl
 |str x=>obtain⟨t,e⟩:=(show∃t,u=Value.str x t from r);cases e;rfl
 |byt b=>obtain⟨t,e⟩:=(show∃t,u=Value.bytes b t from r);cases e;rfl
 |jR b=>obtain⟨t,e⟩:=(show∃t,u=Value.float b t from r);cases e;rfl
 |ref a=>cases(show u=Value.ref a from r);rfl
 |ty n=>cases(show u=Value.type n from r);rfl
section
variable{P:Program}{w:World}{H H':Hp}{h h':Heap}{a C dx:Addr}{fs fs':List (Str×V)}
theorem p8(aY:lz P w H h)(e:H a=some (.ins C dx fs)):∃mA,y3 h a dx C mA/\(∀f,jc (fs.lookup f) (mA f))/\PySem.Within mA (fs.map (·.1))/\fs.length<=1000/\H dx=some (.own a):=by
 obtain⟨d,z,ne,ob,mA,n,r,q⟩:=(show bN P w H h a (.ins C dx fs)from aY a _ e)
 exact⟨mA,⟨ob,n,ne⟩,r,q,z,d⟩
end
structure Bg(K:W.Frag)(C:Addr):Prop where
 pg:W.plainGet K C Str.empty=true
 hd:W.hasDictIn K C=true
 po:W.plainOver K C=true
 sa:W.findIn K (.ref C) "__setattr__" =some (some (.builtin "object.__setattr__"))
theorem Bg.get {K:W.Frag}{C:Addr}(c:Bg K C)(f:Str):W.plainGet K C f=true:=c.pg
def jU(K:W.Frag)(C:Addr)(f:Str):Prop:=W.findIn K (.ref C) f=some none
theorem jU.LQ {K:W.Frag}{C:Addr}{f:Str}(n:jU K C f):W.takerIn K C f=some none:=by
 unfold W.takerIn
 rw[show W.findIn K (.ref C) f=some none from n]
 rfl
structure Meth(K:W.Frag)(C:Addr)(m:Str)(f:Addr):Prop where
 at_:W.findIn K (.ref C) m=some (some (.ref f))
 fn:W.isFn K (.ref f)=true
 kp:W.keepIn K (.ref f)=true
section
variable{X:Cx}{pins:List (Addr×Obj)}{σ:St}{H:Hp}{s:Shared}{a C dx:Addr}{fs:List (Str×V)}{f:Str}{v:V}{A:Around}{E:Value->Shared->Prop}
theorem yu{b:Bool}{Q:Value->Shared->Prop}(I:Inv X pins σ H s)(e:H a=some (.ins C dx fs))(c:Bg X.K C)(n:jU X.K C f)(l:fs.lookup f=some v)
  (h:∀u s',Inv X pins σ H s'->RelV v u->Q u s'):wpAny (model X.prog X.w) A (getAttr (.ref a) f b) Q E s:=by
 obtain⟨mA,O,r,_,_,_⟩:=p8 I.aY e
 obtain⟨u,hu,ru⟩:=jc.some_of (v:=v) (o:=mA f) (by rw[←l];exact r f)
 exact get_map I.kU O (c.get f) c.hd n hu (AV ru) (h u _ (I.tok _) ru)
theorem lU{m:Str}{g:Addr}{pl:Sem Bool}{Q:Value×List Value->Shared->Prop}(I:Inv X pins σ H s)(e:H a=some (.ins C dx fs))(c:Bg X.K C)(k:Meth X.K C m g)(l:fs.lookup m=none)
  (h:Q (.ref g,[.ref a]) s):wpAny (model X.prog X.w) A (getMethod (.ref a) m pl) Q E s:=by
 obtain⟨mA,O,r,_,_,_⟩:=p8 I.aY e
 have hn:mA m=none:=jc.none_of (by rw[←l];exact r m)
 exact Cs I.kU O (c.get m) k.at_ k.fn hn h
theorem y8{y:V}{u:Value}{Q:Unit->Shared->Prop}(I:Inv X pins σ H s)(e:H a=some (.ins C dx fs))(c:Bg X.K C)(n:jU X.K C f)(hl:fs.length<1000)(ry:RelV y u)
  (h:∀s',Inv X pins σ (upd H a (.ins C dx (jI f y fs))) s'->Q () s'):wpAny (model X.prog X.w) A (setAttr (.ref a) f u) Q E s:=by
 obtain⟨mA,O,r,wi,_,ho⟩:=p8 I.aY e
 have hz:(fs.map (·.1)).length<=sizeLine:=by rw[NY,sizeLine_eq];lia
 refine GK I.kU O c.sa c.po n.LQ c.hd wi hz fun h' O' sb=>h _ ?_
 have hd:∃o,h'.get? dx=some o:=let⟨o,_,_,e',_⟩:=O'.ns;⟨o,e'⟩
 refine I.write (x:=a) (e:=dx) (by rw[e];exact True.intro) (.inr ho) (fun b q hb z=>(sb.2 b hb).trans z) hd ?_
 refine⟨by rw[ao O.ne];exact ho,?_,O.ne,O'.obj,_,O'.ns,fun g=>?_,fun g hg=>?_⟩
 .have:=o6 f y fs;lia
 .show jc ((jI f y fs).lookup g) (if g=f then some u else mA g)
  rw[pf]
  by_cases q:g=f
  .rw[if_pos q,if_pos q];exact ry
  .rw[if_neg q,if_neg q];exact r g
 .by_cases q:g=f
  .rw[q];exact(nY f y fs).1
  .refine(nY f y fs).2 g (wi g fun z=>hg ?_)
   show(if g=f then some u else mA g)=none
   rw[if_neg q];exact z
theorem Inv.made (I:Inv X pins σ H s):Inv X pins σ (upd (upd H s.heap.objs.size (.own (s.heap.objs.size+1))) (s.heap.objs.size+1) (.ins C s.heap.objs.size []))
  {s with heap:=(s.heap.push W.emptyDict).push (W.instObj C s.heap.objs.size)}:=by
 have e1:(s.heap.push W.emptyDict).get? s.heap.objs.size=some W.emptyDict:=Heap.get?_push_size s.heap rfl
 have e2:((s.heap.push W.emptyDict).push (W.instObj C s.heap.objs.size)).get? (s.heap.objs.size+1)=some (W.instObj C s.heap.objs.size):=by
  have:=Heap.get?_push_size (s.heap.push W.emptyDict) (o:=W.instObj C s.heap.objs.size) rfl
  rwa [Heap.size_push]at this
 have e3:(s.heap.push W.emptyDict).Ns s.heap.objs.size (fun _=>none):=⟨W.emptyDict,#[],_,e1,rfl,(fun e he=>absurd he (by simp)),fun _=>rfl⟩
 have I1:=I.laid (a:=s.heap.objs.size) (o:= .own (s.heap.objs.size+1)) (h':=s.heap.push W.emptyDict) (t':=s.toks) (fun b u q=>Heap.get?_push_of_some _ q) (Nat.le_refl _) ⟨_,e1⟩
 refine I1.laid (a:=s.heap.objs.size+1) (o:= .ins C s.heap.objs.size []) (t':=s.toks) (fun b u q=>Heap.get?_push_of_some _ q) (Nat.le_of_eq (Heap.size_push _ _)) ?_
 have ne:s.heap.objs.size≠s.heap.objs.size+1:=Nat.ne_of_lt (Nat.lt_succ_self _)
 refine⟨by rw[ao ne,ae],Nat.zero_le _,ne,e2,fun _=>none,(Heap.Ns1.of_empty e3).at fun o q=>Heap.get?_push_of_some _ q,fun _=>True.intro,fun y hy=>absurd rfl hy⟩
theorem E5{prog:Program}{w:World}{env:Env}{e:Expr}{f:Str}{pos:Pos}{s:Shared}{Q:Value->Shared->Prop}(hb:attributeBase e f env (eval e env)=eval e env)
  (h:wpAny (model prog w) A (eval e env) (fun o s₁=>wpAny (model prog w) A (getAttr o f true) Q E s₁) E s):wpAny (model prog w) A (eval (.Attribute e f pos) env) Q E s:=
 Attribute_any_ h (by rw[arm_eval_Attribute,hb])
end
def LA(K:W.Frag)(ta:TE)(f:Str):TE:=fun σ H Q=>ta σ H fun x H1=>∃a C dx fs v,x= .ref a/\H1 a=some (.ins C dx fs)/\Bg K C/\jU K C f/\fs.lookup f=some v/\Q v H1
def LR(K:W.Frag)(ta tv:TE)(f:Str):TS:=fun D σ H=>tv σ H fun y H1=>ta σ H1 fun x H2=>∃a C dx fs,x= .ref a/\H2 a=some (.ins C dx fs)/\Bg K C/\jU K C f/\fs.length<1000/\
 D.nx σ (upd H2 a (.ins C dx (jI f y fs)))
section
variable{X:Cx}{o e value:Expr}{f:Str}{pos pos' tpos:Pos}{ta tv:TE}
theorem JX(he:PE X e ta)(hb:attributeBase e f X.env (eval e X.env)=eval e X.env):PE X (.Attribute e f pos) (LA X.K ta f):=by
 intro pins s σ H Q I h
 refine E5 hb (aW (he pins s σ H _ I h) fun u s1 ⟨x,H1,I1,rx,a,C,dx,fs,v,ex,ea,c,n,l,q⟩=>?_)
 subst ex
 obtain rfl:u=Value.ref a:=rx
 exact yu I1 ea c n l fun u' s2 I2 ru=>⟨v,H1,I2,ru,q⟩
theorem Jn(ha:PE X o ta)(hv:PE X value tv)(hs:swapsWith value (some (.Attribute o f pos')) pos.line X.env=pure false):PS X (.Assign [.Attribute o f pos'] value pos) (LR X.K ta tv f):=by
 intro pins s σ H D I h
 refine plainObj_wpAny_Assign_Attribute (aW (hv pins s σ H _ I h) fun u s1 ⟨y,H1,I1,ry,q⟩=>aW (ha pins s1 σ H1 _ I1 q) fun ov s2 ⟨x,H2,I2,rx,a,C,dx,fs,ex,ea,c,n,l,q2⟩=>?_) hs
 subst ex
 obtain rfl:ov=Value.ref a:=rx
 exact y8 I2 ea c n l ry fun s3 I3=>⟨σ,_,I3,q2⟩
theorem Hj{pl:Sem Bool}{m:Str}{apos:Pos}{args:List Expr}{pins:List (Addr×Obj)}{s:Shared}{σ:St}{H:Hp}{Q:Value->Shared->Prop}{te:TE}(he:PE X e te)(I:Inv X pins σ H s)
  (h:te σ H fun x H1=>∃a C dx fs g,x= .ref a/\H1 a=some (.ins C dx fs)/\Bg X.K C/\Meth X.K C m g/\fs.lookup m=none/\
   ∀s1,Inv X pins σ H1 s1->wpAny (model X.prog X.w) X.A (callWith pos (.ref g) [.ref a] (backTo pos (starEach args X.env)) (backToKw pos (keywordEach [] X.env))) Q X.xe s1)
  (ht:eval (.Call (.Attribute e m apos) args [] pos) X.env=(do
   let ov←eval e X.env
   standAt apos.atName
   let(f,first)←holding [ov] (getMethod ov m pl)
   callWith pos f first (backTo pos (starEach args X.env)) (backToKw pos (keywordEach [] X.env)))):
  wpAny (model X.prog X.w) X.A (eval (.Call (.Attribute e m apos) args [] pos) X.env) Q X.xe s:=by
 refine W.methodCall_KW (pl:=pl) (aW (he pins s σ H _ I h) fun u s1 ⟨x,H1,I1,rx,a,C,dx,fs,g,ex,ea,c,k,l,q⟩=>?_) ht
 subst ex
 obtain rfl:u=Value.ref a:=rx
 exact lU I1 ea c k l (q s1 I1)
end
section
variable{X:Cx}{pins:List (Addr×Obj)}{σ:St}{H:Hp}{s:Shared}{A:Around}{E:Value->Shared->Prop}{Q:Value->Shared->Prop}{c:Value}{b:Bool}
inductive lY(K:W.Frag)(H:Hp):V->Value->Prop where
 |cP:lY K H .cP (.type "NoneType")
 |bl (x:Bool):lY K H (.bl x) (.type "bool")
 |int (i:Int):lY K H (.int i) (.type "int")
 |str (x:Str):lY K H (.str x) (.type "str")
 |jR (x:UInt64):lY K H (.jR x) (.type "float")
 |lst {a:Addr} {xs:List V} (e:H a=some (.lst xs)):lY K H (.ref a) (.type "list")
 |w4 {a:Addr} {o:Obj} {xs:List V} (e:H a=some (.w4 o (.lst xs))):lY K H (.ref a) (.type "list")
 |tup {a:Addr} {xs:List V} (e:H a=some (.tup xs)):lY K H (.ref a) (.type "tuple")
 |dK {a:Addr} {kvs:List (Key×V)} (e:H a=some (.dK kvs)):lY K H (.ref a) (.type "dict")
 |dT {a:Addr} {kvs:List (List Key×V)} (e:H a=some (.dT kvs)):lY K H (.ref a) (.type "dict")
 |ins {a C dx:Addr} {fs:List (Str×V)} (e:H a=some (.ins C dx fs)) (cl:Bg K C) (ha:W.findIn K (.ref C) "__class__" =some (some (.builtin "object.__class__")))
   (hn:W.specialIn K (.builtin "object.__class__") "__get__" =some (some (.builtin "getset_descriptor.__get__"))) (htk:W.takesIn K (.builtin "object.__class__")=some true)
   (hm:W.mroIn K C (.type "object")=some true):lY K H (.ref a) (.ref C)
theorem Bl{x:V}{u t:Value}(I:Inv X pins σ H s)(rx:RelV x u)(ty:lY X.K H x t)(e:W.kitOne X.K t c=some b)(h:∀tk,Q (.bool b) {s with toks:=tk}):
  wpAny (model X.prog X.w) A (call (.builtin "isinstance") [u,c]) Q E s:=by
 cases ty with
 |cP=>cases(show u=Value.none from rx);exact W.kia_one W.kitx_none I.kU True.intro e (fun z=>nomatch z) h
 |bl y=>cases(show u=Value.bool y from rx);exact W.kia_one W.kitx_bool I.kU True.intro e (fun z=>nomatch z) h
 |int i=>obtain⟨t,q⟩:=(show∃t,u=Value.int i t from rx);cases q;exact W.kia_one W.kitx_int I.kU True.intro e (fun z=>nomatch z) h
 |str y=>obtain⟨t,q⟩:=(show∃t,u=Value.str y t from rx);cases q;exact W.kia_one W.kitx_str I.kU True.intro e (fun z=>nomatch z) h
 |jR y=>obtain⟨t,q⟩:=(show∃t,u=Value.float y t from rx);cases q;exact W.kia_one W.kitx_float I.kU True.intro e (fun z=>nomatch z) h
 | @lst a xs ea=>
  cases(show u=Value.ref a from rx)
  obtain⟨_,_,n,_,h1⟩:=(show bN X.prog X.w H s.heap a (.lst xs)from I.aY a _ ea)
  exact W.kia_one W.kitx_list I.kU ⟨_,h1,rfl⟩ e (fun z=>nomatch z) h
 | @w4 a ob xs ea=>
  cases(show u=Value.ref a from rx)
  obtain⟨_,_,_,n,_,h1⟩:=(show bN X.prog X.w H s.heap a (.w4 ob (.lst xs))from I.aY a _ ea)
  exact W.kia_one W.kitx_list I.kU ⟨_,h1,rfl⟩ e (fun z=>nomatch z) h
 | @tup a xs ea=>
  cases(show u=Value.ref a from rx)
  obtain⟨_,_,_,p⟩:=(show bN X.prog X.w H s.heap a (.tup xs)from I.aY a _ ea)
  obtain⟨o,h1,h2,_⟩:=p
  exact W.kia_one W.kitx_tuple I.kU ⟨o,h1,h2⟩ e (fun z=>nomatch z) h
 | @dK a kvs ea=>
  cases(show u=Value.ref a from rx)
  obtain⟨_,_,vs,_,p⟩:=(show bN X.prog X.w H s.heap a (.dK kvs)from I.aY a _ ea)
  obtain⟨o,es,ep,h1,h2,_⟩:=p
  exact W.kia_one W.kitx_dict I.kU ⟨o,h1,h2.1⟩ e (fun z=>nomatch z) h
 | @dT a kvs ea=>
  cases(show u=Value.ref a from rx)
  obtain⟨_,_,xs,_,o,es,ep,h1,h2,_⟩:=(show bN X.prog X.w H s.heap a (.dT kvs)from I.aY a _ ea)
  exact W.kia_one W.kitx_dict I.kU ⟨o,h1,h2.1⟩ e (fun z=>nomatch z) h
 | @ins a C dx fs ea cl ha hn htk hm=>
  cases(show u=Value.ref a from rx)
  obtain⟨mA,O,_⟩:=p8 I.aY ea
  obtain⟨od,J,_⟩:=O.look
  exact W.kia_one (W.kitx_own (cl.get _) cl.hd ha hn htk hm) I.kU J e (fun z=>nomatch z) h
end
structure cK(k:Nat)(A:Around):Prop where
 hd:A.handled=none
 gd:A.guards=some []
 dp:A.depth+3*k+5<recursionLimit
 un:A.units+16*k+200<cLine
theorem cK.mono {j k:Nat}{A:Around}(r:cK k A)(h:j<=k):cK j A:=⟨r.hd,r.gd,by have:=r.dp;lia,by have:=r.un;lia⟩
theorem cK.deeper {k:Nat}{A:Around}(r:cK (k+1) A)(env:Env):cK k (A.deeper env):=
 ⟨r.hd,r.gd,by have:=r.dp;show A.depth+1+3*k+5<_;lia,by have:=r.un;show A.units+3+16*k+200<_;lia⟩
theorem ye{A:Around}{C:Addr}{us:List Value}{kw:List (Str×Value)}:(A.under (.builtin "type.__call__" ⟨.ref C::us,kw⟩)).depth=A.depth+1:=by
 first|rfl|simp[Around.under,Code.weight,Code.isCreation,Code.isGuard,Code.isCaller,Code.frames,Code.isFrame,guardIds]
theorem yq{A:Around}{C:Addr}{us:List Value}{kw:List (Str×Value)}:(A.under (.builtin "type.__call__" ⟨.ref C::us,kw⟩)).units=A.units+1:=by
 first|rfl|simp[Around.under,Code.cUnits,Code.frames,Code.isFrame]
theorem wN{A:Around}{C:Addr}{us:List Value}{kw:List (Str×Value)}:(A.under (.builtin "type.__call__" ⟨.ref C::us,kw⟩)).guards=A.guards:=by
 first|rfl|simp[Around.under,Code.isGuard,guardIds]
theorem cK.make {k:Nat}{A:Around}(r:cK (k+1) A)(C:Addr)(us:List Value)(kw:List (Str×Value)):cK k (A.under (.builtin "type.__call__" ⟨.ref C::us,kw⟩)):=
 ⟨r.hd,by rw[wN];exact r.gd,by have:=r.dp;rw[ye];lia,by have:=r.un;rw[yq];lia⟩
theorem cK.depth {k:Nat}{A:Around}(r:cK k A):A.depth<recursionLimit:=by have:=r.dp;lia
theorem cK.units {k:Nat}{A:Around}(r:cK k A):A.units+64<cLine:=by have:=r.un;lia
def u6:TA:=fun _ H Q=>Q [] H
def kj(ta:TE)(tr:TA):TA:=fun σ H Q=>ta σ H fun x H1=>tr σ H1 fun xs H2=>Q (x::xs) H2
section
variable{X:Cx}{e:Expr}{es:List Expr}{te:TE}{t:TA}{pos:Pos}
theorem af:PA X [] u6:=fun _ _ _ _ H Q I h=>Calls.spliced_nil ⟨[],H,I,.nil,h⟩
theorem aa(ha:PE X e te)(hr:PA X es t)(hs:starEach (e::es) X.env=(false,eval e X.env)::starEach es X.env:=by rfl):PA X (e::es) (kj te t):=by
 intro pos pins s σ H Q I h
 rw[hs]
 show wpAny _ _ (spliced ((false,eval e X.env)::backTo pos (starEach es X.env))) _ _ s
 refine Calls.spliced_cons (aW (ha pins s σ H _ I h) fun u s1 ⟨x,H1,I1,r1,q1⟩=>?_)
 exact aW (hr pos pins s1 σ H1 _ I1 q1) fun us s2 ⟨xs,H2,I2,r2,q2⟩=>⟨x::xs,H2,I2,.cons r1 r2,q2⟩
def M7(t:TA):TE:=fun σ H Q=>t σ H fun xs H1=>xs.length<=sizeLine/\∀p,H1 p=none->Q (.ref p) (upd H1 p (.tup xs))
def MK(t:TA):TE:=fun σ H Q=>t σ H fun xs H1=>xs.length<=sizeLine/\∀p,H1 p=none->Q (.ref p) (upd H1 p (.lst xs))
theorem jW{x1}(h:PA X es t):PE X (.Tuple es x1 pos) (M7 t):=by
 intro pins s σ H Q I hq
 refine wpAny_Tuple_spliced (aW (h pos pins s σ H _ I hq) fun us s1 ⟨xs,H1,I1,r,z,q⟩=>⟨by rw[←r.length];exact z,?_⟩)
 have hf:H1 s1.heap.objs.size=none:=I1.aY.fresh (Nat.le_refl _)
 refine⟨.ref s1.heap.objs.size,upd H1 s1.heap.objs.size (.tup xs),I1.laid (t':=s1.toks) (fun b u e=>Heap.get?_push_of_some _ e) (Nat.le_refl _) ?_,rfl,q _ hf⟩
 exact⟨z,us,r,⟨_,Heap.get?_push_size _ rfl,rfl,_,rfl⟩⟩
theorem aZ(h:PA X es t):PE X (.List es pos) (MK t):=by
 intro pins s σ H Q I hq
 refine wpAny_List_spliced (aW (h pos pins s σ H _ I hq) fun us s1 ⟨xs,H1,I1,r,z,q⟩=>⟨by rw[←r.length];exact z,?_⟩)
 have hf:H1 s1.heap.objs.size=none:=I1.aY.fresh (Nat.le_refl _)
 refine⟨.ref s1.heap.objs.size,upd H1 s1.heap.objs.size (.lst xs),I1.laid (t':=s1.toks) (fun b u e=>Heap.get?_push_of_some _ e) (Nat.le_refl _) ?_,rfl,q _ hf⟩
 exact⟨z,us,0,r,Heap.get?_push_size _ rfl⟩
end
abbrev Sp:=List V->Hp->VK->XK->Prop
abbrev sf:=List Env->Hp->Shared->XK->Value->Shared->Prop
structure xn(P:Program)(w:World)(K:W.Frag)(mg:Str->Option Value)(base:Heap)(A:Around)(outer:List Env)(s:Shared)(H:Hp):Prop where
 frames:A.frames=some outer
 mod:Mod K mg base
 bs:∀b o,base.get? b=some o->s.heap.get? b=some o/\H b=none
 Ai:base.objs.size<=s.heap.objs.size
 iR:s.heap.FunFrames base outer
 p9:∀b∈gQ outer,H b=none
 aY:lz P w H s.heap
 bare:AllBare s.gens
def CE(outer:List Env)(P:Program)(w:World)(H:Hp)(s:Shared)(Q:VK)(u:Value)(s':Shared):Prop:=
 ∃v H',s'.os=s.os/\AllBare s'.gens/\Un (gQ outer) [] H H' s.heap s'.heap/\lz P w H' s'.heap/\RelV v u/\Q v H'
def CR(CX:sf)(outer:List Env)(P:Program)(w:World)(H:Hp)(s:Shared)(Q:VK)(E:XK)(r:Result)(s':Shared):Prop:=
 match r with
 | .ok (.ret u)=>CE outer P w H s Q u s'
 | .ok _=>False
 | .error e=>CX outer H s E e s'
structure aR(P:Program)(w:World)(K:W.Frag)(mg:Str->Option Value)(base:Heap)(CX:sf)(k:Nat)(f:Addr)(fd:FuncData)(ps:List Str)(sp:Sp):Prop where
 len:∀vs H Q E,sp vs H Q E->vs.length=ps.length
 run:∀(A:Around)(outer:List Env)(s:Shared)(H:Hp)(args:Args)(us:List Value)(vs:List V)(Q:VK)(E:XK),cK k A->xn P w K mg base A outer s H->BindsTo s fd args (ps.zip us)->Vals vs us->sp vs H Q E->
  codeAny (model P w) A (.call (.ref f) args) (CR CX outer P w H s Q E) s
theorem aR.mono {P:Program}{w:World}{K:W.Frag}{mg:Str->Option Value}{base:Heap}{CX:sf}{j k:Nat}{f:Addr}{fd:FuncData}{ps:List Str}{sp:Sp}(F:aR P w K mg base CX j f fd ps sp)(h:j<=k):
  aR P w K mg base CX k f fd ps sp:=⟨F.len,fun A outer s H args us vs Q E hr=>F.run A outer s H args us vs Q E (hr.mono h)⟩
theorem aR.imp {P:Program}{w:World}{K:W.Frag}{mg:Str->Option Value}{base:Heap}{CX:sf}{k:Nat}{f:Addr}{fd:FuncData}{ps:List Str}{sp sp':Sp}(F:aR P w K mg base CX k f fd ps sp)
  (h:∀vs H Q E,sp' vs H Q E->sp vs H Q E):aR P w K mg base CX k f fd ps sp':=
 ⟨fun vs H Q E q=>F.len vs H Q E (h _ _ _ _ q),fun A outer s H args us vs Q E hr he hb hv hs=>F.run A outer s H args us vs Q E hr he hb hv (h _ _ _ _ hs)⟩
theorem xn.make {P:Program}{w:World}{K:W.Frag}{mg:Str->Option Value}{base:Heap}{A:Around}{outer:List Env}{s:Shared}{H:Hp}(e:xn P w K mg base A outer s H)(C:Addr)(us:List Value)(kw:List (Str×Value)):
  xn P w K mg base (A.under (.builtin "type.__call__" ⟨.ref C::us,kw⟩)) outer s H:=⟨by first|exact e.frames|(simpa [Around.under,Code.envs,Code.isFrame,pushEnvs]using e.frames),e.mod,e.bs,e.Ai,e.iR,e.p9,e.aY,e.bare⟩
section
variable{X:Cx}{pins:List (Addr×Obj)}{σ:St}{H:Hp}{s s':Shared}
theorem Inv.pG (I:Inv X pins σ H s):xn X.prog X.w X.K X.mg X.base X.A X.stack s H:=
 ⟨I.ok.frames,I.ok.mod,I.bs,Nat.le_trans I.ok.Ai I.sz,I.stack,I.qd,I.aY,I.bare⟩
theorem Inv.after {Q:VK}{u:Value}(I:Inv X pins σ H s)(h:CE X.stack X.prog X.w H s Q u s'):EP X pins σ Q u s':=by
 obtain⟨v,H',os,bare,un,aY,r,q⟩:=h
 obtain⟨hh,g,d,t,os'⟩:=s'
 obtain rfl:os'=s.os:=os
 exact⟨v,H',I.call (h':=hh) (g':=g) (d':=d) (t':=t) (ch:=[]) un aY bare (fun b z=>absurd z (by simp)),r,q⟩
end
def rJ(sp:Sp)(dvs:List V)(E:XK)(t:TA):TE:=fun σ H Q=>t σ H fun vs H1=>sp (vs++dvs) H1 Q E
def Hq(C:Addr)(m:Str)(sp:Sp)(dvs:List V)(E:XK)(ta:TE)(t:TA):TE:=fun σ H Q=>ta σ H fun x H1=>∃a dx fs,x= .ref a/\H1 a=some (.ins C dx fs)/\fs.lookup m=none/\
 t σ H1 fun vs H2=>sp (x::(vs++dvs)) H2 Q E
def HZ(C:Addr)(sp:Sp)(dvs:List V)(E:XK)(t:TA):TE:=fun σ H Q=>t σ H fun vs H1=>∀x dx,H1 x=none->H1 dx=none->dx≠x->
 sp (.ref x::(vs++dvs)) (upd (upd H1 dx (.own x)) x (.ins C dx [])) (fun v H2=>v= .cP/\Q (.ref x) H2) E
def Binds(K:W.Frag)(fd:FuncData)(ps:List Str)(ds:List Value):Prop:=
 ∀(s:Shared)(us:List Value),K.In s.heap->(us++ds).length=ps.length->BindsTo s fd ⟨us,[]⟩ (ps.zip (us++ds))
theorem Binds.all {K:W.Frag}{fd:FuncData}{ps:List Str}(h:∀us:List Value,us.length=ps.length->bindArgs fd ⟨us,[]⟩=pure (ps.zip us)):Binds K fd ps []:=fun s us _ hl=>by
 rw[List.append_nil]at hl⊢
 exact .of_eq (h us hl)
def Passes(CX:sf)(X:Cx)(E:XK):Prop:=∀(pins:List (Addr×Obj))(σ:St)(H:Hp)(s:Shared)(e:Value)(s':Shared),Inv X pins σ H s->CX X.stack H s E e s'->X.xe e s'
section
variable{X:Cx}{CX:sf}{k:Nat}{f C:Addr}{fd:FuncData}{ps:List Str}{sp:Sp}{dvs:List V}{ds:List Value}{E:XK}{x m:Str}{p pos apos:Pos}{e o:Expr}{es:List Expr}{ta:TE}{t:TA}
theorem EF{pins:List (Addr×Obj)}{σ:St}{H:Hp}{s:Shared}{Q:VK}{us:List Value}{vs:List V}(F:aR X.prog X.w X.K X.mg X.base CX k f fd ps sp)(hr:cK k X.A)(hb:Binds X.K fd ps ds)(hd:Vals dvs ds)(hx:Passes CX X E)
  (I:Inv X pins σ H s) (r:Vals vs us) (h:sp (vs++dvs) H Q E):wpAny (model X.prog X.w) X.A (call (.ref f) us) (EP X pins σ Q) X.xe s:=by
 have r2:Vals (vs++dvs) (us++ds):=r.append hd
 have hl:(us++ds).length=ps.length:=by rw[←r2.length];exact F.len _ _ _ _ h
 refine wpAny_call (codeAny_mono (F.run X.A X.stack s H ⟨us,[]⟩ (us++ds) (vs++dvs) Q E hr I.pG (hb s us I.kU hl) r2 h) fun r s' hq=>?_)
 cases r with
 |error e=>exact hx pins σ H s e s' I hq
 |ok fl=>
  cases fl with
  |ret u=>exact I.after hq
  |next=>exact False.elim hq
  |brk=>exact False.elim hq
  |cont=>exact False.elim hq
theorem zL(F:aR X.prog X.w X.K X.mg X.base CX k f fd ps sp)(hr:cK k X.A)(hg:Gl X x)(hm:X.mg x=some (.ref f))(hk:W.keepIn X.K (.ref f)=true)(hb:Binds X.K fd ps ds)(hd:Vals dvs ds)(hx:Passes CX X E)
  (ha:PA X (e::es) t) (hdb:(x==("__debug__" :Str))=false:=by decide) (he:starEach (e::es) X.env=(false,eval e X.env)::starEach es X.env:=by rfl) (hpl:(backTo pos (starEach es X.env)).any (·.1)=false:=by rfl):
  PE X (.Call (.Name x p) (e::es) [] pos) (rJ sp dvs E t):=by
 intro pins s σ H Q I h
 refine wpAny_Call_Name_kw (kW I hg hm ?_ hdb)
 refine W.callWith_K (h₀:=X.base) I.ok.mod.ET hk (aW (ha pos pins s σ H _ I h) fun us s1 ⟨vs,H1,I1,r,q⟩=>⟨I1.kU,?_⟩) he hpl
 exact EF F hr hb hd hx I1 r q
theorem Gm{pl:Sem Bool}(he:PE X o ta)(c:Bg X.K C)(hm:Meth X.K C m f)(F:aR X.prog X.w X.K X.mg X.base CX k f fd ps sp)(hr:cK k X.A)(hb:Binds X.K fd ps ds)(hd:Vals dvs ds)(hx:Passes CX X E)(ha:PA X (e::es) t)
  (hst:starEach (e::es) X.env=(false,eval e X.env)::starEach es X.env:=by rfl) (hpl:(backTo pos (starEach es X.env)).any (·.1)=false:=by rfl)
  (ht:eval (.Call (.Attribute o m apos) (e::es) [] pos) X.env=(do
   let ov←eval o X.env
   standAt apos.atName
   let(f,first)←holding [ov] (getMethod ov m pl)
   callWith pos f first (backTo pos (starEach (e::es) X.env)) (backToKw pos (keywordEach [] X.env))):=by rfl):
  PE X (.Call (.Attribute o m apos) (e::es) [] pos) (Hq C m sp dvs E ta t):=by
 intro pins s σ H Q I h
 refine W.methodCall_KW (pl:=pl) (aW (he pins s σ H _ I h) fun u s1 ⟨x,H1,I1,rx,a,dx,fs,ex,ea,l,q⟩=>?_) ht
 subst ex
 obtain rfl:u=Value.ref a:=rx
 refine lU I1 ea c hm l ?_
 refine W.callWith_K (first:=[.ref a]) (h₀:=X.base) I.ok.mod.ET hm.kp (aW (ha pos pins s1 σ H1 _ I1 q) fun us s2 ⟨vs,H2,I2,r,q2⟩=>⟨I2.kU,?_⟩) hst hpl
 exact EF (us:= .ref a::us) (vs:= .ref a::vs) F hr hb hd hx I2 (.cons rfl r) q2
structure Mk(K:W.Frag)(C f:Addr):Prop where
 makes:W.makesIn K C=true
 init:W.findIn K (.ref C) "__init__" =some (some (.ref f))
 fn:W.isFn K (.ref f)=true
 kp:W.keepIn K (.ref C)=true
theorem Dq{pins:List (Addr×Obj)}{σ:St}{H:Hp}{s:Shared}{Q:VK}{us:List Value}{vs:List V}(M:Mk X.K C f)(F:aR X.prog X.w X.K X.mg X.base CX k f fd ps sp)(hr:cK (k+1) X.A)(hb:Binds X.K fd ps ds)(hd:Vals dvs ds)
  (hx:Passes CX X E) (I:Inv X pins σ H s) (r:Vals vs us)
  (h:∀x dx,H x=none->H dx=none->dx≠x->sp (.ref x::(vs++dvs)) (upd (upd H dx (.own x)) x (.ins C dx [])) (fun v H2=>v= .cP/\Q (.ref x) H2) E):
  wpAny (model X.prog X.w) X.A (call (.ref C) us) (EP X pins σ Q) X.xe s:=by
 have hq:=h (s.heap.objs.size+1) s.heap.objs.size (I.aY.fresh (Nat.le_succ _)) (I.aY.fresh (Nat.le_refl _)) (Nat.ne_of_lt (Nat.lt_succ_self _))
 have I2:=Inv.made (C:=C) I
 have r2:Vals (V.ref (s.heap.objs.size+1)::(vs++dvs)) (Value.ref (s.heap.objs.size+1)::(us++ds)):= .cons rfl (r.append hd)
 have hl:(Value.ref (s.heap.objs.size+1)::us++ds).length=ps.length:=by
  have e:=r2.length
  rw[F.len _ _ _ _ hq]at e
  exact e.symm
 refine wpAny_call (DO (f:=f) I.kU M.makes M.init (beq_iff_eq.mp M.fn) (codeAny_mono (F.run _ X.stack _ _ ⟨Value.ref (s.heap.objs.size+1)::us,[]⟩ (Value.ref (s.heap.objs.size+1)::(us++ds)) _ _ E (hr.make C us [])
  (I2.pG.make C us []) (hb _ (Value.ref (s.heap.objs.size+1)::us) I2.kU hl) r2 hq) fun r s' hq'=>?_))
 cases r with
 |error e=>exact hx pins σ _ _ e s' I2 hq'
 |ok fl=>
  cases fl with
  |ret u=>
   obtain⟨v,H',I3,rv,ev,q3⟩:=I2.after hq'
   subst ev
   exact⟨rv,⟨V.ref (s.heap.objs.size+1),H',I3,rfl,q3⟩⟩
  |next=>exact False.elim hq'
  |brk=>exact False.elim hq'
  |cont=>exact False.elim hq'
theorem FE(M:Mk X.K C f)(F:aR X.prog X.w X.K X.mg X.base CX k f fd ps sp)(hr:cK (k+1) X.A)(hg:Gl X x)(hm:X.mg x=some (.ref C))(hb:Binds X.K fd ps ds)(hd:Vals dvs ds)(hx:Passes CX X E)
  (ha:PA X (e::es) t) (hdb:(x==("__debug__" :Str))=false:=by decide) (he:starEach (e::es) X.env=(false,eval e X.env)::starEach es X.env:=by rfl) (hpl:(backTo pos (starEach es X.env)).any (·.1)=false:=by rfl):
  PE X (.Call (.Name x p) (e::es) [] pos) (HZ C sp dvs E t):=by
 intro pins s σ H Q I h
 refine wpAny_Call_Name_kw (kW I hg hm ?_ hdb)
 refine W.callWith_K (h₀:=X.base) I.ok.mod.ET M.kp (aW (ha pos pins s σ H _ I h) fun us s1 ⟨vs,H1,I1,r,q⟩=>⟨I1.kU,?_⟩) he hpl
 exact Dq M F hr hb hd hx I1 r q
end
def PK(X:Cx)(kws:List Keyword)(t:TA):Prop:=
 ∀(pos:Pos)(pins:List (Addr×Obj))(s:Shared)(σ:St)(H:Hp)(Q:List V->Hp->Prop),Inv X pins σ H s->t σ H Q->wpAny (model X.prog X.w) X.A (evalAll ((backToKw pos (keywordEach kws X.env)).map (·.2))) (AP X pins σ Q) X.xe s
section
variable{X:Cx}{CX:sf}{k:Nat}{f C:Addr}{fd:FuncData}{ps ks:List Str}{sp:Sp}{E:XK}{x m:Str}{p pos apos kpos:Pos}{e o:Expr}{es:List Expr}{kws:List Keyword}{te ta:TE}{t tk:TA}{nm:Option Str}
theorem Ja:PK X [] u6:=fun _ _ _ _ H Q I h=>wpAny_evalAll_nil ⟨[],H,I,.nil,h⟩
theorem E7(ha:PE X e te)(hr:PK X kws t):PK X (⟨nm,e,kpos⟩::kws) (kj te t):=by
 intro pos pins s σ H Q I h
 show wpAny _ _ (evalAll ((do let v←eval e X.env;standAt pos;pure v)::(backToKw pos (keywordEach kws X.env)).map (·.2))) _ _ s
 refine wpAny_evalAll_cons (wpAny_bind (aW (ha pins s σ H _ I h) fun u s1 ⟨x,H1,I1,r1,q1⟩=>wpAny_bind (wpAny_standAt (wpAny_pure ?_))))
 exact aW (hr pos pins s1 σ H1 _ I1 q1) fun us s2 ⟨xs,H2,I2,r2,q2⟩=>⟨x::xs,H2,I2,.cons r1 r2,q2⟩
variable{g:List Value->List Value->List Value}{gV:List V->List V->List V}
end
structure az(N P:List Str)(sc:Scope):Prop where
 kind:sc.kind= .function
 co:sc.isCoroutine=false
 gen:sc.isGenerator=false
 nd:N.Nodup
 pre:N.take P.length=P
 par:∀x∈P,sc.names.lookup x=some .local\/sc.names.lookup x=some .cell
 JC:∀y∈sc.names,y.2≠.free
theorem tS{kindOf:Str->Option NameKind}{x:Str}:∀{binds:List (Str×Value)}{m:Str->Option Value},(∀v,(x,v)∉binds)->bindL kindOf binds m x=m x
 |[],_,_=>rfl
 |(n,v)::r,m,h=>by
  unfold bindL
  rw[tS fun w hw=>h w (List.mem_cons_of_mem _ hw)]
  split
  .have:x≠n:=by rintro rfl;exact h v List.mem_cons_self
   simp[this]
  .rfl
theorem tV{kindOf:Str->Option NameKind}{x:Str}:∀{binds:List (Str×Value)}{m:Str->Option Value},(∀v,(x,v)∉binds)->bindC kindOf binds m x=m x
 |[],_,_=>rfl
 |(n,v)::r,m,h=>by
  unfold bindC
  rw[tV fun w hw=>h w (List.mem_cons_of_mem _ hw)]
  split
  .rfl
  .have:x≠n:=by rintro rfl;exact h v List.mem_cons_self
   simp[this]
theorem tm{kindOf:Str->Option NameKind}{x:Str}{v:Value}:∀{P:List Str}{vs:List Value}{i:Nat}{m:Str->Option Value},P.Nodup->P[i]?=some x->vs[i]?=some v->kindOf x=some .local->
  bindL kindOf (P.zip vs) m x=some v
 |[],_,_,_,_,h,_,_=>by simp at h
 |_::_,[],_,_,_,_,h,_=>by simp at h
 |p::P,w::vs,0,m,nd,h1,h2,hk=>by
  simp at h1 h2;subst h1;subst h2
  show bindL kindOf ((p,w)::P.zip vs) m p=_
  unfold bindL
  rw[tS fun v hv=>(List.nodup_cons.mp nd).1 (List.of_mem_zip hv).1,if_pos hk]
  simp
 |p::P,w::vs,i+1,m,nd,h1,h2,hk=>by
  show bindL kindOf ((p,w)::P.zip vs) m x=_
  unfold bindL
  exact tm (i:=i) (List.nodup_cons.mp nd).2 (by simpa using h1) (by simpa using h2) hk
theorem tJ{kindOf:Str->Option NameKind}{x:Str}{v:Value}:∀{P:List Str}{vs:List Value}{i:Nat}{m:Str->Option Value},P.Nodup->P[i]?=some x->vs[i]?=some v->kindOf x≠some .local->
  bindC kindOf (P.zip vs) m x=some v
 |[],_,_,_,_,h,_,_=>by simp at h
 |_::_,[],_,_,_,_,h,_=>by simp at h
 |p::P,w::vs,0,m,nd,h1,h2,hk=>by
  simp at h1 h2;subst h1;subst h2
  show bindC kindOf ((p,w)::P.zip vs) m p=_
  unfold bindC
  rw[tV fun v hv=>(List.nodup_cons.mp nd).1 (List.of_mem_zip hv).1,if_neg hk]
  simp
 |p::P,w::vs,i+1,m,nd,h1,h2,hk=>by
  show bindC kindOf ((p,w)::P.zip vs) m x=_
  unfold bindC
  exact tJ (i:=i) (List.nodup_cons.mp nd).2 (by simpa using h1) (by simpa using h2) hk
def start(N:List Str)(vs:List V):St:=vs.map some++List.replicate (N.length-vs.length) none
def sT(CX:sf)(P:Program)(w:World)(K:W.Frag)(mg:Str->Option Value)(base:Heap)(N:List Str)(qual:Str)(scope:Scope)(f:Addr)(cd:Value)(A:Around)(outer:List Env)(s:Shared)(H:Hp)(E:XK):Cx where
 prog:=P
 w:=w
 K:=K
 mg:=mg
 base:=base
 A:=A.deeper (envOfC qual scope s.heap.objs.size f cd)
 N:=N
 s₀:=s
 H₀:=H
 env:=envOfC qual scope s.heap.objs.size f cd
 outer:=outer
 stack:=envOfC qual scope s.heap.objs.size f cd::outer
 ex:=[]
 calm:=true
 fn:=fun _=>true
 pn:=[]
 xe:=fun e s'=>wpAny (model P w) (A.deeper (envOfC qual scope s.heap.objs.size f cd)) (leaving (envOfC qual scope s.heap.objs.size f cd) e) (fun _ s''=>CX outer H s E e s'') (fun e' s''=>CX outer H s E e' s'') s'
theorem wF{sc:Scope}{n:Nat}{x:Str}(h:sc.names.lookup x=some .cell):∃c,(cellsFrom n sc.names []).lookup x=some c:=by
 have q:=W.cellsFrom_some sc.names n [] (.inl h)
 exact Option.isSome_iff_exists.mp q
theorem ug{CX:sf}{P:Program}{w:World}{K:W.Frag}{mg:Str->Option Value}{base:Heap}{N ps:List Str}{qual:Str}{scope:Scope}{f:Addr}{cd:Value}{A:Around}{outer:List Env}{s s1:Shared}{H:Hp}{E:XK}{us:List Value}{vs:List V}
  (S:az N ps scope) (hd:A.handled=none) (e0:xn P w K mg base A outer s H) (hl:vs.length=ps.length) (r:Vals vs us)
  (x:InCallC s s.heap.objs.size (bindL (envOfC qual scope s.heap.objs.size f cd).kindOf (ps.zip us) fun _=>none) (cellsFrom (s.heap.objs.size+1) scope.names []) (bindC (envOfC qual scope s.heap.objs.size f cd).kindOf (ps.zip us) fun _=>none) s1):
  Inv (sT CX P w K mg base N qual scope f cd A outer s H E) [] (start N vs) H s1:=by
 have hpl:ps.length<=N.length:=by have:=congrArg List.length S.pre;rw[N5]at this;lia
 obtain⟨h1,tk,rfl,hk⟩:=x.done
 have noA:∀b:Addr,b∉(sT CX P w K mg base N qual scope f cd A outer s H E).ex:=fun b z=>absurd (show b∈([]:List Addr)from z) (by simp)
 refine⟨⟨e0.mod,S.kind,rfl,rfl,Nat.le_refl _,fun y z c h1 h2=>?_,fun y hy=>?_,fun y c _ h=>?_,fun _=>hd,Around.frames_deeper e0.frames,.inr ⟨rfl,rfl⟩,fun b z=>absurd z (noA b),e0.bs,e0.Ai,fun b _ _=>noA b,fun b z=>absurd z (noA b),e0.iR,e0.p9⟩,
  rfl,e0.bare,Un.kept hk,⟨_,x.toInCall.ns,fun i y v h1 h2 h3=>?_⟩,fun y c h=>⟨_,x.cell y c h⟩,e0.aY.fresh (Nat.le_refl _),fun y c h=>?_,fun p hp=>absurd (show p∈([]:List (Addr×Obj))from hp) (by simp),e0.aY.kept hk,?_⟩
 .exact name_of_addr x.apart (PySem.mem_of_lookup h1) (PySem.mem_of_lookup h2)
 .have hy:scope.names.lookup y=some .cell\/scope.names.lookup y=some .free:=hy
  rcases hy with hy|hy
  .exact wF hy
  .exact absurd rfl (S.JC _ (PySem.mem_of_lookup hy))
 .exact Nat.le_of_lt (x.above y c (PySem.mem_of_lookup h))
 .have hi:i<vs.length:=by
   unfold start at h2
   by_cases hi:i<vs.length
   .exact hi
   .rw[List.getElem?_append_right (by simpa using hi)]at h2
    rw[List.getElem?_replicate]at h2
    split at h2<;>cases h2
  have ha:vs[i]?=some v:=by
   unfold start at h2
   rw[List.getElem?_append_left (by simpa using hi),NZ]at h2
   cases e:vs[i]? with
   |none=>rw[e]at h2;cases h2
   |some a=>rw[e]at h2;cases h2;rfl
  obtain⟨u,hu,rv⟩:=r.get ha
  have hp:ps[i]?=some y:=by
   rw[←S.pre,List.getElem?_take_of_lt (by lia)];exact h1
  have ndP:ps.Nodup:=by rw[←S.pre];exact S.nd.sublist (List.take_sublist _ _)
  refine⟨u,rv,?_⟩
  rcases S.par y (N9 hp)with k|k
  .exact .inl ⟨k,tm ndP hp hu k⟩
  .obtain⟨c,e⟩:=wF (n:=s.heap.objs.size+1) k
   refine .inr ⟨.inl k,c,e,?_⟩
   have q:=x.cell y c e
   rw[tJ ndP hp hu (by show scope.names.lookup y≠_;rw[k];decide)]at q
   exact q
 .exact e0.aY.fresh (Nat.le_of_lt (x.above y c (PySem.mem_of_lookup h)))
 .unfold start
  show _=N.length
  rw[N0,NY,List.length_replicate]
  lia
theorem Ho{CX:sf}{P:Program}{w:World}{K:W.Frag}{mg:Str->Option Value}{base:Heap}{k:Nat}{f:Addr}{name qual:Str}{params:Arguments}{body:List Stmt}{scope:Scope}{dV kV doc pm cdv ct oc:Value}{an od:Option Addr}
  {osl:Array (Option Value)} {N ps:List Str} {sp:Sp} (lk:K.lookup f=some ⟨oc,od,.func (W.fnOf name qual params body scope dV kV doc pm an cdv ct),osl⟩) (hcd:W.codeIn K cdv qual=true) (S:az N ps scope)
  (len:∀vs H Q E,sp vs H Q E->vs.length=ps.length)
  (hbody:∀(A:Around)(outer:List Env)(s:Shared)(H:Hp)(vs:List V)(Q:VK)(E:XK),cK k (A.deeper (envOfC qual scope s.heap.objs.size f cdv))->sp vs H Q E->
   ∃t,tT (sT CX P w K mg base N qual scope f cdv A outer s H E) body t/\t {nx:=fun _ H'=>Q .cP H',rt:=Q} (start N vs) H):
  aR P w K mg base CX (k+1) f (W.fnOf name qual params body scope dV kV doc pm an cdv ct) ps sp:=by
 refine⟨len,fun A outer s H args us vs Q E hr e0 hb r hsp=>?_⟩
 have hl:=len _ _ _ _ hsp
 have KX:K.In s.heap:=e0.mod.ET.keeps fun b o e=>(e0.bs b o e).1
 have lim:s.heap.NoLimit:=e0.mod.nolimit.keeps fun b o e=>(e0.bs b o e).1
 have hkind:∀y∈ps.zip us,scope.names.lookup y.1=some .local\/(scope.names.lookup y.1=some .cell/\((cellsFrom (s.heap.objs.size+1) scope.names []).lookup y.1).isSome=true):=fun⟨n,v⟩ hy=>by
  rcases S.par n (List.of_mem_zip hy).1 with q|q
  .exact .inl q
  .exact .inr ⟨q,W.cellsFrom_some _ _ _ (.inl q)⟩
 refine codeAny_call_function hr.depth (KX _ _ lk) rfl S.co S.gen rfl (W.codeRec_of KX hcd) (hb _ _ _ _ ?_)
 refine wpAny_newFunctionEnv_cells S.kind hkind fun env he s1 x=>?_
 subst he
 refine⟨lim.keeps x.toInCall.keep,codeAny_func ?_⟩
 obtain⟨t,ht,hq⟩:=hbody A outer s H vs Q E (hr.deeper _) hsp
 have I:Inv (sT CX P w K mg base N qual scope f cdv A outer s H E) [] (start N vs) H s1:=ug S hr.hd e0 hl r x
 refine wpAny_mono (ht [] s1 (start N vs) H _ I hq) (fun fl s' hs=>?_) fun e s' hs=>hs
 have fin:∀{σ':St}{H':Hp}{v:V}{u:Value},Inv (sT CX P w K mg base N qual scope f cdv A outer s H E) [] σ' H' s'->RelV v u->Q v H'->CE outer P w H s Q u s':=
  fun{σ' H' v u} J rv q=>⟨v,H',J.os,J.bare,J.base,J.aY,rv,q⟩
 cases fl with
 |ret u=>
  obtain⟨v,σ',H',J,rv,q⟩:=hs
  exact fin J rv q
 |next=>
  obtain⟨σ',H',J,q⟩:=hs
  exact fin (v:=V.cP) (u:=Value.none) J rfl q
 |brk=>
  obtain⟨_,_,_,q⟩:=hs
  exact False.elim q
 |cont=>
  obtain⟨_,_,_,q⟩:=hs
  exact False.elim q
section
variable{X:Cx}{x:Str}{p pos:Pos}{e:Expr}{es:List Expr}{t:TA}{id T:String}{r:List V->Hp->VK->Prop}
def MH(r:List V->Hp->VK->Prop)(t:TA):TE:=fun σ H Q=>t σ H fun vs H1=>r vs H1 Q
theorem aq(hc:cq X (.builtin id) r)(hg:Gl X x)(hm:X.mg x=none)(hv:bootBuiltins x=some (.builtin id))(ha:PA X (e::es) t)(hn:x≠"__name__" :=by decide)(hdb:(x==("__debug__" :Str))=false:=by decide)
  (he:starEach (e::es) X.env=(false,eval e X.env)::starEach es X.env:=by rfl) (hpl:(backTo pos (starEach es X.env)).any (·.1)=false:=by rfl):PE X (.Call (.Name x p) (e::es) [] pos) (MH r t):=by
 intro pins s σ H Q I h
 refine wpAny_Call_Name_kw (kc I hg hm hv ?_ hn hdb)
 exact PyProof.Rows.callWith_builtin1 (aW (ha pos pins s σ H _ I h) fun us s1 ⟨vs,H1,I1,r1,q1⟩=>hc pins s1 σ H1 vs us Q I1 r1 q1) he hpl
theorem aO(hc:cq X (.type T) r)(hg:Gl X x)(hm:X.mg x=none)(hv:bootBuiltins x=some (.type T))(ha:PA X (e::es) t)(hn:x≠"__name__" :=by decide)(hdb:(x==("__debug__" :Str))=false:=by decide)
  (he:starEach (e::es) X.env=(false,eval e X.env)::starEach es X.env:=by rfl) (hpl:(backTo pos (starEach es X.env)).any (·.1)=false:=by rfl):PE X (.Call (.Name x p) (e::es) [] pos) (MH r t):=by
 intro pins s σ H Q I h
 refine wpAny_Call_Name_kw (kc I hg hm hv ?_ hn hdb)
 exact PyProof.Rows.callWith_type1 (aW (ha pos pins s σ H _ I h) fun us s1 ⟨vs,H1,I1,r1,q1⟩=>hc pins s1 σ H1 vs us Q I1 r1 q1) he hpl
end
end L2
namespace HT
open PySem PyProof.Rows
theorem Em(A:Around)(s:Shared)(a:Int)(t:Tok)(c:Int)(u:Tok)(prog:Program)(w:World)(E:Value->Shared->Prop)(Q:Value->Shared->Prop)(h:Q (.bool (decide (a<c))) s):
  wpAny (model prog w) A (richCompare .Lt (.int a t) (.int c u)) Q E s:=
 (PyProof.Rows.lt_int h:wpAny (model prog w) A (compareOp .Lt (.int a t) (.int c u)) Q E s)
section
variable{prog:Program}{w:World}{A:Around}{E:Value->Shared->Prop}{s:Shared}
def sS(n d:Nat):Option Int->Nat
 |none=>d
 |some v=>if v<0 then(v+(n:Int)).toNat else min v.toNat n
end
end HT
namespace L2
open PySem PySem.Spec PyProof.Rows
abbrev TO:=St->Hp->(Option Int->Hp->Prop)->Prop
def PO(X:Cx)(e:Option Expr)(t:TO):Prop:=
 ∀(pins:List (Addr×Obj))(s:Shared)(σ:St)(H:Hp)(Q:Option Int->Hp->Prop),Inv X pins σ H s->t σ H Q->
  wpAny (model X.prog X.w) X.A (evalPart e X.env) (fun u s'=>∃o H',Inv X pins σ H' s'/\IsPart u o/\Q o H') X.xe s
def m6:TO:=fun _ H Q=>Q none H
def KO(t:TE):TO:=fun σ H Q=>t σ H fun x H1=>∃i,x= .int i/\Q (some i) H1
section
variable{X:Cx}{e:Expr}{te:TE}{lo hi:Option Expr}{tl th:TO}{pos p2:Pos}
theorem iZ:PO X none m6:=by
 intro pins s σ H Q I h
 rw[evalPart_none]
 exact wpAny_pure ⟨none,H,I,.none,h⟩
theorem i8(h:PE X e te):PO X (some e) (KO te):=by
 intro pins s σ H Q I hw
 rw[evalPart_some]
 refine aW (h pins s σ H _ I hw) fun u s1 ⟨x,H1,I1,r1,q1⟩=>?_
 obtain⟨i,rfl,q⟩:=q1
 obtain⟨t,rfl⟩:=r1
 exact⟨some i,H1,I1,.int i t,q⟩
def MI(X:Cx)(r:V->Option Int->Option Int->Hp->VK->Prop):Prop:=
 ∀(pins:List (Addr×Obj))(s:Shared)(σ:St)(H:Hp)(x:V)(v vl vu:Value)(lo hi:Option Int)(sl:Addr)(Q:VK),Inv X pins σ H s->RelV x v->s.heap.IsSliceOf sl vl vu .none->IsPart vl lo->IsPart vu hi->r x lo hi H Q->
  ∃T id,typeLookup (.type T) "__getitem__" =pure (some (.builtin id))/\s.TypeIs v T/\wpAny (model X.prog X.w) X.A (getItem v (.ref sl)) (EP X pins σ Q) X.xe s
def NN(r:V->Option Int->Option Int->Hp->VK->Prop)(te:TE)(tl th:TO):TE:=fun σ H Q=>te σ H fun x H1=>tl σ H1 fun l H2=>th σ H2 fun u H3=>r x l u H3 Q
theorem gG{r:V->Option Int->Option Int->Hp->VK->Prop}(hr:MI X r)(he:PE X e te)(hl:PO X lo tl)(hu:PO X hi th):PE X (.Subscript e (.Slice lo hi none p2) pos) (NN r te tl th):=by
 intro pins s σ H Q I h
 refine Subscript_ (aW (he pins s σ H _ I h) fun v s1 ⟨x,H1,I1,r1,q1⟩=>?_)
 refine wpAny_Slice (aW (hl pins s1 σ H1 _ I1 q1) fun vl s2 ⟨l,H2,I2,pl,q2⟩=>aW (hu pins s2 σ H2 _ I2 q2) fun vu s3 ⟨u,H3,I3,pu,q3⟩=>?_)
 rw[evalPart_none]
 refine wpAny_pure ?_
 have I4:Inv X pins σ H3 {s3 with heap:=s3.heap.push {cls:= .type "slice",data:= .fields #[vl,vu,.none]}}:=I3.kept (t':=s3.toks) fun b ob q=>Heap.get?_push_of_some _ q
 obtain⟨T,id,hT,ht,hg⟩:=hr pins {s3 with heap:=s3.heap.push {cls:= .type "slice",data:= .fields #[vl,vu,.none]}} σ H3 x v vl vu l u s3.heap.objs.size Q I4 r1 (Heap.IsSliceOf.new ..) pl pu q3
 show wpAny (model X.prog X.w) X.A (subscriptTail e (.Slice lo hi none p2) v (.ref s3.heap.objs.size)) (EP X pins σ Q) X.xe {s3 with heap:=s3.heap.push {cls:= .type "slice",data:= .fields #[vl,vu,.none]}}
 exact tail_any (ops:=[.ref s3.heap.objs.size,v]) ht hT hg (by with_unfolding_all rfl)
def ow(xs:List V)(lo hi:Option Int):List V:=(xs.drop (HT.sS xs.length 0 lo)).take (HT.sS xs.length xs.length hi-HT.sS xs.length 0 lo)
theorem xg(xs:List V)(lo hi:Option Int):(ow xs lo hi).length<=xs.length:=by
 unfold ow
 rw[N5,List.length_drop]
 lia
end
def Hu(n:Nat)(i:Int):Option Nat:=if 0<=i then(if i<n then some i.toNat else none)else if-(n:Int)<=i then some (i+n).toNat else none
def rF{α:Type}(xs:List α)(i:Int):Option α:=(Hu xs.length i).bind fun j=>xs[j]?
theorem zO{n:Nat}{i:Int}{j:Nat}(h:Hu n i=some j):seqIndex? i n=some j/\j<n/\-(n:Int)<=i/\i<n:=by
 unfold Hu at h
 by_cases h0:0<=i
 .rw[if_pos h0]at h
  by_cases h1:i<n
  .rw[if_pos h1]at h
   have e:i.toNat=j:=Option.some.inj h
   exact⟨by rw[seqIndex_of h0 h1,e],by lia,by lia,h1⟩
  .rw[if_neg h1]at h;cases h
 .rw[if_neg h0]at h
  by_cases h1: -(n:Int)<=i
  .rw[if_pos h1]at h
   have e:(i+n).toNat=j:=Option.some.inj h
   exact⟨by rw[seqIndex_neg (by lia) h1,e],by lia,h1,by lia⟩
  .rw[if_neg h1]at h;cases h
theorem zT{α:Type}{xs:List α}{i:Int}{v:α}(h:rF xs i=some v):∃j,seqIndex? i xs.length=some j/\xs[j]?=some v/\j<xs.length/\-(xs.length:Int)<=i/\i<xs.length:=by
 unfold rF at h
 cases e:Hu xs.length i with
 |none=>rw[e]at h;cases h
 |some j=>
  rw[e]at h
  obtain⟨h1,h2,h3,h4⟩:=zO e
  exact⟨j,h1,h,h2,h3,h4⟩
theorem aX{α:Type}{xs:List α}{j:Nat}{v:α}(h:xs[j]?=some v):rF xs (j:Int)=some v:=by
 have hj:j<xs.length:=(List.getElem?_eq_some_iff.mp h).1
 have e:Hu xs.length (j:Int)=some j:=by
  unfold Hu
  rw[if_pos (by lia),if_pos (by lia)];simp
 unfold rF;rw[e];exact h
def AG(b:Expr):Prop:=∀o i,subscripted b false o i=operate [o,i] (getItem o i)
def Kl(X:Cx)(r:R2):Prop:=
 ∀(value slice:Expr)(pins:List (Addr×Obj))(s:Shared)(σ:St)(H:Hp)(x y:V)(v u:Value)(Q:VK),Inv X pins σ H s->RelV x v->RelV y u->r x y H Q->
  subscripted slice false v u=operate [v,u] (getItem v u)->wpAny (model X.prog X.w) X.A (subscriptTail value slice v u) (EP X pins σ Q) X.xe s
def Bm(X:Cx)(id:String)(r:V->List V->Hp->VK->Prop):Prop:=
 ∀(pins:List (Addr×Obj))(s:Shared)(σ:St)(H:Hp)(x:V)(xs:List V)(v:Value)(us:List Value)(Q:VK),Inv X pins σ H s->RelV x v->Vals xs us->r x xs H Q->
  wpAny (model X.prog X.w) X.A (call (.builtin id) (v::us)) (EP X pins σ Q) X.xe s
section
variable{X:Cx}{a b:Expr}{ta tb:TE}{pos:Pos}
theorem aQ{r:R2}(hr:Kl X r)(ha:PE X a ta)(hb:PE X b tb)(hs:AG b):PE X (.Subscript a b pos) (zE r ta tb):=by
 intro pins s σ H Q I h
 exact Subscript_ (J3 ha hb I h fun v u s2 x y H2 I2 rx ry q=>hr a b pins s2 σ H2 x y v u Q I2 rx ry q (hs _ _))
def yW(K:W.Frag):R2:=fun x y H Q=>∃p xs i v,x= .ref p/\y= .int i/\aC K H p xs/\rF xs i=some v/\Q v H
def LU(K:W.Frag):R2:=fun x y H Q=>∃p xs i v,x= .ref p/\y= .int i/\e8 K H p xs/\rF xs i=some v/\Q v H
theorem EW:Kl X (yW X.K):=by
 intro value slice pins s σ H x y v u Q I rx ry h hs
 obtain⟨p,xs,i,z,rfl,rfl,hq,he,q⟩:=h
 cases rx
 obtain⟨t,rfl⟩:=ry
 obtain⟨its,r,pl,hz⟩:=I.list hq
 obtain⟨j,h1,h2,h3,h4,h5⟩:=zT he
 obtain⟨w,ew,rw'⟩:=r.get h2
 have hl:=r.length
 have hn:=qf
 have fin:EP X pins σ Q w s:=⟨z,H,I,rw',q⟩
 by_cases h0:0<=i
 .have hj:i.toNat=j:=by
   rw[seqIndex_of h0 h5]at h1
   exact Option.some.inj h1
  exact item_listR pl.isList h0 (by lia) (by rw[hj];simpa using ew) fin hs
 .have hj:(i+(its.toArray.size:Int)).toNat=j:=by
   rw[seqIndex_neg (by lia) h4]at h1
   rw[List.size_toArray,←hl]
   exact Option.some.inj h1
  exact subscriptTail_builtinR (x:=w) pl.isList.typeIs slot_list_getitem.lookup
   (wpAny_getItem_list_neg (Q:=fun r s'=>r=w/\EP X pins σ Q r s') pl.isList (by lia) (by rw[List.size_toArray]<;>lia) (by lia) (by rw[hj];simpa using ew) ⟨rfl,fin⟩) hs
theorem ID:Kl X (LU X.K):=by
 intro value slice pins s σ H x y v u Q I rx ry h hs
 obtain⟨p,xs,i,z,rfl,rfl,hq,he,q⟩:=h
 cases rx
 obtain⟨t,rfl⟩:=ry
 obtain⟨its,r,pl,hz⟩:=I.tuple hq
 obtain⟨j,h1,h2,h3,h4,h5⟩:=zT he
 obtain⟨w,ew,rw'⟩:=r.get h2
 have hl:=r.length
 have hn:=qf
 have fin:EP X pins σ Q w s:=⟨z,H,I,rw',q⟩
 exact subscriptTail_builtinR (x:=w) pl.typeIs slot_tuple_getitem.lookup
  (getItem_tuple (j:=j) (Q:=fun r s'=>r=w/\EP X pins σ Q r s') pl (by lia) (by lia) (by rw[List.size_toArray,←hl];exact h1) (by simpa using ew) ⟨rfl,fin⟩) hs
theorem yg(its:List Value)(n j:Nat)(u:Value):Obj.mapSeq (·.setIfInBounds j u) {cls:= .type "list",data:= .seq its.toArray n}={cls:= .type "list",data:= .seq (its.set j u).toArray n}:=by
 simp[Obj.mapSeq]
theorem Inv.lst {pins:List (Addr×Obj)}{σ:St}{H:Hp}{s:Shared}{p:Addr}{xs:List V}(I:Inv X pins σ H s)(h:H p=some (.lst xs)):
  ∃(its:List Value)(n:Nat),Vals xs its/\s.heap.get? p=some {cls:= .type "list",data:= .seq its.toArray n}/\xs.length<=sizeLine:=by
 obtain⟨z,its,n,r,e⟩:=I.aY p _ h
 exact⟨its,n,r,e,z⟩
theorem Inv.Jy {pins:List (Addr×Obj)}{σ:St}{H:Hp}{s:Shared}{p:Addr}{xs ys:List V}{its its':List Value}{n n':Nat}{f:Obj->Obj}(I:Inv X pins σ H s)(h:H p=some (.lst xs))
  (ho:s.heap.get? p=some {cls:= .type "list",data:= .seq its.toArray n}) (hf:f {cls:= .type "list",data:= .seq its.toArray n}={cls:= .type "list",data:= .seq its'.toArray n'}) (r:Vals ys its') (hz:ys.length<=sizeLine) (t:Nat):
  Inv X pins σ (upd H p (.lst ys)) {s with heap:=s.heap.update p f,toks:=t}:=by
 have e:(s.heap.update p f).get? p=some {cls:= .type "list",data:= .seq its'.toArray n'}:=by
  rw[Heap.get?_update_self f ho (by rw[hf]<;>rfl),hf]
 refine I.write (x:=p) (e:=p) (by rw[h];trivial) (.inl rfl) (fun b u hb q=>(Heap.get?_update_other _ _ (Ne.symm hb)).trans q) ⟨_,e⟩ ?_
 exact⟨hz,its',n',r,e⟩
def Lu:V->V->V->Hp->(Hp->Prop)->Prop:=fun o i v H Q=>∃p xs k j,o= .ref p/\i= .int k/\H p=some (.lst xs)/\Hu xs.length k=some j/\Q (upd H p (.lst (xs.set j v)))
theorem set_list:KI X Lu:=by
 intro pins s σ H o i v ov iv u Q I ro ri rv h
 obtain⟨p,xs,k,j,rfl,rfl,hp,hj,q⟩:=h
 cases ro
 obtain⟨t,rfl⟩:=ri
 obtain⟨its,n,r,ho,hz⟩:=I.lst hp
 obtain⟨h1,h2,h3,h4⟩:=zO hj
 have hl:=r.length
 have hn:=qf
 have I':Inv X pins σ (upd H p (.lst (xs.set j v))) {s with heap:=s.heap.update p (Obj.mapSeq (·.setIfInBounds j u))}:=
  I.Jy hp ho (yg its n j u) (r.set rv j) (by rw[List.length_set];exact hz) s.toks
 by_cases h0:0<=k
 .have hk:k.toNat=j:=by
   rw[seqIndex_of h0 h4]at h1
   exact Option.some.inj h1
  exact W.ki_setAt ho h0 (by lia) (by rw[List.size_toArray,←hl];exact h4) (by rw[hk];exact⟨_,I',q⟩)
 .have hk:(k+(its.toArray.size:Int)).toNat=j:=by
   rw[seqIndex_neg (by lia) h3]at h1
   rw[List.size_toArray,←hl]
   exact Option.some.inj h1
  exact W.ki_setBack ho (by lia) (by rw[List.size_toArray,←hl];exact h3) (by lia) (by rw[hk];exact⟨_,I',q⟩)
theorem uG(lo hi:Option Int)(n:Nat):(sliceBounds lo hi none n).1=((HT.sS n 0 lo:Nat):Int)/\(sliceBounds lo hi none n).2.1=((HT.sS n n hi:Nat):Int)/\(sliceBounds lo hi none n).2.2=1:=by
 refine⟨?_,?_,rfl⟩
 .cases lo with
  |none=>simp[sliceBounds,HT.sS]
  |some i=>
   simp only[sliceBounds,HT.sS,Option.getD_none,show(1:Int)>0 by decide,if_true]
   by_cases h:i<0
   .simp only[h,if_true]<;>lia
   .simp only[h,if_false]<;>lia
 .cases hi with
  |none=>simp[sliceBounds,HT.sS]
  |some i=>
   simp only[sliceBounds,HT.sS,Option.getD_none,show(1:Int)>0 by decide,if_true]
   by_cases h:i<0
   .simp only[h,if_true]<;>lia
   .simp only[h,if_false]<;>lia
theorem sy(its:List Value)(lo hi:Option Int):slicePick its.toArray lo hi none=((its.drop (HT.sS its.length 0 lo)).take (HT.sS its.length its.length hi-HT.sS its.length 0 lo)).toArray:=by
 obtain⟨h1,h2,h3⟩:=uG lo hi its.toArray.size
 unfold slicePick
 rw[h1,h2,h3]
 simp only[sliceRange_one,pick_run,List.size_toArray]<;>rfl
def KP(K:W.Frag):V->Option Int->Option Int->Hp->VK->Prop:=fun x lo hi H Q=>∃a xs,x= .ref a/\aC K H a xs/\∀p,H p=none->Q (.ref p) (upd H p (.lst (ow xs lo hi)))
theorem GH:MI X (KP X.K):=by
 intro pins s σ H x v vl vu lo hi sl Q I rx hs pl pu h
 obtain⟨a,xs,rfl,hx,q⟩:=h
 cases rx
 obtain⟨its,r,ht,hz⟩:=I.list hx
 have hlen:=r.length
 refine⟨"list",_,slot_list_getitem.lookup,ht.isList.typeIs,?_⟩
 refine wpAny_getItem_list_slice ht.isList hs pl pu .none (by simp) ?_ (by rw[List.size_toArray]<;>lia)
 rw[sy,←hlen]
 refine⟨.ref s.heap.objs.size,_,I.laid (t':=s.toks) (o:= .lst (ow xs lo hi)) (fun b ob q=>Heap.get?_push_of_some _ q) (Nat.le_refl _) ?_,rfl,q _ (I.aY.fresh (Nat.le_refl _))⟩
 exact⟨Nat.le_trans (xg xs lo hi) hz,_,0,(r.drop (HT.sS xs.length 0 lo)).take (HT.sS xs.length xs.length hi-HT.sS xs.length 0 lo),Heap.get?_push_size _ rfl⟩
def mR:V->Bool
 | .cP=>true
 | .bl _=>true
 | .int _=>true
 | .str _=>true
 |_=>false
def Cc:V->V->Bool
 | .cP,.cP=>true
 | .bl a,.bl b=>a==b
 | .bl a,.int b=>(if a then 1 else 0)==b
 | .int a,.bl b=>a==(if b then 1 else 0)
 | .int a,.int b=>a==b
 | .str a,.str b=>a==b
 |_,_=>false
theorem JS{A:Around}{s:Shared}{y x:V}{u v:Value}(ry:RelV y u)(rx:RelV x v)(fy:mR y=true)(fx:mR x=true):SeqAt.EqAt A s u v (Cc y x):=by
 cases y with
 |cP=>
  cases ry
  cases x with
  |cP=>cases rx;exact SeqAt.EqAt.same _
  |bl b=>cases rx;exact SeqAt.EqAt.none_bool b
  |int b=>obtain⟨t,rfl⟩:=rx;exact SeqAt.EqAt.none_int b t
  |str b=>obtain⟨t,rfl⟩:=rx;exact SeqAt.EqAt.none_str b t
  |_=>exact absurd (show false=true from fx) Bool.false_ne_true
 |bl a=>
  cases ry
  cases x with
  |cP=>cases rx;exact SeqAt.EqAt.bool_none a
  |bl b=>cases rx;exact SeqAt.EqAt.bool_bool a b
  |int b=>obtain⟨t,rfl⟩:=rx;exact SeqAt.EqAt.bool_int a b t
  |str b=>obtain⟨t,rfl⟩:=rx;exact SeqAt.EqAt.bool_str a b t
  |_=>exact absurd (show false=true from fx) Bool.false_ne_true
 |int a=>
  obtain⟨t',rfl⟩:=ry
  cases x with
  |cP=>cases rx;exact SeqAt.EqAt.int_none a t'
  |bl b=>cases rx;exact SeqAt.EqAt.int_bool a t' b
  |int b=>obtain⟨t,rfl⟩:=rx;exact SeqAt.EqAt.int_int a t' b t
  |str b=>obtain⟨t,rfl⟩:=rx;exact SeqAt.EqAt.int_str a t' b t
  |_=>exact absurd (show false=true from fx) Bool.false_ne_true
 |str a=>
  obtain⟨t',rfl⟩:=ry
  cases x with
  |cP=>cases rx;exact SeqAt.EqAt.str_none a t'
  |bl b=>cases rx;exact SeqAt.EqAt.str_bool a t' b
  |int b=>obtain⟨t,rfl⟩:=rx;exact SeqAt.EqAt.str_int a t' b t
  |str b=>obtain⟨t,rfl⟩:=rx;exact SeqAt.EqAt.str_str a t' b t
  |_=>exact absurd (show false=true from fx) Bool.false_ne_true
 |_=>exact absurd (show false=true from fy) Bool.false_ne_true
def yQ(x:V)(u:Value):Bool:=match u with
 | .none=>Cc .cP x
 | .bool b=>Cc (.bl b) x
 | .int i _=>Cc (.int i) x
 | .str z _=>Cc (.str z) x
 |_=>false
theorem DD{x y:V}{u:Value}(r:RelV y u)(f:mR y=true):yQ x u=Cc y x:=by
 cases y with
 |cP=>cases r;rfl
 |bl b=>cases r;rfl
 |int i=>obtain⟨t,rfl⟩:=r;rfl
 |str z=>obtain⟨t,rfl⟩:=r;rfl
 |_=>exact absurd (show false=true from f) Bool.false_ne_true
theorem mS{x:V}:∀{xs:List V}{us:List Value},Vals xs us->xs.all mR=true->us.any (yQ x)=xs.any fun y=>Cc y x
 |_,_,.nil,_=>rfl
 |y::xs,u::us,.cons r t,f=>by
  rw[List.all_cons,Bool.and_eq_true]at f
  rw[List.any_cons,List.any_cons,DD r f.1,mS t f.2]
theorem j3{A:Around}{s:Shared}{x:V}{v:Value}(rx:RelV x v)(fx:mR x=true):∀{xs:List V}{us:List Value},Vals xs us->xs.all mR=true->∀u∈us,SeqAt.EqAt A s u v (yQ x u)
 |_,_,.nil,_=>fun u hu=>by cases hu
 |y::xs,u::us,.cons r t,f=>fun u' hu=>by
  rw[List.all_cons,Bool.and_eq_true]at f
  rcases List.mem_cons.mp hu with rfl|hu
  .rw[DD r f.1];exact JS r rx f.1 fx
  .exact j3 rx fx t f.2 u' hu
def Kj(x:V)(xs:List V):Bool:=xs.any fun y=>Cc y x
def Mg(K:W.Frag)(neg:Bool):R2:=fun x y H Q=>∃p xs,y= .ref p/\(aC K H p xs\/e8 K H p xs)/\mR x=true/\xs.all mR=true/\Q (.bl (if neg then !Kj x xs else Kj x xs)) H
theorem Bu:lg X (compareOp .In) (Mg X.K false):=by
 intro pins s σ H x y v u Q I rx ry h
 obtain⟨p,xs,rfl,hq,fx,fs,q⟩:=h
 cases ry
 rcases hq with hq|hq
 .obtain⟨its,r,pl,hz⟩:=I.list hq
  refine SeqAt.in_listAt (yQ x) pl.isList (fun w hw=>j3 rx fx r fs w (by simpa using hw)) ⟨.bl _,H,I,rfl,?_⟩
  rw[show its.toArray.any (yQ x)=its.any (yQ x) by simp,mS r fs]
  exact q
 .obtain⟨its,r,pl,hz⟩:=I.tuple hq
  refine SeqAt.in_tupleAt (yQ x) pl (fun w hw=>j3 rx fx r fs w (by simpa using hw)) ⟨.bl _,H,I,rfl,?_⟩
  rw[show its.toArray.any (yQ x)=its.any (yQ x) by simp,mS r fs]
  exact q
theorem ux:lg X (compareOp .NotIn) (Mg X.K true):=by
 intro pins s σ H x y v u Q I rx ry h
 obtain⟨p,xs,rfl,hq,fx,fs,q⟩:=h
 cases ry
 rcases hq with hq|hq
 .obtain⟨its,r,pl,hz⟩:=I.list hq
  refine SeqAt.notIn_listAt (yQ x) pl.isList (fun w hw=>j3 rx fx r fs w (by simpa using hw)) ⟨.bl _,H,I,rfl,?_⟩
  rw[show its.toArray.any (yQ x)=its.any (yQ x) by simp,mS r fs]
  exact q
 .obtain⟨its,r,pl,hz⟩:=I.tuple hq
  refine SeqAt.notIn_tupleAt (yQ x) pl (fun w hw=>j3 rx fx r fs w (by simpa using hw)) ⟨.bl _,H,I,rfl,?_⟩
  rw[show its.toArray.any (yQ x)=its.any (yQ x) by simp,mS r fs]
  exact q
theorem uK:cq X (.builtin "len") (fun xs H Q=>∃p ys,xs=[.ref p]/\(aC X.K H p ys\/e8 X.K H p ys)/\Q (.int ys.length) H):=by
 intro pins s σ H xs us Q I r h
 obtain⟨p,ys,rfl,hq,q⟩:=h
 obtain⟨u,rfl,rx⟩:=vals1 r
 cases rx
 have hn:=qf
 rcases hq with hq|hq
 .obtain⟨its,r',pl,hz⟩:=I.list hq
  have hlen:=r'.length
  exact Calls.call_len_list pl.isList (by simp only[List.size_toArray]<;>lia) ⟨.int ys.length,H,I.tok _,⟨s.toks+1,by rw[List.size_toArray,hlen]⟩,q⟩
 .obtain⟨its,r',pl,hz⟩:=I.tuple hq
  have hlen:=r'.length
  exact len_tuple pl (by simp only[List.size_toArray]<;>lia) ⟨.int ys.length,H,I.tok _,⟨s.toks+1,by rw[List.size_toArray,hlen]⟩,q⟩
theorem jg:cq X (.builtin "len") (fun xs H Q=>∃z,xs=[.str z]/\z.length<=sizeLine/\Q (.int z.length) H):=by
 intro pins s σ H xs us Q I r h
 obtain⟨z,rfl,hz,q⟩:=h
 obtain⟨u,rfl,t,rfl⟩:=vals1 r
 have hn:=qf
 exact len_str (by lia) ⟨.int z.length,H,I.tok _,⟨_,rfl⟩,q⟩
theorem uz:cq X (.type "list") (fun xs H Q=>∃p ys,xs=[.ref p]/\(aC X.K H p ys\/e8 X.K H p ys)/\∀l,H l=none->Q (.ref l) (upd H l (.lst ys))):=by
 intro pins s σ H xs us Q I r h
 obtain⟨p,ys,rfl,hq,q⟩:=h
 obtain⟨u,rfl,rx⟩:=vals1 r
 cases rx
 have fin:∀(its:List Value),Vals ys its->ys.length<=sizeLine->∀(h':Heap)(c':Nat),(∀b o',s.heap.get? b=some o'->h'.get? b=some o')->
   h'.get? s.heap.objs.size=some {cls:= .type "list",dict:=none,data:= .seq its.toArray c',slots:= #[]}->EP X pins σ Q (.ref s.heap.objs.size) {s with heap:=h'}:=fun its r' hz h' c' kp e=>
  ⟨.ref s.heap.objs.size,_,I.laid (t':=s.toks) kp (Nat.le_refl _) (show bN X.prog X.w _ h' _ (.lst ys)from⟨hz,its,c',r',e⟩),rfl,q _ (I.aY.fresh (Nat.le_refl _))⟩
 rcases hq with hq|hq
 .obtain⟨its,r',pl,hz⟩:=I.list hq
  have hlen:=r'.length
  obtain⟨o,ho,hc,n,hd⟩:=pl.isList
  exact call_list_seq p (.inl rfl) ho hc hd (fun h' c' kp e=>fin its r' hz h' c' kp e) (by simp only[List.size_toArray]<;>lia)
 .obtain⟨its,r',pl,hz⟩:=I.tuple hq
  have hlen:=r'.length
  obtain⟨o,ho,hc,n,hd⟩:=pl
  exact call_list_seq p (.inr rfl) ho hc hd (fun h' c' kp e=>fin its r' hz h' c' kp e) (by simp only[List.size_toArray]<;>lia)
theorem sL:cq X (.type "tuple") (fun xs H Q=>∃p ys,xs=[.ref p]/\((aC X.K H p ys/\∀l,H l=none->Q (.ref l) (upd H l (.tup ys)))\/(e8 X.K H p ys/\Q (.ref p) H))):=by
 intro pins s σ H xs us Q I r h
 obtain⟨p,ys,rfl,h⟩:=h
 obtain⟨u,rfl,rx⟩:=vals1 r
 cases rx
 rcases h with⟨hq,q⟩|⟨hq,q⟩
 .obtain⟨its,r',pl,hz⟩:=I.list hq
  have hlen:=r'.length
  refine call_tuple_list pl.isList (fun h' kp=>?_) (by simp only[List.size_toArray]<;>lia)
  have I1:Inv X pins σ H {s with heap:=h'}:=I.kept (t':=s.toks) kp
  have I2:Inv X pins σ (upd H h'.objs.size (.tup ys)) {s with heap:=h'.push {cls:= .type "tuple",data:= .seq its.toArray}}:=
   I1.laid (t':=s.toks) (fun b o e=>Heap.get?_push_of_some _ e) (Nat.le_refl _) (show bN X.prog X.w _ _ _ (.tup ys)from⟨hz,its,r',IsTup.new _ _⟩)
  exact⟨.ref h'.objs.size,_,I2,rfl,q _ (I1.aY.fresh (Nat.le_refl _))⟩
 .obtain⟨its,r',pl,hz⟩:=I.tuple hq
  exact call_tuple_same pl ⟨.ref p,H,I,rfl,q⟩
def M6(K:W.Frag)(T:String)(x:V)(H:Hp):Prop:=match x with
 | .str _=>T= "str"
 | .int _=>T= "int"
 | .ref p=>(T= "list"/\∃xs,aC K H p xs)\/(T= "tuple"/\((∃o,K.lookup p=some o/\o.cls= .type "tuple"/\o.dict=none)\/∃o xs,H p=some (.w4 o (.tup xs))/\o.cls= .type "tuple"/\o.dict=none))\/
   (T= "dict"/\((∃kvs,H p=some (.dK kvs))\/∃kvs,H p=some (.dT kvs)))\/(T= "set"/\∃S n,H p=some (.set S n))
 |_=>False
theorem yV{pins:List (Addr×Obj)}{σ:St}{H:Hp}{s:Shared}{T:String}{x:V}{v:Value}(I:Inv X pins σ H s)(r:RelV x v)(ty:M6 X.K T x H):
  s.TypeIs v T/\∀a,v= .ref a->∃ob,s.heap.get? a=some ob/\ob.dict=none:=by
 cases x with
 |str z=>
  obtain⟨t,rfl⟩:=r
  cases(show T= "str"from ty)
  exact⟨typeIs_str s z t,fun _ e=>nomatch e⟩
 |int i=>
  obtain⟨t,rfl⟩:=r
  cases(show T= "int"from ty)
  exact⟨typeIs_int s i t,fun _ e=>nomatch e⟩
 |ref p=>
  cases r
  rcases ty with⟨rfl,xs,hq⟩|⟨rfl,⟨o,hk,hc,hd⟩|⟨o,xs,hk,hc,hd⟩⟩|⟨rfl,hk⟩|⟨rfl,S,n,hk⟩
  .obtain⟨its,_,pl,_⟩:=I.list hq
   refine⟨pl.isList.typeIs,fun a e=>?_⟩
   cases e
   obtain⟨o,n,e,c,hd,_⟩:=pl
   exact⟨o,e,hd⟩
  .refine⟨⟨o,I.kU p o hk,hc⟩,fun a e=>?_⟩
   cases e
   exact⟨o,I.kU _ o hk,hd⟩
  .obtain⟨e,_⟩:=(show bN X.prog X.w H s.heap p (.w4 o (.tup xs))from I.aY p _ hk)
   exact⟨⟨o,e,hc⟩,fun a z=>by cases z;exact⟨o,e,hd⟩⟩
  .have z:∃o,s.heap.get? p=some o/\o.ExactDict:=by
    rcases hk with⟨kvs,hk⟩|⟨kvs,hk⟩
    .obtain⟨_,_,_,_,o,_,_,e,ex,_⟩:=I.aY p _ hk
     exact⟨o,e,ex⟩
    .obtain⟨_,_,_,_,o,_,_,e,ex,_⟩:=I.aY p _ hk
     exact⟨o,e,ex⟩
   obtain⟨o,e,ex⟩:=z
   refine⟨⟨o,e,ex.1⟩,fun a e2=>?_⟩
   cases e2
   exact⟨o,e,ex.2.1⟩
  .obtain⟨o,_,_,_,e,ex,_⟩:=I.aY p _ hk
   refine⟨⟨o,e,ex.1⟩,fun a e2=>?_⟩
   cases e2
   exact⟨o,e,ex.2.1⟩
 |_=>exact False.elim ty
def Lg(K:W.Frag)(T:String)(r:V->List V->Hp->VK->Prop)(to:TE):TE:=fun σ H Q=>to σ H fun x H1=>M6 K T x H1/\r x [] H1 Q
def Nk(K:W.Frag)(T:String)(r:V->List V->Hp->VK->Prop)(to:TE)(t:TA):TE:=fun σ H Q=>to σ H fun x H1=>M6 K T x H1/\t σ H1 fun xs H2=>r x xs H2 Q
variable{o e:Expr}{es:List Expr}{to:TE}{t:TA}{name:Str}{apos cpos:Pos}{T id:String}{r:V->List V->Hp->VK->Prop}
theorem Jr(pa:PlainAttrs T)(slot:Slot T name id)(hty:typeOf (.builtin id)=pure (.type "method_descriptor"))(hm:Bm X id r)(ho:PE X o to)
  (hbase:attributeBase o name X.env (eval o X.env)=eval o X.env:=by rfl) (hline:(apos.endLine==cpos.line)=true:=by rfl):PE X (.Call (.Attribute o name apos) [] [] cpos) (Lg X.K T r to):=by
 intro pins s σ H Q I h
 refine wpAny_Call_method0_late hbase hline (aW (ho pins s σ H _ I h) fun v s1 ⟨x,H1,I1,r1,ty,q1⟩=>?_)
 obtain⟨h1,h2⟩:=yV I1 r1 ty
 exact⟨T,id,pa,slot,hty,h1,h2,Calls.callWith_builtin rfl (PySem.evalArgs_none (hm pins s1 σ H1 x [] v [] Q I1 r1 .nil q1))⟩
theorem KZ(pa:PlainAttrs T)(slot:Slot T name id)(hty:typeOf (.builtin id)=pure (.type "method_descriptor"))(hm:Bm X id r)(ho:PE X o to)(ha:PA X (e::es) t)
  (hbase:attributeBase o name X.env (eval o X.env)=eval o X.env:=by rfl)
  (hfew:((backTo cpos (starEach (e::es) X.env)).all (fun x=> !x.1)&&(backToKw cpos (keywordEach [] X.env)).all (fun x=>x.1.isSome)
   &&decide ((e::es).length+([]:List Keyword).length+(if([]:List Keyword).isEmpty then 0 else 1)<30))=true:=by rfl)
  (hline:(apos.endLine==cpos.line)=true:=by rfl) (hs:starEach (e::es) X.env=(false,eval e X.env)::starEach es X.env:=by rfl) (hplain:(backTo cpos (starEach es X.env)).any (·.1)=false:=by rfl):
  PE X (.Call (.Attribute o name apos) (e::es) [] cpos) (Nk X.K T r to t):=by
 intro pins s σ H Q I h
 refine wpAny_Call_method_late hbase hfew hline rfl (aW (ho pins s σ H _ I h) fun v s1 ⟨x,H1,I1,r1,ty,q1⟩=>?_)
 obtain⟨h1,h2⟩:=yV I1 r1 ty
 refine⟨T,id,pa,slot,hty,h1,h2,?_⟩
 have hA:=ha cpos pins s1 σ H1 _ I1 q1
 rw[hs]at hA⊢
 refine Calls.callWith_builtin (by show(false||(backTo cpos (starEach es X.env)).any (·.1))=false;rw[hplain]<;>rfl) (Calls.evalArgs_plain ?_)
 exact aW hA fun us s2 ⟨vs,H2,I2,r2,q2⟩=>hm pins s2 σ H2 x vs v us Q I2 r1 r2 q2
end
def Nv(X:Cx)(id:String)(r:V->List V->Hp->VK->Prop):Prop:=
 ∀(pins:List (Addr×Obj))(s:Shared)(σ:St)(H:Hp)(x:V)(xs:List V)(v:Value)(us:List Value)(Q:VK),Inv X pins σ H s->RelV x v->Vals xs us->r x xs H Q->
  wpAny (model X.prog X.w) X.A (call (.builtin id) (v::us)) (EP X pins σ Q) X.xe s
theorem Vals.one:∀{x:V}{us:List Value},Vals [x] us->∃u,us=[u]/\RelV x u
 |_,_,.cons r .nil=>⟨_,rfl,r⟩
theorem Vals.dropLast {xs:List V}{us:List Value}(h:Vals xs us):Vals xs.dropLast us.dropLast:=by
 induction h with
 |nil=>exact .nil
 |cons r t ih=>
  cases t with
  |nil=>exact .nil
  |cons q t'=>exact .cons r ih
theorem Vals.eraseIdx:∀{xs:List V}{us:List Value}(i:Nat),Vals xs us->Vals (xs.eraseIdx i) (us.eraseIdx i)
 |_,_,_,.nil=> .nil
 |_,_,0,.cons _ t=>t
 |_,_,i+1,.cons r t=> .cons r (Vals.eraseIdx i t)
theorem Vals.reverse {xs:List V}{us:List Value}(h:Vals xs us):Vals xs.reverse us.reverse:=by
 induction h with
 |nil=>exact .nil
 |cons r t ih=>rw[List.reverse_cons,List.reverse_cons];exact Vals.append ih (.cons r .nil)
theorem Vals.rep {xs:List V}{us:List Value}(h:Vals xs us):∀k:Nat,Vals (List.replicate k xs).flatten (List.replicate k us).flatten
 |0=> .nil
 |k+1=>by
  rw[List.replicate_succ,List.replicate_succ,List.flatten_cons,List.flatten_cons]
  exact Vals.append h (Vals.rep h k)
theorem Iq{α:Type}(l:List α):l.eraseIdx (l.length-1)=l.dropLast:=by
 induction l with
 |nil=>rfl
 |cons a r ih=>
  cases r with
  |nil=>rfl
  |cons b r=>
   have e:(a::b::r).length-1=((b::r).length-1)+1:=by
    have h1:(a::b::r).length=r.length+2:=rfl
    have h2:(b::r).length=r.length+1:=rfl
    lia
   rw[e,List.eraseIdx_cons_succ,ih]
   all_goals rfl
theorem BG{α:Type}:∀(l:List α)(i:Nat),(l.eraseIdx i).length<=l.length
 |[],_=>Nat.le_refl _
 |_::_,0=>Nat.le_succ _
 |_::r,i+1=>Nat.succ_le_succ (BG r i)
theorem foldl_rep(its:List Value):∀(k:Nat)(acc:List Value),
  List.foldl (fun x1 x2=>x1++x2) acc.toArray (List.replicate k its.toArray)=(acc++(List.replicate k its).flatten).toArray
 |0,acc=>by simp
 |k+1,acc=>by
  have e:acc.toArray++its.toArray=(acc++its).toArray:=by simp
  have e2:(acc++its)++(List.replicate k its).flatten=acc++(List.replicate (k+1) its).flatten:=by
   rw[List.replicate_succ,List.flatten_cons,List.append_assoc]
  rw[←e2,←foldl_rep its k (acc++its),←e,List.replicate_succ,List.foldl_cons]
section
variable{X:Cx}{pins:List (Addr×Obj)}{σ:St}{H:Hp}{s:Shared}{l b:Addr}{xs ys zs:List V}
theorem Inv.Ju {its its':List Value}{n:Nat}{f:Array Value->Array Value}{t':Nat}(I:Inv X pins σ H s)(hH:H l=some (.lst xs))
  (e:s.heap.get? l=some {cls:= .type "list",data:= .seq its.toArray n}) (hf:f its.toArray=its'.toArray) (hv:Vals ys its') (hz:ys.length<=sizeLine):
  Inv X pins σ (upd H l (.lst ys)) {s with heap:=s.heap.update l (Obj.mapSeq f),toks:=t'}:=by
 have q:=PySem.IsL.update e f
 rw[hf]at q
 refine I.write (x:=l) (e:=l) (by rw[hH];exact trivial) (.inl rfl) (fun b' u hb hu=>(Heap.get?_update_other s.heap (Obj.mapSeq f) (Ne.symm hb)).trans hu) ⟨_,q⟩ ?_
 exact⟨hz,its',_,hv,q⟩
theorem Inv.LK {its:List Value}{t':Nat}(I:Inv X pins σ H s)(hv:Vals ys its)(hz:ys.length<=sizeLine):
  Inv X pins σ (upd H s.heap.objs.size (.lst ys)) {s with heap:=s.heap.push {cls:= .type "list",data:= .seq its.toArray},toks:=t'}:=
 I.laid (fun _ _ q=>Heap.get?_push_of_some _ q) (Nat.le_refl _) ⟨hz,its,0,hv,Heap.get?_push_size _ rfl⟩
theorem Inv.fresh (I:Inv X pins σ H s):H s.heap.objs.size=none:=I.aY.fresh (Nat.le_refl _)
theorem Inv.sr (I:Inv X pins σ H s)(hH:H l=some (.lst xs)):xs.length<=sizeLine/\∃(its:List Value)(n:Nat),Vals xs its/\xs.length=its.length/\s.heap.get? l=some {cls:= .type "list",data:= .seq its.toArray n}:=by
 obtain⟨z,its,n,r,e⟩:=I.aY l _ hH
 exact⟨z,its,n,r,r.length,e⟩
theorem xG{n:Nat}(h:n<=sizeLine):Builtin.List.listTooLong n=false:=by
 unfold Builtin.List.listTooLong
 exact decide_eq_false (by lia)
end
section
variable{X:Cx}
def FD:V->List V->Hp->VK->Prop:=fun x vs H Q=>∃l xs y,x= .ref l/\vs=[y]/\H l=some (.lst xs)/\xs.length<sizeLine/\Q .cP (upd H l (.lst (xs++[y])))
theorem cz:Nv X "list.append" FD:=by
 intro pins s σ H x vs v us Q I rx rv h
 obtain⟨l,xs,y,rfl,rfl,hH,hz,q⟩:=h
 cases rx
 obtain⟨u,rfl,ru⟩:=rv.one
 obtain⟨z,its,n,r,hl,e⟩:=I.sr hH
 refine call_meets F.slot_list_append ⟨_,e,rfl⟩ F.entry_list_append (F.args_list_append_2 _ _) (PySem.list_append l its.toArray n u (by rw[List.size_toArray];lia)) ⟨e,?_⟩
 refine⟨.cP,_,I.Ju (its':=its++[u]) hH e (by simp) (r.append (.cons ru .nil)) ?_,rfl,q⟩
 rw[N0,List.length_singleton]
 lia
def Gy:V->List V->Hp->VK->Prop:=fun x vs H Q=>∃l b xs zs,x= .ref l/\vs=[.ref b]/\H l=some (.lst xs)/\H b=some (.lst zs)/\xs.length+zs.length<=sizeLine/\Q .cP (upd H l (.lst (xs++zs)))
theorem Km:Nv X "list.extend" Gy:=by
 intro pins s σ H x vs v us Q I rx rv h
 obtain⟨l,b,xs,zs,rfl,rfl,hH,hB,hz,q⟩:=h
 cases rx
 obtain⟨u,rfl,ru⟩:=rv.one
 cases ru
 obtain⟨z,its,n,r,hl,e⟩:=I.sr hH
 obtain⟨z2,its2,n2,r2,hl2,e2⟩:=I.sr hB
 have hsz:its.toArray.size+its2.toArray.size<=sizeLine:=by rw[List.size_toArray,List.size_toArray];lia
 have hlong:¬(!its.toArray.isEmpty&&Builtin.List.listTooLong (its.toArray.size+its2.toArray.size))=true:=by
  rw[xG hsz,Bool.and_false]
  exact Bool.false_ne_true
 refine call_meets F.slot_list_extend ⟨_,e,rfl⟩ F.entry_list_extend (F.args_list_extend_2 _ _)
  (AutoSeq1.list_extend_list_list_0 l its.toArray n b its2.toArray n2 hlong (by rw[List.size_toArray];lia) (by lia)) ⟨e,e2,?_⟩
 refine⟨.cP,_,I.Ju (its':=its++its2) hH e (by simp) (r.append r2) ?_,rfl,q⟩
 rw[N0]
 lia
def Mw:R2:=fun x y H Q=>∃l b xs zs,x= .ref l/\y= .ref b/\H l=some (.lst xs)/\H b=some (.lst zs)/\xs.length+zs.length<=sizeLine/\∀p,H p=none->Q (.ref p) (upd H p (.lst (xs++zs)))
theorem gP:lg X (binaryOp .Add) Mw:=by
 intro pins s σ H x y v u Q I rx ry h
 obtain⟨l,b,xs,zs,rfl,rfl,hH,hB,hz,q⟩:=h
 cases rx
 cases ry
 obtain⟨z,its,n,r,hl,e⟩:=I.sr hH
 obtain⟨z2,its2,n2,r2,hl2,e2⟩:=I.sr hB
 refine PySem.P.add_list e e2 ?_ (by rw[List.size_toArray,List.size_toArray];lia)
 have ea:its.toArray++its2.toArray=(its++its2).toArray:=by simp
 rw[ea]
 exact⟨.ref _,_,I.LK (t':=s.toks) (r.append r2) (by rw[N0];lia),rfl,q _ I.fresh⟩
def Mt:R2:=fun x y H Q=>∃l k xs,x= .ref l/\y= .int k/\H l=some (.lst xs)/\-(2^63)<=k/\k<2^63/\xs.length*k.toNat<=sizeLine/\
 ∀p,H p=none->Q (.ref p) (upd H p (.lst (List.replicate k.toNat xs).flatten))
theorem len_rep{α:Type}(xs:List α)(k:Nat):(List.replicate k xs).flatten.length=k*xs.length:=by
 induction k with
 |zero=>simp
 |succ k ih=>rw[List.replicate_succ,List.flatten_cons,N0,ih,Nat.succ_mul,Nat.add_comm]
theorem Jm:lg X (binaryOp .Mult) Mt:=by
 intro pins s σ H x y v u Q I rx ry h
 obtain⟨l,k,xs,rfl,rfl,hH,h1,h2,hz,q⟩:=h
 cases rx
 obtain⟨t,rfl⟩:=ry
 obtain⟨z,its,n,r,hl,e⟩:=I.sr hH
 have hlen:its.toArray.size*k.toNat<=sizeLine:=by rw[List.size_toArray,←hl];exact hz
 have hcap:¬its.toArray.size*k.toNat>(2^63-1)/8:=by
  have:(sizeLine:Nat)<=(2^63-1)/8:=by decide
  lia
 have hfit:¬(!Builtin.List.listFitsIndex k)=true:=by
  rw[fitsIndex_both h1 h2]
  exact Bool.false_ne_true
 have hlong:¬Builtin.List.listTooLong (its.toArray.size*k.toNat)=true:=by
  rw[xG hlen]
  exact Bool.false_ne_true
 have hnew:List.foldl (fun x1 x2=>x1++x2) #[] (List.replicate (if its.toArray.isEmpty=true then 0 else k.toNat) its.toArray)=(List.replicate k.toNat its).flatten.toArray:=by
  have f0:∀m:Nat,List.foldl (fun x1 x2=>x1++x2) #[] (List.replicate m its.toArray)=(List.replicate m its).flatten.toArray:=fun m=>by
   have:=foldl_rep its m []
   rw[List.nil_append]at this
   exact this
  rw[f0]
  cases its with
  |nil=>simp
  |cons a r'=>rw[if_neg (by simp)]
 refine wpAny_binaryOp_repeat_ref (T:= "list") (U:= "int") (by decide) ⟨_,e,rfl⟩ (fun s'=>typeIs_int s' k t) noFill_list_mul F.fills_int_mul F.slot_int_rmul repeat_list F.slot_int_index.lookup
  (call_meets F.slot_int_rmul (typeIs_int s k t) F.entry_int_rmul (F.args_int_rmul_2 _ _) (int___rmul___int_list k t l its.toArray n)
   ⟨e,rfl,⟨_,e,rfl⟩,call_meets F.slot_list_mul ⟨_,e,rfl⟩ F.entry_list_mul (F.args_list_mul_2 _ _) (AutoListH.list___mul___list_int_3 l its.toArray n k t hfit hcap hlong) ⟨e,?_⟩⟩)
 rw[hnew]
 exact⟨.ref _,_,I.LK (t':=s.toks) (r.rep k.toNat) (by rw[len_rep,Nat.mul_comm];exact hz),rfl,q _ I.fresh⟩
end
section
variable{κ:Type}[DecidableEq κ]
def bZ(kvs:List (κ×V))(k:κ):Option V:=(kvs.find? fun kv=>decide (kv.1=k)).map (·.2)
def putK(kvs:List (κ×V))(k:κ)(v:V):List (κ×V):=
 if(kvs.any fun kv=>decide (kv.1=k))=true then kvs.map (fun kv=>if kv.1=k then(kv.1,v)else kv)else kvs++[(k,v)]
def mZ(kvs:List (κ×V))(k:κ):List (κ×V):=kvs.filter fun kv=>decide (kv.1≠k)
theorem Dc{k:κ}:bZ ([]:List (κ×V)) k=none:=rfl
theorem cE{p:κ×V}{r:List (κ×V)}{k:κ}(e:p.1=k):bZ (p::r) k=some p.2:=by simp[bZ,List.find?_cons,e]
theorem cj{p:κ×V}{r:List (κ×V)}{k:κ}(e:¬p.1=k):bZ (p::r) k=bZ r k:=by simp[bZ,List.find?_cons,e]
theorem jV(k:κ):∀kvs:List (κ×V),(kvs.any fun kv=>decide (kv.1=k))=(bZ kvs k).isSome
 |[]=>rfl
 |p::r=>by
  rw[List.any_cons]
  by_cases e:p.1=k
  .simp only[cE e,decide_eq_true e,Bool.true_or,Option.isSome_some]
  .rw[cj e,decide_eq_false e,Bool.false_or];exact jV k r
theorem vY(k j:κ)(y:V):∀kvs:List (κ×V),bZ (kvs.map fun kv=>if kv.1=k then(kv.1,y)else kv) j=(bZ kvs j).map fun x=>if j=k then y else x
 |[]=>rfl
 |p::r=>by
  have ih:=vY k j y r
  rw[N4]
  by_cases h:p.1=k
  .rw[if_pos h]
   by_cases e:p.1=j
   .rw[cE (p:=(p.1,y)) e,cE e,Option.map_some,if_pos (e.symm.trans h)]
   .rw[cj (p:=(p.1,y)) e,cj e,ih]
  .rw[if_neg h]
   by_cases e:p.1=j
   .rw[cE (p:=p) e,cE e,Option.map_some,if_neg (fun z=>h (e.trans z))]
   .rw[cj (p:=p) e,cj e,ih]
theorem tY(k j:κ)(y:V):∀kvs:List (κ×V),bZ kvs k=none->bZ (kvs++[(k,y)]) j=if j=k then some y else bZ kvs j
 |[],_=>by
  by_cases e:k=j
  .rw[if_pos e.symm];exact cE (p:=(k,y)) e
  .rw[if_neg (fun z=>e z.symm)];exact cj (p:=(k,y)) e
 |p::r,hn=>by
  rw[List.cons_append]
  have hk:¬p.1=k:=fun z=>by rw[cE z]at hn;cases hn
  rw[cj hk]at hn
  have ih:=tY k j y r hn
  by_cases e:p.1=j
  .rw[cE e,cE e,if_neg (fun z=>hk (e.trans z))]
  .rw[cj e,cj e,ih]
theorem qO(kvs:List (κ×V))(k j:κ)(y:V):bZ (putK kvs k y) j=if j=k then some y else bZ kvs j:=by
 unfold putK
 by_cases a:(kvs.any fun kv=>decide (kv.1=k))=true
 .rw[if_pos a,vY]
  rw[jV]at a
  by_cases e:j=k
  .obtain⟨x,hx⟩:=Option.isSome_iff_exists.mp a
   rw[if_pos e,e,hx,Option.map_some,if_pos rfl]
  .rw[if_neg e]
   cases bZ kvs j with
   |none=>rfl
   |some x=>rw[Option.map_some,if_neg e]
 .rw[if_neg a]
  refine tY k j y kvs ?_
  rw[jV]at a
  cases q:bZ kvs k with
  |none=>rfl
  |some x=>rw[q]at a;exact(a rfl).elim
theorem ig(kvs:List (κ×V))(k:κ)(v:V):(putK kvs k v).length<=kvs.length+1:=by
 unfold putK
 split
 .rw[NY];lia
 .rw[N0,N3,List.length_nil];lia
theorem jc.cV {o:Option V}{u:Option Value}(r:jc o u):o.isSome=u.isSome:=by
 cases o with
 |none=>cases u with
  |none=>rfl
  |some _=>exact(show False from r).elim
 |some _=>cases u with
  |none=>exact(show False from r).elim
  |some _=>rfl
theorem jc.getD {o:Option V}{u:Option Value}{d:V}{d':Value}(r:jc o u)(rd:RelV d d'):RelV (o.getD d) (u.getD d'):=by
 cases o with
 |none=>cases u with
  |none=>exact rd
  |some _=>exact(show False from r).elim
 |some _=>cases u with
  |none=>exact(show False from r).elim
  |some _=>exact r
theorem KV.val {kvs:List (κ×V)}{vs:List (κ×Value)}(r:KV kvs vs)(k:κ):jc (bZ kvs k) (valueAt vs k):=by
 unfold KV at r
 induction r with
 |nil=>exact True.intro
 | @cons p q ps qs h t ih=>
  obtain⟨h1,h2⟩:=h
  by_cases e:p.1=k
  .have e':q.1=k:=h1.symm.trans e
   have b:valueAt (q::qs) k=some q.2:=by simp[valueAt,List.find?_cons,e']
   rw[cE e,b];exact h2
  .have e':¬q.1=k:=fun z=>e (h1.trans z)
   have b:valueAt (q::qs) k=valueAt qs k:=by simp[valueAt,List.find?_cons,e']
   rw[cj e,b];exact ih
theorem KV.any {kvs:List (κ×V)}{vs:List (κ×Value)}(r:KV kvs vs)(k:κ):(kvs.any fun kv=>decide (kv.1=k))=vs.any fun kv=>decide (kv.1=k):=by
 unfold KV at r
 induction r with
 |nil=>rfl
 |cons h t ih=>rw[List.any_cons,List.any_cons,ih,h.1]
theorem KV.IV {kvs:List (κ×V)}{vs:List (κ×Value)}(r:KV kvs vs)(k:κ){y:V}{u:Value}(ry:RelV y u):
  KV (kvs.map fun kv=>if kv.1=k then(kv.1,y)else kv) (vs.map fun kv=>if kv.1=k then(kv.1,u)else kv):=by
 unfold KV at r⊢
 induction r with
 |nil=>exact .nil
 | @cons p q ps qs h t ih=>
  rw[N4,N4]
  refine .cons ?_ ih
  obtain⟨h1,h2⟩:=h
  by_cases e:p.1=k
  .rw[if_pos e,if_pos (h1.symm.trans e)];exact⟨h1,ry⟩
  .rw[if_neg e,if_neg (fun z=>e (h1.trans z))];exact⟨h1,h2⟩
theorem KV.put {kvs:List (κ×V)}{vs:List (κ×Value)}(r:KV kvs vs)(k:κ){y:V}{u:Value}(ry:RelV y u):KV (putK kvs k y) (stored vs k u):=by
 unfold putK stored
 rw[r.any k]
 by_cases e:(vs.any fun kv=>decide (kv.1=k))=true
 .rw[if_pos e,if_pos e];exact r.IV k ry
 .rw[if_neg e,if_neg e];exact Paired.snoc r ⟨rfl,ry⟩
theorem KV.drop {kvs:List (κ×V)}{vs:List (κ×Value)}(r:KV kvs vs)(k:κ):KV (mZ kvs k) (without vs k):=by
 unfold KV at r⊢
 unfold mZ without
 induction r with
 |nil=>exact .nil
 | @cons p q ps qs h t ih=>
  obtain⟨h1,h2⟩:=h
  rw[List.filter_cons,List.filter_cons]
  by_cases e:p.1=k
  .have a:¬decide (p.1≠k)=true:=by simp[e]
   have b:¬decide (q.1≠k)=true:=by simp[h1.symm.trans e]
   rw[if_neg a,if_neg b];exact ih
  .have e':¬q.1=k:=fun z=>e (h1.trans z)
   have a:decide (p.1≠k)=true:=by simp[e]
   have b:decide (q.1≠k)=true:=by simp[e']
   rw[if_pos a,if_pos b];exact .cons ⟨h1,h2⟩ ih
theorem KV.keys {kvs:List (κ×V)}{vs:List (κ×Value)}(r:KV kvs vs):kvs.map (·.1)=vs.map (·.1):=by
 unfold KV at r
 induction r with
 |nil=>rfl
 |cons h t ih=>rw[N4,N4,ih,h.1]
theorem KV.length {kvs:List (κ×V)}{vs:List (κ×Value)}(r:KV kvs vs):kvs.length=vs.length:=Paired.length r
theorem Dp(kvs:List (κ×V))(k:κ):(mZ kvs k).length<=kvs.length:=List.length_filter_le _ _
end
theorem iC{P:Program}{w:World}{k:Key}{u:Value}(r:RelV (kV k) u):(aV P w).is k u=true:=by
 cases k with
 |inl i=>obtain⟨t,e⟩:=(show∃t,u=Value.int i t from r);subst e;exact wW P w i t
 |inr x=>obtain⟨t,e⟩:=(show∃t,u=Value.str x t from r);subst e;exact wJ P w x t
theorem t9{P:Program}{w:World}:∀{ks:List Key}{us:List Value},Vals (ks.map kV) us->ItemsAre (aV P w) ks us
 |[],_,r=>by rw[List.map_nil]at r;cases r;exact .nil
 |k::ks,_,r=>by
  rw[N4]at r
  cases r with
  |cons h t=>exact .cons (iC h) (t9 t)
abbrev KT(H:Hp):List (List Key×V)->List (List Key×Addr×Value)->Prop:=Paired fun p q=>p.1=q.1/\H q.2.1=some (.tup (p.1.map kV))/\RelV p.2 q.2.2
theorem KT.val {H:Hp}{kvs:List (List Key×V)}{xs:List (List Key×Addr×Value)}(r:KT H kvs xs)(k:List Key):jc (bZ kvs k) ((atKey xs k).map (·.2)):=by
 induction r with
 |nil=>exact True.intro
 | @cons p q ps qs h t ih=>
  obtain⟨h1,_,h2⟩:=h
  by_cases e:p.1=k
  .have e':q.1=k:=h1.symm.trans e
   have b:atKey (q::qs) k=some q.2:=by simp[atKey,List.find?_cons,e']
   rw[cE e,b];exact h2
  .have e':¬q.1=k:=fun z=>e (h1.trans z)
   have b:atKey (q::qs) k=atKey qs k:=by simp[atKey,List.find?_cons,e']
   rw[cj e,b];exact ih
theorem KT.IV {H:Hp}{kvs:List (List Key×V)}{xs:List (List Key×Addr×Value)}(r:KT H kvs xs)(k:List Key){y:V}{u:Value}(ry:RelV y u):
  KT H (kvs.map fun kv=>if kv.1=k then(kv.1,y)else kv) (xs.map (putAt k u)):=by
 induction r with
 |nil=>exact .nil
 | @cons p q ps qs h t ih=>
  rw[N4,N4]
  refine .cons ?_ ih
  obtain⟨h1,h2,h3⟩:=h
  unfold putAt
  by_cases e:p.1=k
  .rw[if_pos e,if_pos (h1.symm.trans e)];exact⟨h1,h2,ry⟩
  .rw[if_neg e,if_neg (fun z=>e (h1.trans z))];exact⟨h1,h2,h3⟩
theorem KT.put {H:Hp}{kvs:List (List Key×V)}{xs:List (List Key×Addr×Value)}(r:KT H kvs xs)(k:List Key){b:Addr}{y:V}{u:Value}(hb:H b=some (.tup (k.map kV)))(ry:RelV y u):
  KT H (putK kvs k y) (storedH xs k b u):=by
 have e:(kvs.any fun kv=>decide (kv.1=k))=(atKey xs k).isSome:=by
  rw[jV,(r.val k).cV,Option.isSome_map]
 unfold putK storedH
 rw[e]
 by_cases q:(atKey xs k).isSome=true
 .rw[if_pos q,if_pos q];exact r.IV k ry
 .rw[if_neg q,if_neg q];exact Paired.snoc r ⟨rfl,hb,ry⟩
theorem KT.keeps {H H':Hp}{kvs:List (List Key×V)}{xs:List (List Key×Addr×Value)}(r:KT H kvs xs)(ht:∀b ys,H b=some (.tup ys)->H' b=some (.tup ys)):KT H' kvs xs:=
 Paired.yn r fun _ _ z=>⟨z.1,ht _ _ z.2.1,z.2.2⟩
section
variable{P:Program}{w:World}{H:Hp}{h:Heap}{a:Addr}
theorem Hm{u:HO}(ok:lz P w H h)(e:Rd H a u):bN P w H h a u:=e.ok ok
theorem rN{kvs:List (Key×V)}(ok:lz P w H h)(e:Rd H a (.dK kvs)):kvs.length<=sizeLine/\(a==sysModules)=false/\∃vs,KV kvs vs/\h.DictOf (aV P w) a vs:=
 show bN P w H h a (.dK kvs)from Hm ok e
theorem tO{kvs:List (Key×V)}(ok:lz P w H h)(e:H a=some (.dK kvs)):kvs.length<=sizeLine/\(a==sysModules)=false/\∃vs,KV kvs vs/\h.DictOf (aV P w) a vs:=rN ok (.inl e)
theorem n5{ks:List Key}(ok:lz P w H h)(e:H a=some (.tup (ks.map kV))):(tupleKind (aV P w)).is h ks a:=by
 obtain⟨_,its,r,o,h1,h2,n,h3⟩:=(show bN P w H h a (.tup (ks.map kV))from ok a _ e)
 exact⟨o,its.toArray,n,h1,h2,h3,by simpa using t9 r⟩
theorem qY{kvs:List (List Key×V)}(ok:lz P w H h)(e:Rd H a (.dT kvs)):kvs.length<=sizeLine/\(a==sysModules)=false/\
  ∃xs,KT H kvs xs/\h.DictOfH (tupleKind (aV P w)) a xs:=by
 obtain⟨z,y,xs,r,o,es,ep,h1,h2,h3,h4,h5⟩:=(show bN P w H h a (.dT kvs)from Hm ok e)
 refine⟨z,y,xs,r,o,es,ep,h1,h2,h3,h4,fun x hx=>?_,h5⟩
 have all:∀{l:List (List Key×V)}{m:List (List Key×Addr×Value)},KT H l m->∀x∈m,(tupleKind (aV P w)).is h x.1 x.2.1:=by
  intro l m q
  induction q with
  |nil=>intro x hx;exact nomatch hx
  | @cons p q ps qs hq t ih=>
   intro x hx
   rcases List.mem_cons.mp hx with e|hx
   .subst e
    exact n5 ok (by rw[←hq.1];exact hq.2.1)
   .exact ih x hx
 exact all r x hx
theorem LC{kvs:List (List Key×V)}(ok:lz P w H h)(e:H a=some (.dT kvs)):kvs.length<=sizeLine/\(a==sysModules)=false/\
  ∃xs,KT H kvs xs/\h.DictOfH (tupleKind (aV P w)) a xs:=qY ok (.inl e)
end
def c8(H:Hp)(a:Addr)(y:V)(r:Option V):Prop:=
 (∃kvs k,Rd H a (.dK kvs)/\y=kV k/\r=bZ kvs k)\/∃kvs k b,Rd H a (.dT kvs)/\y= .ref b/\H b=some (.tup (k.map kV))/\r=bZ kvs k
def yM(H:Hp)(a:Addr)(y v:V)(H':Hp):Prop:=
 (∃kvs k,H a=some (.dK kvs)/\y=kV k/\kvs.length<sizeLine/\H'=upd H a (.dK (putK kvs k v)))\/
 ∃kvs k b,H a=some (.dT kvs)/\y= .ref b/\H b=some (.tup (k.map kV))/\kvs.length<sizeLine/\H'=upd H a (.dT (putK kvs k v))
theorem c8.k {H:Hp}{a:Addr}{kvs:List (Key×V)}{k:Key}(e:H a=some (.dK kvs)):c8 H a (kV k) (bZ kvs k):= .inl ⟨kvs,k,.inl e,rfl,rfl⟩
theorem yM.k {H:Hp}{a:Addr}{kvs:List (Key×V)}{k:Key}{v:V}(e:H a=some (.dK kvs))(hl:kvs.length<sizeLine):yM H a (kV k) v (upd H a (.dK (putK kvs k v))):= .inl ⟨kvs,k,e,rfl,hl,rfl⟩
section
variable{X:Cx}{pins:List (Addr×Obj)}{σ:St}{H:Hp}{s:Shared}{a:Addr}{y v:V}{u r:Value}{o:Option V}{A:Around}{E:Value->Shared->Prop}
theorem Inv.big (I:Inv X pins σ H s):sysModules<s.heap.objs.size:=by
 have h:mainGlobals<s.heap.objs.size:=(I.mod.glob.keeps I.bk).lt
 exact Nat.lt_trans (by decide) h
theorem A5{Q:Value->Shared->Prop}(hu:A.units+1<cLine)(I:Inv X pins σ H s)(g:c8 H a y (some v))(ry:RelV y u)(h:∀w' s',Inv X pins σ H s'->RelV v w'->Q w' s'):
  wpAny (model X.prog X.w) A (getItem (.ref a) u) Q E s:=by
 rcases g with⟨kvs,k,e,ey,l⟩|⟨kvs,k,b,e,ey,eb,l⟩
 .subst ey
  obtain⟨z,hd,vs,rel,dd⟩:=rN I.aY e
  obtain⟨w',hw,rw'⟩:=jc.some_of (v:=v) (o:=valueAt vs k) (by rw[l];exact rel.val k)
  exact wpAny_getItem_of (iC ry) dd.mapOf hw (h w' _ (I.tok _) rw')
 .subst ey
  cases(show u=Value.ref b from ry)
  obtain⟨z,hd,xs,rel,dd⟩:=qY I.aY e
  obtain⟨w',hw,rw'⟩:=jc.some_of (v:=v) (o:=(atKey xs k).map (·.2)) (by rw[l];exact rel.val k)
  obtain⟨p,hp,hp2⟩:=Option.map_eq_some_iff.mp hw
  refine wpAny_getItem_heap (tupleKind_room_in1 hu) (n5 I.aY eb) dd hp ?_
  rw[hp2]
  exact h w' _ (I.tok _) rw'
theorem MT{Q:Value->Shared->Prop}(hu:A.units+1<cLine)(I:Inv X pins σ H s)(g:c8 H a y o)(ry:RelV y u)(h:∀s',Inv X pins σ H s'->Q (.bool o.isSome) s'):
  wpAny (model X.prog X.w) A (compareOp .In u (.ref a)) Q E s:=by
 rcases g with⟨kvs,k,e,ey,l⟩|⟨kvs,k,b,e,ey,eb,l⟩
 .subst ey
  obtain⟨z,hd,vs,rel,dd⟩:=rN I.aY e
  refine wpAny_in_of (iC ry) hd dd.mapOf ?_
  rw[←(rel.val k).cV,←l]
  exact h _ (I.tok _)
 .subst ey
  cases(show u=Value.ref b from ry)
  obtain⟨z,hd,xs,rel,dd⟩:=qY I.aY e
  refine wpAny_in_heap (tupleKind_room_in1 hu) (n5 I.aY eb) hd dd ?_
  have q:=(rel.val k).cV
  rw[Option.isSome_map]at q
  rw[←q,←l]
  exact h _ (I.tok _)
theorem Gv{Q:Value->Shared->Prop}(hu:A.units+1<cLine)(I:Inv X pins σ H s)(g:c8 H a y o)(ry:RelV y u)(h:∀s',Inv X pins σ H s'->Q (.bool (!o.isSome)) s'):
  wpAny (model X.prog X.w) A (compareOp .NotIn u (.ref a)) Q E s:=by
 rcases g with⟨kvs,k,e,ey,l⟩|⟨kvs,k,b,e,ey,eb,l⟩
 .subst ey
  obtain⟨z,hd,vs,rel,dd⟩:=rN I.aY e
  refine wpAny_notIn_of (iC ry) hd dd.mapOf ?_
  rw[←(rel.val k).cV,←l]
  exact h _ (I.tok _)
 .subst ey
  cases(show u=Value.ref b from ry)
  obtain⟨z,hd,xs,rel,dd⟩:=qY I.aY e
  refine wpAny_notIn_heap (tupleKind_room_in1 hu) (n5 I.aY eb) hd dd ?_
  have q:=(rel.val k).cV
  rw[Option.isSome_map]at q
  rw[←q,←l]
  exact h _ (I.tok _)
theorem mM{h':Heap}{t':Nat}{ob:HO}(I:Inv X pins σ H s)(mu:Li (H a))(hs:Heap.SameBut a s.heap h')(he:∃q,h'.get? a=some q)(new:bN X.prog X.w (upd H a ob) h' a ob):
  Inv X pins σ (upd H a ob) {s with heap:=h',toks:=t'}:=
 I.write (x:=a) (e:=a) mu (.inl rfl) (fun b q hb z=>(hs.2 b hb).trans z) he new
theorem uF{P:Program}{w:World}{H':Hp}{h':Heap}{kvs:List (Key×V)}{vs:List (Key×Value)}(z:kvs.length<=sizeLine)(hd:(a==sysModules)=false)(rel:KV kvs vs)(dd:h'.DictOf (aV P w) a vs):
  bN P w H' h' a (.dK kvs):=⟨z,hd,vs,rel,dd⟩
theorem BM{H':Hp}{Q:Unit->Shared->Prop}(hu:A.units+1<cLine)(I:Inv X pins σ H s)(g:yM H a y v H')(ry:RelV y u)(rv:RelV v r)(h:∀s',Inv X pins σ H' s'->Q () s'):
  wpAny (model X.prog X.w) A (setItem (.ref a) u r) Q E s:=by
 rcases g with⟨kvs,k,e,ey,l,eH⟩|⟨kvs,k,b,e,ey,eb,l,eH⟩
 .subst ey eH
  obtain⟨z,hd,vs,rel,dd⟩:=tO I.aY e
  have hz:vs.length<=sizeLine:=by rw[←rel.length];exact z
  have hl:(putK kvs k v).length<=sizeLine:=by have:=ig kvs k v;lia
  refine wpAny_setItem_pairs (hsz:=hz) (iC ry) dd fun h' dd' hs=>h _ ?_
  have he:∃q,h'.get? a=some q:=let⟨q,_,_,hq,_⟩:=dd';⟨q,hq⟩
  exact mM I (by rw[e];exact True.intro) hs he (uF hl hd (rel.put k rv) dd')
 .subst ey eH
  cases(show u=Value.ref b from ry)
  obtain⟨z,hd,xs,rel,dd⟩:=LC I.aY e
  have hz:xs.length<=sizeLine:=by rw[←Paired.length rel];exact z
  have hl:(putK kvs k v).length<=sizeLine:=by have:=ig kvs k v;lia
  refine wpAny_setItem_heap (hsz:=hz) (tupleKind_room_in1 hu) (n5 I.aY eb) dd fun h' dd' hs=>h _ ?_
  obtain⟨q,es,ep,hq,h2,h3,h4,_,h5⟩:=dd'
  refine mM I (by rw[e];exact True.intro) hs ⟨q,hq⟩ ⟨hl,hd,_,(rel.put k eb rv).keeps fun c ys ec=>?_,q,es,ep,hq,h2,h3,h4,h5⟩
  rw[ao (zS ec e (fun z=>nomatch z))]
  exact ec
end
section
variable{X:Cx}{pins:List (Addr×Obj)}{σ:St}{H:Hp}{s:Shared}{a:Addr}{kvs:List (Key×V)}{k:Key}{u:Value}{A:Around}{E:Value->Shared->Prop}
theorem Bt{Q:Unit->Shared->Prop}(I:Inv X pins σ H s)(e:H a=some (.dK kvs))(ry:RelV (kV k) u)(l:(bZ kvs k).isSome=true)(h:∀s',Inv X pins σ (upd H a (.dK (mZ kvs k))) s'->Q () s'):
  wpAny (model X.prog X.w) A (delItem (.ref a) u) Q E s:=by
 obtain⟨z,hd,vs,rel,dd⟩:=tO I.aY e
 refine wpAny_delItem_slot dd.typeIs (by decide) PySem.F.slot_dict_delitem
  (call_meetsIn PySem.F.slot_dict_delitem dd.typeIs PySem.F.entry_dict_delitem (PySem.F.args_dict_delitem_2 _ _) (meets_dict_delitem_pairs (aV X.prog X.w) a (iC ry)) ⟨vs,dd,by rw[←rel.length];exact z,by rw[←(rel.val k).cV];exact l,fun h' dd' hs=>h _ ?_⟩)
 have he:∃q,h'.get? a=some q:=let⟨q,_,_,hq,_⟩:=dd';⟨q,hq⟩
 exact mM I (by rw[e];exact True.intro) hs he (uF (Nat.le_trans (Dp kvs k) z) hd (rel.drop k) dd')
end
def Je(i:Expr):Prop:=∀ov iv,subscripted i false ov iv=operate [ov,iv] (getItem ov iv)
theorem AE{prog:Program}{w:World}{A:Around}{E:Value->Shared->Prop}{s:Shared}{env:Env}{value slice:Expr}{pos:Pos}{T id:String}{Q:Value->Shared->Prop}
  (hl:typeLookup (.type T) "__getitem__" =pure (some (.builtin id))) (hs:Je slice)
  (h:wpAny (model prog w) A (eval value env) (fun o s₁=>wpAny (model prog w) A (eval slice env) (fun i s₂=>s₂.TypeIs o T/\wpAny (model prog w) A (getItem o i) Q E s₂) E s₁) E s):
  wpAny (model prog w) A (eval (.Subscript value slice pos) env) Q E s:=by
 refine Subscript_ (wpAny_mono h (fun o s₁ h₁=>wpAny_mono h₁ (fun i s₂ h₂=>?_) fun _ _ x=>x) fun _ _ x=>x)
 obtain⟨hT,h₂⟩:=h₂
 unfold subscriptTail
 refine wpAny_bind ?_
 rw[getitemInPython_of_ne hT.not_modules]
 refine wpAny_bind (wpAny_specialOf hT hl ?_)
 have fin:wpAny (model prog w) A (subscripted slice false o i) (fun r s₃=>wpAny (model prog w) A (letTemporaryGo value o r>>=fun _=>pure r) Q E s₃) E s₂:=by
  rw[hs o i]
  exact wpAny_operating (wpAny_mono h₂ (fun r s₃ h₃=>wpAny_bind (wpAny_letTemporaryGo (wpAny_pure h₃))) fun _ _ x=>x)
 first
  |exact wpAny_pure (wpAny_bind fin)
  |exact wpAny_bind (wpAny_pure (wpAny_bind fin))
  |exact wpAny_bind fin
theorem wH{X:Cx}{pins:List (Addr×Obj)}{σ:St}{H:Hp}{s:Shared}{a:Addr}{y:V}{o:Option V}(I:Inv X pins σ H s)(g:c8 H a y o):s.TypeIs (.ref a) "dict" :=by
 rcases g with⟨kvs,k,e,_,_⟩|⟨kvs,k,b,e,_,_,_⟩
 .obtain⟨_,_,vs,_,dd⟩:=rN I.aY e
  exact dd.typeIs
 .obtain⟨_,_,xs,_,dd⟩:=qY I.aY e
  exact dd.typeIs
def HH(td ty:TE):TE:=fun σ H Q=>td σ H fun x H1=>ty σ H1 fun y H2=>∃a v,x= .ref a/\c8 H2 a y (some v)/\Q v H2
def MQ(ty td:TE):TE:=fun σ H Q=>ty σ H fun y H1=>td σ H1 fun x H2=>∃a o,x= .ref a/\c8 H2 a y o/\Q (.bl o.isSome) H2
def E8(ty td:TE):TE:=fun σ H Q=>ty σ H fun y H1=>td σ H1 fun x H2=>∃a o,x= .ref a/\c8 H2 a y o/\Q (.bl (!o.isSome)) H2
def HN(td ty tv:TE):TS:=fun D σ H=>tv σ H fun v H1=>td σ H1 fun x H2=>ty σ H2 fun y H3=>∃a H4,x= .ref a/\yM H3 a y v H4/\D.nx σ H4
def K9(td ty:TE):TS:=fun D σ H=>td σ H fun x H1=>ty σ H1 fun y H2=>∃a kvs k,x= .ref a/\H2 a=some (.dK kvs)/\y=kV k/\(bZ kvs k).isSome=true/\D.nx σ (upd H2 a (.dK (mZ kvs k)))
section
variable{X:Cx}{o i e value:Expr}{pos pos' tpos:Pos}{td ty tv:TE}
theorem mW(hu:X.A.units+1<cLine)(ho:PE X o td)(hi:PE X i ty)(hs:Je i):PE X (.Subscript o i pos) (HH td ty):=by
 intro pins s σ H Q I h
 refine AE PySem.F.slot_dict_getitem.lookup hs (aW (ho pins s σ H _ I h) fun u s1 ⟨x,H1,I1,rx,q1⟩=>aW (hi pins s1 σ H1 _ I1 q1) fun iv s2 ⟨y,H2,I2,ry,a,v,ex,g,q2⟩=>?_)
 subst ex
 obtain rfl:u=Value.ref a:=rx
 exact⟨wH I2 g,A5 hu I2 g ry fun w' s3 I3 rw'=>⟨v,H2,I3,rw',q2⟩⟩
theorem IY(hu:X.A.units+1<cLine)(hi:PE X i ty)(ho:PE X o td):PC X .In i o (MQ ty td):=by
 intro pins s σ H Q I h
 refine aW (hi pins s σ H _ I h) fun iv s1 ⟨y,H1,I1,ry,q1⟩=>aW (ho pins s1 σ H1 _ I1 q1) fun u s2 ⟨x,H2,I2,rx,a,ov,ex,g,q2⟩=>?_
 subst ex
 obtain rfl:u=Value.ref a:=rx
 exact MT hu I2 g ry fun s3 I3=>⟨.bl ov.isSome,H2,I3,rfl,q2⟩
theorem BN(hu:X.A.units+1<cLine)(hi:PE X i ty)(ho:PE X o td):PC X .NotIn i o (E8 ty td):=by
 intro pins s σ H Q I h
 refine aW (hi pins s σ H _ I h) fun iv s1 ⟨y,H1,I1,ry,q1⟩=>aW (ho pins s1 σ H1 _ I1 q1) fun u s2 ⟨x,H2,I2,rx,a,ov,ex,g,q2⟩=>?_
 subst ex
 obtain rfl:u=Value.ref a:=rx
 exact Gv hu I2 g ry fun s3 I3=>⟨.bl (!ov.isSome),H2,I3,rfl,q2⟩
theorem uJ(hu:X.A.units+1<cLine)(ho:PE X o td)(hi:PE X i ty)(hv:PE X value tv)(hs:swapsWith value (some (.Subscript o i pos')) pos.line X.env=pure false):
  PS X (.Assign [.Subscript o i pos'] value pos) (HN td ty tv):=by
 intro pins s σ H D I h
 refine wpAny_Assign_Subscript (aW (hv pins s σ H _ I h) fun r s1 ⟨v,H1,I1,rv,q1⟩=>aW (ho pins s1 σ H1 _ I1 q1) fun u s2 ⟨x,H2,I2,rx,q2⟩=>aW (hi pins s2 σ H2 _ I2 q2) fun iv s3 ⟨y,H3,I3,ry,a,H4,ex,g,q3⟩=>?_) hs
 subst ex
 obtain rfl:u=Value.ref a:=rx
 exact BM hu I3 g ry rv fun s4 I4=>⟨σ,H4,I4,q3⟩
theorem GD(ho:PE X o td)(hi:PE X i ty):PS X (.Delete [.Subscript o i tpos] pos) (K9 td ty):=by
 intro pins s σ H D I h
 refine wpAny_Delete (wpAny_deleteEach_cons (wpAny_delete_Subscript (aW (ho pins s σ H _ I h) fun u s1 ⟨x,H1,I1,rx,q1⟩=>aW (hi pins s1 σ H1 _ I1 q1) fun iv s2 ⟨y,H2,I2,ry,a,kvs,k,ex,e,ey,l,q2⟩=>?_)))
 subst ex ey
 obtain rfl:u=Value.ref a:=rx
 exact Bt I2 e ry l fun s3 I3=>wpAny_deleteEach_nil ⟨σ,_,I3,q2⟩
end
theorem wI{P:Program}{w:World}{H:Hp}(h:Heap)(hb:sysModules<h.objs.size):bN P w H (h.push {cls:= .type "dict",data:= .dict #[]}) h.objs.size (.dK []):=
 ⟨Nat.zero_le _,beq_eq_false_iff_ne.mpr (Ne.symm (Nat.ne_of_lt hb)),[],.nil,Heap.DictOf.new h⟩
def JT:TE:=fun _ H Q=>∀p,H p=none->Q (.ref p) (upd H p (.dK []))
section
variable{X:Cx}{pos:Pos}
theorem mP:PE X (.Dict [] [] pos) JT:=fun pins s σ H Q I h=>
 wpAny_Dict_empty ⟨.ref s.heap.objs.size,_,I.laid (a:=s.heap.objs.size) (o:= .dK []) (t':=s.toks) (fun _ _ q=>Heap.get?_push_of_some _ q) (Nat.le_refl _) (wI s.heap I.big),rfl,h _ (I.aY.fresh (Nat.le_refl _))⟩
end
def y6:List (TE×TE)->St->Hp->(List (V×V)->Hp->Prop)->Prop
 |[],_,H,Q=>Q [] H
 |(tk,tv)::r,σ,H,Q=>tk σ H fun x H1=>tv σ H1 fun y H2=>y6 r σ H2 fun ps H3=>Q ((x,y)::ps) H3
abbrev VV:List (V×V)->List (Value×Value)->Prop:=Paired fun p q=>RelV p.1 q.1/\RelV p.2 q.2
def Mn(X:Cx)(pos:Pos)(keys:List (Option Expr))(values:List Expr)(trs:List (TE×TE)):Prop:=
 ∀(pins:List (Addr×Obj))(s:Shared)(σ:St)(H:Hp)(Q:List (V×V)->Hp->Prop),Inv X pins σ H s->y6 trs σ H Q->
  wpAny (model X.prog X.w) X.A (evalPairs (pairTrees keys values X.env pos)) (fun vs s'=>∃ps H',Inv X pins σ H' s'/\VV ps vs/\Q ps H') X.xe s
theorem mI{X:Cx}{pos:Pos}:Mn X pos [] [] []:=fun pins s σ H Q I h=>pairTrees_nil_walk ⟨[],H,I,.nil,h⟩
theorem c7{X:Cx}{pos:Pos}{k v:Expr}{ks:List (Option Expr)}{vs:List Expr}{tk tv:TE}{trs:List (TE×TE)}(hk:PE X k tk)(hv:PE X v tv)(hr:Mn X pos ks vs trs):
  Mn X pos (some k::ks) (v::vs) ((tk,tv)::trs):=fun pins s σ H Q I h=>
 pairTrees_cons_walk (aW (hk pins s σ H _ I h) fun u s1 ⟨x,H1,I1,rx,q1⟩=>aW (hv pins s1 σ H1 _ I1 q1) fun w2 s2 ⟨y,H2,I2,ry,q2⟩=>
  aW (hr pins s2 σ H2 _ I2 q2) fun ws s3 ⟨ps,H3,I3,rel,q3⟩=>⟨(x,y)::ps,H3,I3,.cons ⟨rx,ry⟩ rel,q3⟩)
def eB(kvs more:List (Key×V)):List (Key×V):=more.foldl (fun acc kv=>putK acc kv.1 kv.2) kvs
theorem KV.merge:∀{more:List (Key×V)}{rs:List (Key×Value)}{kvs:List (Key×V)}{vs:List (Key×Value)},KV more rs->KV kvs vs->KV (eB kvs more) (merged vs rs):=by
 intro more rs kvs vs r
 unfold KV at r
 induction r generalizing kvs vs with
 |nil=>intro q;exact q
 | @cons p q ps qs h t ih=>
  intro r0
  have e:KV (putK kvs p.1 p.2) (stored vs q.1 q.2):=by
   have:=r0.put p.1 h.2
   rw[←h.1];exact this
  exact ih e
theorem lB:∀(more kvs:List (Key×V)),(eB kvs more).length<=kvs.length+more.length
 |[],kvs=>by show kvs.length<=kvs.length+0;lia
 |p::r,kvs=>by
  have h1:=lB r (putK kvs p.1 p.2)
  have h2:=ig kvs p.1 p.2
  show(eB (putK kvs p.1 p.2) r).length<=_
  rw[N3];lia
theorem qE{P:Program}{w:World}:∀{kvs:List (Key×V)}{ws:List (Value×Value)},VV (kvs.map fun kv=>(kV kv.1,kv.2)) ws->∃rs,Carries (aV P w) ws rs/\KV kvs rs
 |[],_,r=>by rw[List.map_nil]at r;cases r;exact⟨[],True.intro,.nil⟩
 |p::kvs,_,r=>by
  rw[N4]at r
  cases r with
  | @cons a b as bs h t=>
   obtain⟨rs,c,q⟩:=qE (P:=P) (w:=w) t
   obtain⟨b1,b2⟩:=b
   exact⟨(p.1,b2)::rs,⟨iC h.1,rfl,c⟩,.cons ⟨rfl,h.2⟩ q⟩
def LD(trs:List (TE×TE)):TE:=fun σ H Q=>∀p,H p=none->y6 trs σ (upd H p (.dK [])) fun ps H2=>H2 p=some (.dK [])/\∃kvs:List (Key×V),ps=kvs.map (fun kv=>(kV kv.1,kv.2))/\kvs.length<=15/\Q (.ref p) (upd H2 p (.dK (eB [] kvs)))
theorem nE{X:Cx}{pos:Pos}{keys:List (Option Expr)}{values:List Expr}{trs:List (TE×TE)}(h:Mn X pos keys values trs)(hall:keys.all (·.isSome)=true)(hl:keys.length=values.length)(h0:keys≠[])
  (h15:keys.length<=15):PE X (.Dict keys values pos) (LD trs):=by
 intro pins s σ H Q I q
 have hn:=I.aY.fresh (Nat.le_refl s.heap.objs.size)
 have I1:=I.laid (a:=s.heap.objs.size) (o:= .dK []) (h':=s.heap.push {cls:= .type "dict",data:= .dict #[]}) (t':=s.toks) (fun _ _ q=>Heap.get?_push_of_some _ q) (Nat.le_refl _) (wI s.heap I.big)
 refine wpAny_Dict_walk (knd:=aV X.prog X.w) hall hl h0 h15 (aW (h pins _ σ _ _ I1 (q _ hn)) fun ws s2 ⟨ps,H2,I2,rel,e,kvs,ep,lk,q2⟩=>?_)
 subst ep
 obtain⟨rs,c,rk⟩:=qE (P:=X.prog) (w:=X.w) rel
 obtain⟨z,hd,vs0,r0,dd⟩:=tO I2.aY e
 cases r0
 refine⟨rs,c,dd,fun h' dd' hs=>⟨.ref s.heap.objs.size,_,?_,rfl,q2⟩⟩
 have hz:(eB [] kvs).length<=sizeLine:=by
  have h1:=lB kvs []
  rw[List.length_nil]at h1
  rw[sizeLine_eq];lia
 have he:∃q,h'.get? s.heap.objs.size=some q:=let⟨q,_,_,hq,_⟩:=dd';⟨q,hq⟩
 exact mM I2 (by rw[e];exact True.intro) hs he (uF hz hd (rk.merge .nil) dd')
structure M2(X:Cx)(o:Expr)(m:Str)(apos:Pos)(e f:Expr)(cpos:Pos):Prop where
 base:attributeBase o m X.env (eval o X.env)=eval o X.env
 MU:((backTo cpos (starEach [e,f] X.env)).all (fun x=> !x.1)&&(backToKw cpos (keywordEach [] X.env)).all (fun x=>x.1.isSome)
  &&decide (([e,f]:List Expr).length+([]:List Keyword).length+(if([]:List Keyword).isEmpty then 0 else 1)<30))=true
 line:(apos.endLine==cpos.line)=true
 trees:backTo cpos (starEach [e,f] X.env)=[(false,eval e X.env),(false,eval f X.env)]
def Nq(H:Hp)(a:Addr):Prop:=(∃kvs,Rd H a (.dK kvs))\/∃kvs,Rd H a (.dT kvs)
theorem JP{X:Cx}{pins:List (Addr×Obj)}{σ:St}{H:Hp}{s:Shared}{a:Addr}(I:Inv X pins σ H s)(d:Nq H a):
  s.TypeIs (.ref a) "dict"/\(∀b,Value.ref a= .ref b->∃ob,s.heap.get? b=some ob/\ob.dict=none)/\(a==sysModules)=false:=by
 rcases d with⟨kvs,e⟩|⟨kvs,e⟩
 .obtain⟨_,hd,vs,_,dd⟩:=rN I.aY e
  refine⟨dd.typeIs,fun b q=>?_,hd⟩
  cases q
  obtain⟨ob,_,_,h1,h2,_⟩:=dd
  exact⟨ob,h1,h2.2.1⟩
 .obtain⟨_,hd,xs,_,dd⟩:=qY I.aY e
  refine⟨dd.typeIs,fun b q=>?_,hd⟩
  cases q
  obtain⟨ob,_,_,h1,h2,_⟩:=dd
  exact⟨ob,h1,h2.2.1⟩
section
variable{X:Cx}{pins:List (Addr×Obj)}{σ:St}{H:Hp}{s:Shared}{a:Addr}{y d:V}{u r:Value}{o:Option V}{A:Around}{E:Value->Shared->Prop}
theorem JR{Q:Value->Shared->Prop}(hu:A.units+1<cLine)(I:Inv X pins σ H s)(g:c8 H a y o)(ry:RelV y u)(rd:RelV d r)(h:∀w' s',Inv X pins σ H s'->RelV (o.getD d) w'->Q w' s'):
  wpAny (model X.prog X.w) A (call (.builtin "dict.get") [.ref a,u,r]) Q E s:=by
 rcases g with⟨kvs,k,e,ey,l⟩|⟨kvs,k,b,e,ey,eb,l⟩
 .subst ey
  obtain⟨z,hd,vs,rel,dd⟩:=rN I.aY e
  refine call_meetsIn PySem.F.slot_dict_get dd.typeIs PySem.F.entry_dict_get (PySem.F.args_dict_get_3 _ _ _) (meets_dict_get_default (aV X.prog X.w) a (iC ry) hd r) ⟨_,dd.mapOf,h _ _ (I.tok _) ?_⟩
  rw[l]
  exact(rel.val k).getD rd
 .subst ey
  cases(show u=Value.ref b from ry)
  obtain⟨z,hd,xs,rel,dd⟩:=qY I.aY e
  refine call_meetsIn PySem.F.slot_dict_get dd.typeIs PySem.F.entry_dict_get (PySem.F.args_dict_get_3 _ _ _) (meetsH_dict_get_default (tupleKind (aV X.prog X.w)) a b hd r) ⟨tupleKind_room_in1 hu,k,xs,n5 I.aY eb,dd,h _ _ (I.tok _) ?_⟩
  rw[l]
  exact(rel.val k).getD rd
end
def JF(td ty tx:TE):TE:=fun σ H Q=>td σ H fun x H1=>∃a,x= .ref a/\Nq H1 a/\ty σ H1 fun y H2=>tx σ H2 fun z H3=>∃o,c8 H3 a y o/\Q (o.getD z) H3
section
variable{X:Cx}{o e f:Expr}{apos cpos:Pos}{td ty tx:TE}
theorem iI(hu:X.A.units+1<cLine)(ho:PE X o td)(he:PE X e ty)(hf:PE X f tx)(m:M2 X o "get" apos e f cpos):PE X (.Call (.Attribute o "get" apos) [e,f] [] cpos) (JF td ty tx):=by
 intro pins s σ H Q I h
 refine wpAny_Call_method m.base m.MU m.line PySem.F.plainAttrs_dict PySem.F.slot_dict_get PySem.F.type_dict_get (aW (ho pins s σ H _ I h) fun u s1 ⟨x,H1,I1,rx,a,ex,d,q1⟩=>?_)
 subst ex
 obtain rfl:u=Value.ref a:=rx
 obtain⟨t1,t2,_⟩:=JP I1 d
 refine⟨t1,t2,?_⟩
 rw[m.trees]
 refine Calls.callWith_builtin rfl (Calls.evalArgs_plain (Calls.spliced_cons (aW (he pins s1 σ H1 _ I1 q1) fun iv s2 ⟨y,H2,I2,ry,q2⟩=>
  Calls.spliced_cons (aW (hf pins s2 σ H2 _ I2 q2) fun fv s3 ⟨z,H3,I3,rz,ov,g,q3⟩=>Calls.spliced_nil ?_))))
 exact JR hu I3 g ry rz fun w' s4 I4 rw'=>⟨_,H3,I4,rw',q3⟩
end
end L2
namespace Att
open PySem PySem.W PySem.Calls PyProof.Rows
theorem pF{P:Params}{h:Heap}:∀(ns:List Int)(vs:List Value),WellAll P h vs (ns.map WData.int)->IntsAre vs ns:=by
 intro ns
 induction ns with
 |nil=>
  intro vs w
  rw[List.map_nil]at w
  cases w
  exact .nil
 |cons n ns ih=>
  intro vs w
  rw[N4]at w
  cases w with
  |cons a b=>
   cases a
   exact .cons _ _ (ih _ b)
theorem AW{l:OpenLaw}{n:Nat}(hn:l.most=some n){P:Params}{h:Heap}{args:List WData}{vals:List Value}
  (hpre:l.row.toRowW.claim.pre args=true) (hwl:WellAll P h vals args):
  ∃a vs ns,vals=[Value.ref a]/\args=[WData.list (ns.map WData.int)]/\h.get? a=some {cls:= .type "list",data:= .seq vs.toArray}/\IntsAre vs ns/\ns.length<=n:=by
 have hsh:WShape.hasAll [] args [.list .int]=true:=(pre_splitW hpre).1
 have hc:l.pre.holds [] {args:=args}=true:=(pre_splitW hpre).2
 obtain⟨d,r,rfl,h1,h2⟩:=hasAllW_cons hsh
 obtain rfl:=hasAllW_nil h2
 obtain⟨xs,rfl,h3⟩:=hasW_list h1
 obtain⟨ns,rfl⟩:=items_int h3
 have hlen:ns.length<=n:=by
  unfold OpenLaw.pre at hc
  have h4:(WTm.not (.lt (.lit (.int (n:Int))) (.len (.arg 0)))).holds [] {args:=[.list (ns.map .int)]}=true:=by
   have h4:=(holds_andW hc).1
   rw[hn]at h4
   exact h4
  have h5:=condW_of h4 (w_not (w_lt w_lit (w_len_list (w_arg rfl))))
  rw[NY]at h5
  refine Nat.le_of_not_lt fun q=>?_
  have q':(n:Int)<((ns.length:Nat):Int):=by lia
  first
   |(rw[decide_eq_true q']at h5;exact absurd h5 (by decide))
   |(simp at h5;lia)
 cases hwl with
 |cons w1 w2=>
  cases w2
  cases w1 with
  |list ho hall=>exact⟨_,_,ns,rfl,rfl,ho,pF ns _ hall,hlen⟩
theorem A9(l:OpenLaw)(args:List WData):l.row.toRowW.claim.post args (.bool true) args=true:=
 postW_of (r:=l.row.toRowW) (X:=(true==true))
  (show WShape.has [] (.bool true) .bool=true by first|rfl|decide|simp[WShape.has,WShape.arms,WShape.armsAll])
  (show(WTm.eq .res (.lit (.bool true))).value [] {args:=args,res:=some (.bool true),after:=args}=some (.bool (true==true))from w_eq_bool (w_res rfl) w_lit) rfl
theorem wD{l:OpenLaw}{n:Nat}{q:Program}{loose:List Str}{XP:(Str->Option Value)->Heap->Prop}{YP:World->Heap->Prop}{d:DefRec}
  (hn:l.most=some n) (hdf:d.params.defaults=[])
  (call:∀(w:World)(s₀ s₁:Shared)(mg mb:Str->Option Value)(fa:Addr)(o:Obj)(pm cd doc:Value)(a:Addr)(vs:List Value)(ns:List Int),
   Ground q loose [] XP w s₀ mg mb s₁.heap->YP w s₁.heap->
   s₁.heap.get? fa=some o->o.data= .func (docDef d.name d.params d.body d.scope pm cd doc)->s₁.heap.CodeRec cd d.name->mg d.name=some (.ref fa)->
   s₁.heap.get? a=some {cls:= .type "list",data:= .seq vs.toArray}->IntsAre vs ns->ns.length<=n->s₁.gens= #[]->
   codeAny (model l.prog w) callerA (.call (.ref fa) ⟨[.ref a],[]⟩) (fun r s'=>r= .ok (.ret (.bool true))/\OldK s₁.heap s'.heap/\s'.os=s₁.os/\AllBare s'.gens) s₁):
  WalkO q loose XP YP l.row.toRowW d [] (fun f vs=>PySem.call f vs):=by
 intro w s₀ s₁ mg mb G Y fa o pm cd doc dV kV ho hd hcd hD hmg hg args vals as hpre hlay hrd hwl hlo
 obtain rfl:dV= .none:=Dflts.none hD hdf
 obtain rfl:kV= .none:=Dflts.noKw hD
 obtain⟨a,vs,ns,rfl,rfl,hobj,hints,hlen⟩:=AW hn hpre hwl
 refine enter_call (codeAny_mono (call w s₀ s₁ mg mb fa o pm cd doc a vs ns G Y ho (fd_plain hd) hcd hmg hobj hints hlen hg) fun r s' hq=>?_)
 obtain⟨rfl,h2,h3,h4⟩:=hq
 exact⟨.inl ⟨.bool true,.bool true,[],rfl,fun _=>rfl,.bool true,A9 l _,fun _=>⟨List.Pairwise.nil,fun _ hm=>(nomatch hm)⟩⟩,h2,h3,h4⟩
end Att
namespace L2
open PySem PySem.Spec PyProof.Rows
theorem tQ:∀{vs:List Value}{ns:List Int},IntsAre vs ns->Vals (ns.map V.int) vs
 |_,_,.nil=> .nil
 |_,_,.cons n t h=> .cons ⟨t,rfl⟩ (tQ h)
def JQ(H:Hp):Prop:=∀b,H b=none\/∃o xs,H b=some (.w4 o (.lst xs))
theorem Ck{P:Program}{w:World}{K:W.Frag}{mg mb:Str->Option Value}{CX:sf}{k:Nat}{fa a:Addr}{fd:FuncData}{x:Str}{sp:Sp}{s₁:Shared}{vs:List Value}{ns:List Int}
  (KX:K.In s₁.heap) (hns:s₁.heap.Ns mainGlobals mg) (hb:s₁.heap.Ns builtinsNs mb) (hbb:∀x:Str,x≠"__name__"->mb x=bootBuiltins x) (hlim:s₁.heap.NoLimit) (hg:s₁.gens= #[])
  (ha:s₁.heap.get? a=some {cls:= .type "list",data:= .seq vs.toArray}) (hi:IntsAre vs ns) (hl:ns.length<=sizeLine) (hr:cK k callerA)
  (F:∀base:Heap,K.In base->base.Ns mainGlobals mg->aR P w K mg base CX k fa fd [x] sp) (hbind:∀(s:Shared)(u:Value),BindsTo s fd ⟨[u],[]⟩ [(x,u)])
  (hsp:∀H:Hp,JQ H->aC K H a (ns.map V.int)->sp [.ref a] H (fun v _=>v= .bl true) fun _ _ _=>False)
  (hCX:∀H e s',CX [] H s₁ (fun _ _ _=>False) e s'->False):
  codeAny (model P w) callerA (.call (.ref fa) ⟨[.ref a],[]⟩) (fun r s'=>r= .ok (.ret (.bool true))/\OldK s₁.heap s'.heap/\s'.os=s₁.os/\AllBare s'.gens) s₁:=by
 have rv:=tQ hi
 have lenV:=hi.length
 have core:∀H:Hp,JQ H->aC K H a (ns.map V.int)->lz P w H s₁.heap->(∀b,H b≠none->b=a)->(H a≠none->K.lookup a=none)->
   codeAny (model P w) callerA (.call (.ref fa) ⟨[.ref a],[]⟩) (fun r s'=>r= .ok (.ret (.bool true))/\OldK s₁.heap s'.heap/\s'.os=s₁.os/\AllBare s'.gens) s₁:=by
  intro H hO hS aY hA hK
  have base_of:∀{b:Addr}{o:Obj},s₁.heap.get? b=some o->H b=none->(uu s₁.heap H).get? b=some o:=fun e n=>Ec e n
  have noA:∀{b:Addr}{o:Obj}{es:Array DictEntry}{ep:Nat},s₁.heap.get? b=some o->o.data= .dict es ep->H b=none:=fun{b o es ep} e d=>by
   cases q:H b with
   |none=>rfl
   |some u=>
    have e':b=a:=hA b (by rw[q];simp)
    subst e'
    rw[ha]at e;cases e
    have d':Data.seq vs.toArray _=Data.dict es ep:=d
    cases d'
  have nsK:∀{b:Addr}{m:Str->Option Value},s₁.heap.Ns b m->(uu s₁.heap H).Ns b m:=fun{b m} ⟨o,es,ep,e,d,r⟩=>⟨o,es,ep,base_of e (noA e d),d,r⟩
  have hKb:K.In (uu s₁.heap H):=fun b o e=>base_of (KX b o e) (by
   cases q:H b with
   |none=>rfl
   |some u=>
    have e':b=a:=hA b (by rw[q];simp)
    subst e'
    rw[hK (by rw[q];simp)]at e;cases e)
  have hM:Mod K mg (uu s₁.heap H):=⟨hKb,nsK hns,⟨mb,nsK hb,hbb⟩,let⟨mc,h1,h2⟩:=hlim;⟨mc,nsK h1,h2⟩⟩
  have e0:xn P w K mg (uu s₁.heap H) callerA [] s₁ H:=⟨rfl,hM,fun b o e=>Fh e,Nat.le_of_eq (BS _ _),trivial,fun b hb=>absurd (show b∈([]:List Addr)from hb) (by simp),aY,.of_eq hg⟩
  refine codeAny_mono ((F _ hKb (nsK hns)).run callerA [] s₁ H ⟨[.ref a],[]⟩ [.ref a] [.ref a] _ _ hr e0 (hbind s₁ (.ref a)) (.cons rfl .nil) (hsp H hO hS)) fun r s' h=>?_
  cases r with
  |error e=>exact(hCX H e s' h).elim
  |ok fl=>
   cases fl with
   |next=>exact False.elim h
   |brk=>exact False.elim h
   |cont=>exact False.elim h
   |ret u=>
    obtain⟨v,H',os,bare,un,hok',r',q⟩:=h
    have q':v= .bl true:=q
    subst q'
    obtain rfl:u=Value.bool true:=r'
    refine⟨rfl,OldK.of_keep fun b o e=>?_,os,bare⟩
    cases q:H b with
    |none=>exact un.keep b o e q (by intro z;exact absurd (show b∈([]:List Addr)from z) (by simp)) (by simp)
    |some u=>
     rcases hO b with z|⟨ob,xs,z⟩
     .rw[q]at z;cases z
     .have z2:=un.iX b ob _ z
      obtain⟨e1,_⟩:=aY b _ z
      obtain⟨e2,_⟩:=hok' b _ z2
      rw[e]at e1;cases e1
      exact e2
 cases hk:K.lookup a with
 |some o=>
  have e:=KX a o hk
  rw[ha]at e
  cases e
  refine core (fun _=>none) (fun _=> .inl rfl) (.inr ⟨_,vs.toArray,_,hk,rfl,rfl,rfl,by rw[List.size_toArray,lenV];exact hl,by simpa using rv⟩) (fun b u z=>by have z':(none:Option HO)=some u:=z;cases z') (fun b z=>absurd rfl z) fun z=>absurd rfl z
 |none=>
  refine core (fun b=>if b=a then some (.w4 {cls:= .type "list",data:= .seq vs.toArray} (.lst (ns.map V.int)))else none) (fun b=>?_) (.inl (.inr ⟨{cls:= .type "list",data:= .seq vs.toArray},if_pos rfl⟩)) (fun b u z=>?_) (fun b z=>?_) fun _=>hk
  .by_cases hb:b=a
   .exact .inr ⟨_,_,if_pos hb⟩
   .exact .inl (if_neg hb)
  .by_cases hb:b=a
   .have z':=(if_pos hb).symm.trans z
    cases z'
    subst hb
    exact⟨ha,by rw[NY];exact hl,vs,_,rv,ha⟩
   .have z':=(if_neg hb).symm.trans z
    cases z'
  .by_cases hb:b=a
   .exact hb
   .exact absurd (if_neg hb) z
theorem FN{l:W.OpenLaw}{n k:Nat}{q:Program}{loose:List Str}{XP:(Str->Option Value)->Heap->Prop}{YP:World->Heap->Prop}{d:DefRec}{K:Params->W.Frag}{CX:World->sf}{sp:World->Sp}{x:Str}
  (hn:l.most=some n) (hn2:n<=sizeLine) (hdf:d.params.defaults=[]) (hr:cK k callerA)
  (hY:∀(w:World)(h:Heap),YP w h->(K w.params).In h)
  (F:∀(w:World)(mg:Str->Option Value)(fa:Addr)(h:Heap),(K w.params).In h->h.Ns mainGlobals mg->mg d.name=some (.ref fa)->
   ∃fd:FuncData,(∀(s:Shared)(u:Value),BindsTo s fd ⟨[u],[]⟩ [(x,u)])/\
    ∀base:Heap,(K w.params).In base->base.Ns mainGlobals mg->aR l.prog w (K w.params) mg base (CX w) k fa fd [x] (sp w))
  (hsp:∀(w:World)(H:Hp)(a:Addr)(ns:List Int),ns.length<=n->JQ H->aC (K w.params) H a (ns.map V.int)->sp w [.ref a] H (fun v _=>v= .bl true) fun _ _ _=>False)
  (hCX:∀(w:World)(H:Hp)(s:Shared)(e:Value)(s':Shared),CX w [] H s (fun _ _ _=>False) e s'->False):
  W.WalkO q loose XP YP l.row.toRowW d [] (fun f vs=>PySem.call f vs):=by
 refine Att.wD hn hdf fun w s₀ s₁ mg mb fa o pm cd doc a vs ns G Y ho hd hcd hmg hobj hints hlen hg=>?_
 have KX:=hY w _ Y
 obtain⟨fd,hb,hF⟩:=F w mg fa _ KX G.T.g hmg
 exact Ck KX G.T.g G.T.b G.T.builtins G.T.nolimit hg hobj hints (Nat.le_trans hlen hn2) hr hF hb (fun H hO hS=>hsp w H a ns hlen hO hS) fun H e s'=>hCX w H s₁ e s'
def gC(s:Stmt):Arguments:=match s with
 | .FunctionDef _ a _ _ _ _ _ _ _ _=>a
 |_=>{posonlyargs:=[],args:=[],vararg:=none,kwonlyargs:=[],kw_defaults:=[],kwarg:=none,defaults:=[]}
def dw(s:Stmt):List Stmt:=match s with
 | .FunctionDef _ _ b _ _ _ _ _ _ _=>b
 |_=>[]
def ar(s:Stmt):Scope:=match s with
 | .FunctionDef _ _ _ _ _ _ sc _ _ _=>sc
 |_=>{kind:= .function,names:=[],isGenerator:=false,isCoroutine:=false}
abbrev hZ:sf:=fun _ _ _ _ _ _=>False
abbrev E0:XK:=fun _ _ _=>False
theorem Hf{X:Cx}:Passes hZ X E0:=fun _ _ _ _ _ _ _ h=>h.elim
structure dh(K:W.Frag)(x qual:Str)(st:Stmt)(f:Addr)(fd:FuncData):Prop where
 ex:∃(oc:Value)(od:Option Addr)(kV doc pm:Value)(an:Option Addr)(cdv ct:Value)(osl:Array (Option Value)),
  fd=W.fnOf x qual (gC st) (dw st) (ar st) .none kV doc pm an cdv ct/\K.lookup f=some ⟨oc,od,.func fd,osl⟩/\W.codeIn K cdv qual=true
 kp:W.keepIn K (.ref f)=true
section
variable{P:Program}{w:World}{K:W.Frag}{mg:Str->Option Value}{base:Heap}
theorem dh.ok {x qual:Str}{st:Stmt}{f:Addr}{fd:FuncData}{N ps:List Str}{k:Nat}{sp:Sp}(F:dh K x qual st f fd)(S:az N ps (ar st))(len:∀vs H Q E,sp vs H Q E->vs.length=ps.length)
  (hbody:∀(cdv:Value)(A:Around)(outer:List Env)(s:Shared)(H:Hp)(vs:List V)(Q:VK)(E:XK),cK k (A.deeper (envOfC qual (ar st) s.heap.objs.size f cdv))->sp vs H Q E->
   ∃t,tT (sT hZ P w K mg base N qual (ar st) f cdv A outer s H E).Ml (dw st) t/\t {nx:=fun _ H'=>Q .cP H',rt:=Q} (start N vs) H):aR P w K mg base hZ (k+1) f fd ps sp:=by
 obtain⟨oc,od,kV,doc,pm,an,cdv,ct,osl,rfl,lk,hcd⟩:=F.ex
 refine Ho lk hcd S len fun A outer s H vs Q E hr hsp=>?_
 obtain⟨t,h,q⟩:=hbody cdv A outer s H vs Q E hr hsp
 exact⟨t,h.Ml,q⟩
theorem dh.binds {x qual:Str}{st:Stmt}{f:Addr}{fd:FuncData}{ps:List Str}(F:dh K x qual st f fd)
  (h:∀(kV doc pm:Value)(an:Option Addr)(cdv ct:Value)(us:List Value),us.length=ps.length->bindArgs (W.fnOf x qual (gC st) (dw st) (ar st) .none kV doc pm an cdv ct) ⟨us,[]⟩=pure (ps.zip us)):Binds K fd ps []:=by
 obtain⟨oc,od,kV,doc,pm,an,cdv,ct,osl,rfl,lk,hcd⟩:=F.ex
 exact .all (h kV doc pm an cdv ct)
theorem u4{x qual:Str}{st:Stmt}{f:Addr}{oc:Value}{od an:Option Addr}{osl:Array (Option Value)}{kV doc pm cdv ct:Value}(l:K.lookup f=some ⟨oc,od,.func (W.fnOf x qual (gC st) (dw st) (ar st) .none kV doc pm an cdv ct),osl⟩)
  (c:W.codeIn K cdv qual=true) (k:W.keepIn K (.ref f)=true):dh K x qual st f (W.fnOf x qual (gC st) (dw st) (ar st) .none kV doc pm an cdv ct):=⟨⟨oc,od,kV,doc,pm,an,cdv,ct,osl,rfl,l,c⟩,k⟩
end
theorem o9{A:Around}{k:Nat}(hr:cK k A):A.units+1<cLine:=Nat.lt_of_le_of_lt (Nat.add_le_add_left (by decide:1<=64) _) hr.units
section
variable{X:Cx}
theorem pv(i:Nat){x:Str}{pos:Pos}(hN:X.N[i]?=some x:=by rfl)(hv:Mo X.env.scope x:=by first|exact Or.inl rfl|exact Or.inr (Or.inl rfl)|exact Or.inr (Or.inr rfl))(hd:(x==("__debug__" :Str))=false:=by decide)
  (hcd:(x==("__classdict__" :Str))=false:=by decide):PE X (.Name x pos) (lj i):=EB hN hv hd hcd
end
theorem sF{A B:Prop}(h:B):if false=true then A else B:=by
 rw[if_neg Bool.false_ne_true]
 exact h
theorem sk{A B:Prop}(h:A):if true=true then A else B:=by
 rw[if_pos rfl]
 exact h
theorem dQ{c A B:Prop}[Decidable c](h1:c->A)(h2:¬c->B):if c then A else B:=by
 by_cases h:c
 .rw[if_pos h]
  exact h1 h
 .rw[if_neg h]
  exact h2 h
def ag(H H':Hp):Prop:=∀b o,H b=some o->H' b=some o
theorem ag.refl (H:Hp):ag H H:=fun _ _ h=>h
theorem ag.trans {H H1 H2:Hp}(a:ag H H1)(b:ag H1 H2):ag H H2:=fun c o h=>b c o (a c o h)
theorem ag.free {H H':Hp}(e:ag H H'){l:Addr}(h:H' l=Option.none):H l=Option.none:=by
 cases q:H l with
 |none=>rfl
 |some o=>
  rw[e l o q]at h
  cases h
theorem ag.seq {K:W.Frag}{H H':Hp}{a:Addr}{xs:List V}(e:ag H H')(h:aC K H a xs):aC K H' a xs:=by
 rcases h with(h|⟨o,h⟩)|h
 .exact .inl (.inl (e _ _ h))
 .exact .inl (.inr ⟨o,e _ _ h⟩)
 .exact .inr h
def dR(cells:List (Str×Addr)):List (Str×NameKind)->List (Str×Addr)->List (Str×Addr)
 |[],acc=>acc
 |(n,k)::r,acc=>if(k==NameKind.free)=true then(match cells.lookup n with|some c=>dR cells r ((n,c)::acc)|none=>dR cells r acc)else dR cells r acc
theorem oF{env:Env}:∀(ns:List (Str×NameKind))(acc:List (Str×Addr)),(∀y∈ns,y.2= .free->∃c,env.cells.lookup y.1=some c)->
  (forIn ns acc (fun x cs=>(match x with|(name,kind)=>if(kind==NameKind.free)=true then(do let c←cellOf env name;pure (ForInStep.yield ((name,c)::cs)))else pure (ForInStep.yield cs))):Sem (List (Str×Addr)))=pure (dR env.cells ns acc)
 |[],acc,_=>rfl
 |(n,k)::r,acc,h=>by
  rw[List.forIn_cons]
  by_cases hk:(k==NameKind.free)=true
  .obtain⟨c,hc⟩:=h (n,k) List.mem_cons_self (by simpa using hk)
   have hc:env.cells.lookup n=some c:=hc
   have e:=oF (env:=env) r ((n,c)::acc) fun y hy=>h y (List.mem_cons_of_mem _ hy)
   simp only[dR,hk,if_true,cellOf,hc,pure_bind]
   exact e
  .have e:=oF (env:=env) r acc fun y hy=>h y (List.mem_cons_of_mem _ hy)
   have hk:(k==NameKind.free)=false:=by simpa using hk
   simp only[dR,hk,Bool.false_eq_true,if_false,pure_bind]
   exact e
theorem fI{scope:Scope}{env:Env}(h:∀y∈scope.names,y.2= .free->∃c,env.cells.lookup y.1=some c):closureFor scope env=pure (dR env.cells scope.names []):=by
 have e:=oF (env:=env) scope.names [] h
 unfold closureFor
 simp only[bind_pure]
 first
  |exact e
  |(refine Eq.trans ?_ e;congr 1)
  |(simp only[bind_pure_comp]at e⊢;exact e)
theorem cS{cells:List (Str×Addr)}:∀{ns:List (Str×NameKind)}{acc:List (Str×Addr)}{x:Str}{c:Addr},(dR cells ns acc).lookup x=some c->acc.lookup x=some c\/cells.lookup x=some c
 |[],acc,x,c,h=> .inl h
 |(n,k)::r,acc,x,c,h=>by
  unfold dR at h
  split at h
  .split at h
   .rename_i q hq
    rcases cS h with z|z
    .rw[List.lookup_cons]at z
     cases hx:x==n with
     |true=>
      rw[hx]at z
      cases z
      have:x=n:=by simpa using hx
      subst this
      exact .inr hq
     |false=>
      rw[hx]at z
      exact .inl z
    .exact .inr z
   .exact cS h
  .exact cS h
theorem iM{cells:List (Str×Addr)}:∀{ns:List (Str×NameKind)}{acc:List (Str×Addr)}{x:Str}{c:Addr},cells.lookup x=some c->((x,NameKind.free)∈ns\/acc.lookup x=some c)->(dR cells ns acc).lookup x=some c
 |[],acc,x,c,hc,h=>h.elim (fun z=>nomatch z) fun z=>z
 |(n,k)::r,acc,x,c,hc,h=>by
  unfold dR
  split
  .rename_i hk
   split
   .rename_i q hq
    refine iM hc ?_
    rcases h with h|h
    .rcases List.mem_cons.mp h with e|h
     .cases e
      rw[hc]at hq
      cases hq
      exact .inr (by simp)
     .exact .inl h
    .by_cases e:x=n
     .subst e
      rw[hc]at hq
      cases hq
      exact .inr (by simp)
     .exact .inr (by rw[List.lookup_cons,(by simpa using e:(x==n)=false)];exact h)
   .rename_i hq
    refine iM hc ?_
    rcases h with h|h
    .rcases List.mem_cons.mp h with e|h
     .cases e
      rw[hc]at hq
      cases hq
     .exact .inl h
    .exact .inr h
  .rename_i hk
   refine iM hc ?_
   rcases h with h|h
   .rcases List.mem_cons.mp h with e|h
    .cases e
     exact absurd rfl hk
    .exact .inl h
   .exact .inr h
theorem gz{env:Env}:∀{names:List (Str×NameKind)}{x:Str},names.lookup x=some .free->
  (names.map fun(n,k)=>if(k==NameKind.free&&env.scope.kind== .function&&env.kindOf n==some .cell)then(n,NameKind.cell)else(n,k)).lookup x=some .cell\/
  (names.map fun(n,k)=>if(k==NameKind.free&&env.scope.kind== .function&&env.kindOf n==some .cell)then(n,NameKind.cell)else(n,k)).lookup x=some .free
 |[],_,h=>by simp at h
 |(n,k)::r,x,h=>by
  have ih:= @gz env r x
  show List.lookup x ((if(k==NameKind.free&&env.scope.kind== .function&&env.kindOf n==some .cell)=true then(n,NameKind.cell)else(n,k))::_)=_\/List.lookup x ((if(k==NameKind.free&&env.scope.kind== .function&&env.kindOf n==some .cell)=true then(n,NameKind.cell)else(n,k))::_)=_
  cases hx:x==n with
  |true=>
   simp only[List.lookup_cons,hx]at h
   cases h
   by_cases hc:(NameKind.free==NameKind.free&&env.scope.kind== .function&&env.kindOf n==some .cell)=true
   .rw[if_pos hc];simp[List.lookup_cons,hx]
   .rw[if_neg hc];simp[List.lookup_cons,hx]
  |false=>
   simp only[List.lookup_cons,hx]at h
   by_cases hc:(k==NameKind.free&&env.scope.kind== .function&&env.kindOf n==some .cell)=true
   .rw[if_pos hc];simp only[List.lookup_cons,hx];exact ih h
   .rw[if_neg hc];simp only[List.lookup_cons,hx];exact ih h
theorem l8{env:Env}:∀{names:List (Str×NameKind)}{x:Str}{q:NameKind},(names.map fun(n,k)=>if(k==NameKind.free&&env.scope.kind== .function&&env.kindOf n==some .cell)then(n,NameKind.cell)else(n,k)).lookup x=some q->
  (∀y∈names,y.2≠.cell)->q= .cell\/q= .free->(x,NameKind.free)∈names
 |[],_,_,h,_,_=>by simp at h
 |(n,k)::r,x,q,h,hn,hq=>by
  have ih:= @l8 env r x q
  have h:List.lookup x ((if(k==NameKind.free&&env.scope.kind== .function&&env.kindOf n==some .cell)=true then(n,NameKind.cell)else(n,k))::r.map fun(n,k)=>if(k==NameKind.free&&env.scope.kind== .function&&env.kindOf n==some .cell)then(n,NameKind.cell)else(n,k))=some q:=h
  have nk:k≠.cell:=hn (n,k) List.mem_cons_self
  have hn':∀y∈r,y.2≠.cell:=fun y hy=>hn y (List.mem_cons_of_mem _ hy)
  cases hx:x==n with
  |true=>
   have e:x=n:=by simpa using hx
   subst e
   by_cases hc:(k==NameKind.free&&env.scope.kind== .function&&env.kindOf x==some .cell)=true
   .have:k= .free:=by
     simp only[Bool.and_eq_true]at hc
     simpa using hc.1.1
    subst this
    exact List.mem_cons_self
   .rw[if_neg hc]at h
    simp only[List.lookup_cons,hx]at h
    cases h
    rcases hq with z|z
    .exact absurd z nk
    .rw[z];exact List.mem_cons_self
  |false=>
   by_cases hc:(k==NameKind.free&&env.scope.kind== .function&&env.kindOf n==some .cell)=true
   .rw[if_pos hc]at h;simp only[List.lookup_cons,hx]at h;exact List.mem_cons_of_mem _ (ih h hn' hq)
   .rw[if_neg hc]at h;simp only[List.lookup_cons,hx]at h;exact List.mem_cons_of_mem _ (ih h hn' hq)
def dC(ix:List (Option Nat))(σ:St):St:=ix.map fun o=>o.bind fun i=>(σ[i]?).join
def pY(X:Cx)(N:List Str)(scope:Scope)(C:Addr)(fp:List Addr)(s:Shared)(H:Hp):Cx:=
 {X with N:=N,s₀:=s,H₀:=H,env:=compEnvC scope (dR X.env.cells scope.names []) C X.env,outer:=X.stack,stack:=X.stack,ex:=fp,fn:=fun _=>false,xe:=fun _ _=>False}
structure eZ(X:Cx)(scope:Scope)(N:List Str)(ix:List (Option Nat)):Prop where
 kind:scope.kind= .function
 uP:∀y∈scope.names,y.2≠.cell
 len:ix.length=N.length
 names:∀y∈scope.names,y.2= .local->scope.names.lookup y.1=some .local
 fr:∀y∈scope.names,y.2= .free->X.env.kindOf y.1=some .cell\/X.env.kindOf y.1=some .free
 NT:∀(j i:Nat),ix[j]?=some (some i)->∃x:Str,N[j]?=some x/\X.N[i]?=some x/\scope.names.lookup x=some .free/\(x,NameKind.free)∈scope.names
theorem mem_of_lookup{names:List (Str×NameKind)}{x:Str}{k:NameKind}(h:names.lookup x=some k):(x,k)∈names:=by
 induction names with
 |nil=>simp at h
 |cons p r ih=>
  obtain⟨n,q⟩:=p
  rw[List.lookup_cons]at h
  cases hx:x==n with
  |true=>
   rw[hx]at h;cases h;have:x=n:=by simpa using hx
   subst this;exact List.mem_cons_self
  |false=>rw[hx]at h;exact List.mem_cons_of_mem _ (ih h)
section
variable{X:Cx}{pins:List (Addr×Obj)}{σ:St}{H:Hp}{s:Shared}{scope:Scope}{N:List Str}{ix:List (Option Nat)}{fp:List Addr}
theorem eZ.ok (c:eZ X scope N ix)(I:Inv X pins σ H s)(hf:∀b∈fp,j4 X pins H b)(hlt:∀b∈fp,b<s.heap.objs.size){C:Nat}(hC:s.heap.objs.size<=C):(pY X N scope C fp s H).Ok where
 mod:=I.ok.mod
 kind:=c.kind
 glob:=I.ok.glob
 blt:=I.ok.blt
 above:=hC
 inj:=fun x y d h1 h2=>by
  have h1:(dR X.env.cells scope.names []).lookup x=some d:=h1
  have h2:(dR X.env.cells scope.names []).lookup y=some d:=h2
  rcases cS h1 with z|z
  .simp at z
  .rcases cS h2 with z'|z'
   .simp at z'
   .exact I.ok.inj x y d z z'
 has:=fun x h=>by
  have hm:(x,NameKind.free)∈scope.names:=by
   rcases h with h|h
   .exact l8 h c.uP (.inl rfl)
   .exact l8 h c.uP (.inr rfl)
  obtain⟨d,hd⟩:=I.ok.has x (c.fr _ hm rfl)
  exact⟨d,iM hd (.inl hm)⟩
 DF:=fun x d h=>by cases h
 hd:=I.ok.hd
 frames:=I.ok.frames
 Cd:= .inl rfl
 HF:=fun b hb=>by
  refine⟨fun z=>?_,fun x d e z=>?_⟩
  .have z:b=C:=z
   have:=hlt b hb
   rw[z]at this
   exact absurd (Nat.lt_of_lt_of_le this hC) (Nat.lt_irrefl _)
  .rcases cS e with q|q
   .simp at q
   .exact(hf b hb).2.2.2.2.1 x d q z
 bs:=fun b o e=>I.bs b o e
 Ai:=Nat.le_trans I.ok.Ai I.sz
 qg:=fun b o e hb=>by
  rcases(hf b hb).2.2.2.1 with z|z
  .exact I.ok.qg b o e z
  .exact absurd (Nat.lt_of_lt_of_le (Heap.lt_size (I.ok.bs b o e).1) z) (Nat.lt_irrefl _)
 sW:=fun b hb z=>by
  rcases List.mem_cons.mp (I.kf b z)with e|e
  .exact(hf b hb).2.1 e
  .exact(hf b hb).2.2.1 e
 iR:=I.stack
 p9:=I.qd
theorem eZ.enter (c:eZ X scope N ix)(I:Inv X pins σ H s)(hf:∀b∈fp,j4 X pins H b)(ho:∀b∈fp,∃o,s.heap.get? b=some o/\∀v,o.data≠.cell v){C D:Nat}{h':Heap}{t':Nat}{m:Str->Option Value}{oD:Obj}(hC:C=s.heap.objs.size+1)(hD:D=s.heap.objs.size)
  (k:∀b o,s.heap.get? b=some o->h'.get? b=some o) (hn:h'.Ns C m) (hoD:h'.get? D=some oD) (hdD:∀v,oD.data≠.cell v):
  Inv (pY X N scope C fp s H) (pins++[(D,oD)]) (dC ix σ) H {s with heap:=h',toks:=t'}:=by
 have hlt:∀b∈fp,b<s.heap.objs.size:=fun b hb=>let⟨o,e,_⟩:=ho b hb;Heap.lt_size e
 have sub:∀x d,(dR X.env.cells scope.names []).lookup x=some d->X.env.cells.lookup x=some d:=fun x d e=>by
  rcases cS e with z|z
  .simp at z
  .exact z
 refine⟨c.ok I hf hlt (by lia),rfl,I.bare,Un.kept k,⟨m,hn,fun j x v e1 e2 e3=>?_⟩,fun x d e=>?_,I.aY.fresh (by show s.heap.objs.size<=C;lia),fun x d e=>I.fO x d (sub x d e),fun p hp=>?_,I.aY.kept k,?_⟩
 .have e2:(ix.map fun o=>o.bind fun i=>(σ[i]?).join)[j]?=some (some v):=e2
  rw[NZ]at e2
  cases hj:ix[j]? with
  |none=>rw[hj]at e2;cases e2
  |some o=>
   rw[hj]at e2
   cases o with
   |none=>cases e2
   |some i=>
    have e2:some ((σ[i]?).join)=some (some v):=e2
    obtain⟨x',a1,a2,a3,a4⟩:=c.NT j i hj
    have e1:N[j]?=some x:=e1
    rw[e1]at a1
    cases a1
    have hs:σ[i]?=some (some v):=by
     have z:=Option.some.inj e2
     cases q:σ[i]? with
     |none=>rw[q]at z;cases z
     |some w=>rw[q]at z;have z:w=some v:=z;rw[z]
    have kx:=c.fr _ a4 rfl
    obtain⟨m0,hn0,hl0⟩:=I.loc
    obtain⟨u,r,l⟩:=hl0 i x v a2 hs (kx.elim (fun z=> .inr (.inl z)) fun z=> .inr (.inr z))
    refine⟨u,r,.inr ⟨?_,?_⟩⟩
    .exact gz (env:=X.env) a3
    .rcases l with⟨z,_⟩|⟨_,d,hd,hcell⟩
     .rcases kx with q|q<;>rw[q]at z<;>cases z
     .refine⟨d,iM hd (.inl a4),?_⟩
      obtain⟨o,ho,hdt⟩:=hcell
      exact⟨o,k d o ho,hdt⟩
 .obtain⟨v,o,ho,hdt⟩:=I.cell x d (sub x d e)
  exact⟨v,o,k d o ho,hdt⟩
 .have nstk:∀b,b≠X.env.locals->b∉X.fs->b∉gQ X.stack:=fun b h1 h2 z=>by
   rcases List.mem_cons.mp (I.kf b z)with e|e
   .exact h1 e
   .exact h2 e
  have old:∀p∈X.pn++pins,h'.get? p.1=some p.2/\H p.1=none/\p.1≠C/\p.1∉gQ X.stack/\∀v,p.2.data≠.cell v:=fun p hp=>by
   obtain⟨a1,a2,a3,a4,a5⟩:=I.pin p hp
   have: @LT.lt Nat _ p.1 s.heap.objs.size:=Heap.lt_size a1
   exact⟨k _ _ a1,a2,Nat.ne_of_lt (by rw[hC];exact Nat.lt_succ_of_lt this),nstk _ a3 a4,a5⟩
  have hp:p∈X.pn++(pins++[(D,oD)]):=hp
  rcases List.mem_append.mp hp with z|z
  .exact old p (List.mem_append_left _ z)
  .rcases List.mem_append.mp z with z|z
   .exact old p (List.mem_append_right _ z)
   .have e:p=(D,oD):=by simpa using z
    subst e
    have lt: @LT.lt Nat _ X.env.locals s.heap.objs.size:=I.lt
    refine⟨hoD,I.aY.fresh (by show s.heap.objs.size<=D;lia),(by show(D:Nat)≠C;lia),nstk D (Nat.ne_of_gt (by rw[hD];exact lt)) (I.Ld (by lia)),hdD⟩
 .show(ix.map _).length=N.length
  rw[NY,c.len]
theorem eZ.leave (c:eZ X scope N ix)(I:Inv X pins σ H s)(hf:∀b∈fp,j4 X pins H b){C D:Nat}{σ':St}{H':Hp}{s':Shared}{ys:List V}{its:List Value}{n:Nat}{pl:List (Addr×Obj)}(hC:C=s.heap.objs.size+1)(hD:D=s.heap.objs.size)
  (I':Inv (pY X N scope C fp s H) (pl++[(D,{cls:= .type "list",data:= .seq its.toArray n})]) σ' H' s') (rv:Vals ys its) (hz:ys.length<=sizeLine):
  Inv X pins σ (upd H' D (.lst ys)) s':=by
 have pD:=I'.pin (D,_) (List.mem_append_right _ (List.mem_append_right _ List.mem_cons_self))
 have hDn:H' D=none:=pD.2.1
 have u:Un (gQ X.stack) fp H H' s.heap s'.heap:=I'.base
 have hlt:∀b o,s.heap.get? b=some o->b≠D:=fun b o e=>Nat.ne_of_lt (by have: @LT.lt Nat _ b s.heap.objs.size:=Heap.lt_size e;rw[hD];exact this)
 refine I.DN (ch:=fp) I'.os ?_ ?_ I'.bare fun b hb=>?_
 .refine⟨u.keep,u.slot,fun b o e n hx=>by rw[ao (hlt b o e)];exact u.free b o e n hx,u.there,fun b xs e=>?_,fun b o w e=>?_,fun b ps e=>?_⟩
  .have e':=u.cy b xs e
   rw[ao (aj e' hDn)];exact e'
  .have e':=u.iX b o w e
   rw[ao (aj e' hDn)];exact e'
  .obtain⟨more,e'⟩:=u.jM b ps e
   exact⟨more,by rw[ao (aj e' hDn)];exact e'⟩
 .intro b o e
  by_cases hb:b=D
  .subst hb
   rw[ae]at e
   cases e
   exact⟨hz,its,n,rv,pD.1⟩
  .rw[ao hb]at e
   refine(I'.aY b o e).iF (fun _ _ _ q=>q) (fun a q=>?_) fun a xs q=>?_
   .rw[ao (aj q hDn)];exact q
   .rw[ao (aj q hDn)];exact q
 .obtain⟨f0,f1,f2,f3,f4,f5⟩:=hf b hb
  exact⟨f3,f1,f4,f5⟩
end
section
variable{prog:Program}{w:World}{A:Around}{R:Result->Shared->Prop}{s:Shared}
theorem uQ{elt target iter:Expr}{ifs:List Expr}{scope:Scope}{pos:Pos}{it acc:Value}{env:Env}(I:Nat->Shared->Prop)
  (turn:∀n s,I n s->wpAny (model prog w) A (pyNext it) (fun r s₁=>match r with
   |none=>R (.ok .next) s₁
   |some v=>wpAny (model prog w) A (letOwnedTupleGo target it v) (fun _ s₁=>wpAny (model prog w) A (assign target env v) (fun _ s₂=>
     wpAny (model prog w) A (forIn ifs true fun c r=>if r=true then do let ok←isTrue c env (eval c env);pure (ForInStep.yield ok)else pure (ForInStep.yield r)) (fun ok s₃=>
      if ok=true then wpAny (model prog w) A (eval elt env) (fun x s₄=>
       wpAny (model prog w) A (call (.builtin "list.append") [acc,x]) (fun _ s₅=>∃m,m<n/\I m s₅) (fun _ _=>False) s₄) (fun _ _=>False) s₃
      else∃m,m<n/\I m s₃) (fun _ _=>False) s₂) (fun _ _=>False) s₁) (fun _ _=>False) s₁) (fun _ _=>False) s)
  (n:Nat) (h:I n s):
  codeAny (model prog w) A (.compLoop (.ListComp elt [⟨target,iter,ifs,0⟩] scope pos) 0 it acc env) R s:=by
 refine codeAny_loop rfl I (fun n s hI=>?_) n h
 show wpAny _ A ((compTurn (.ListComp elt [⟨target,iter,ifs,0⟩] scope pos) 0 it acc env).onRaise (fun x=>do noteFrame x env;theTreesLotGoes x)) _ _ s
 refine wpAny_noted ?_
 rw[compTurn_list]
 refine wpAny_bind (wpAny_standAt (wpAny_bind (wpAny_mono (turn n s hI) (fun r s₁ h₁=>?_) fun _ _ h'=>h'.elim)))
 cases r with
 |none=>exact wpAny_pure h₁
 |some v=>
  refine wpAny_bind (wpAny_mono h₁ (fun _ s₁ h₁=>?_) fun _ _ h'=>h'.elim)
  refine wpAny_bind (wpAny_mono h₁ (fun _ s₂ h₂=>wpAny_bind (wpAny_mono h₂ (fun ok s₃ h₃=>?_) fun _ _ h'=>h'.elim)) fun _ _ h'=>h'.elim)
  cases ok with
  |false=>exact wpAny_pure ⟨rfl,h₃⟩
  |true=>
   refine wpAny_bind (wpAny_bind (wpAny_mono h₃ (fun x s₄ h₄=>wpAny_bind (wpAny_mono h₄ (fun _ s₅ h₅=>?_) fun _ _ h'=>h'.elim)) fun _ _ h'=>h'.elim))
   exact wpAny_pure (wpAny_pure ⟨rfl,h₅⟩)
end
def Hh(X:Cx)(cs:List Expr)(t:TT):Prop:=
 ∀(pins:List (Addr×Obj))(s:Shared)(σ:St)(H:Hp)(Q:Bool->Hp->Prop),Inv X pins σ H s->t σ H Q->
  wpAny (model X.prog X.w) X.A (forIn cs true fun c r=>if r=true then do let ok←isTrue c X.env (eval c X.env);pure (ForInStep.yield ok)else pure (ForInStep.yield r)) (TP X pins σ Q) X.xe s
def gT:TT:=fun _ H Q=>Q true H
theorem bg{X:Cx}:Hh X [] gT:=fun _ _ _ H _ I h=>wpAny_tests_nil ⟨H,I,h⟩
theorem Gk{X:Cx}{c:Expr}{t:TT}(h:PT X c t):Hh X [c] t:=fun pins s σ H Q I q=>wpAny_tests_one (h pins s σ H Q I q)
abbrev WC:=Nat->Nat->List V->St->Hp->Prop
def hW(ix:List (Option Nat))(g:TG)(tc:TT)(te:TE)(σ:St)(Q:VK)(J:It)(H1:Hp):Prop:=
 ∃W:WC,(∃m,W 0 m [] (dC ix σ) H1)/\∀i m ys σ' H',W i m ys σ' H'->
  (J.stop i H'/\ys.length<=sizeLine/\∀p,H' p=none->Q (.ref p) (upd H' p (.lst ys)))\/
  (J.go i H'/\ys.length<sizeLine/\∀x H2,J.JA i H' x H2->g x σ' H2 fun σ2 H3=>tc σ2 H3 fun b H4=>
   if b=true then te σ2 H4 fun v H5=>∃m',m'<m/\W (i+1) m' (ys++[v]) σ2 H5 else∃m',m'<m/\W (i+1) m' ys σ2 H4)
def Aw(ix:List (Option Nat))(wi:TI)(g:TG)(tc:TT)(te:TE):TE:=fun σ H Q=>wi σ H (hW ix g tc te σ Q)
section
variable{X:Cx}{scope:Scope}{N:List Str}{ix:List (Option Nat)}{elt tg iter:Expr}{ifs:List Expr}{g:TG}{tc:TT}{te:TE}{pos:Pos}
theorem qH{pins:List (Addr×Obj)}{σ:St}{s2:Shared}{Q:VK}{itv:Value}{RR:Value->Addr->Result->Shared->Prop}{E:Value->Shared->Prop}(c:eZ X scope N ix)(hc:X.calm=true)
  (hg:∀C fp s H,PG (pY X N scope C fp s H) tg g) (ht:∀C fp s H,Hh (pY X N scope C fp s H) ifs tc) (he:∀C fp s H,PE (pY X N scope C fp s H) elt te)
  (h2:Mi X pins σ tg (hW ix g tc te σ Q) itv s2)
  (hR:∀(D C:Addr)(s':Shared)(H':Hp)(m:Str->Option Value),Inv X pins σ H' s'->s'.heap.Ns C m->H' C=none->X.s₀.heap.objs.size<=C->(∀p∈X.pn++pins,p.1≠C)->C≠X.env.locals->(∀x c,X.env.cells.lookup x=some c->c≠C)->Q (.ref D) H'->RR (.ref D) C (.ok .next) s'):
  wpAny (model X.prog X.w) X.A (newList []) (fun acc s₃=>wpAny (model X.prog X.w) X.A (newFunctionEnv scope X.env.globals (dR X.env.cells scope.names []) [] X.env.qual none .none (some X.env)) (fun cenv s₄=>
   codeAny (model X.prog X.w) X.A (.compStart (.ListComp elt [⟨tg,iter,ifs,0⟩] scope pos) 0 itv acc {cenv with scope:=relabel scope X.env}) (RR acc cenv.locals) s₄) E s₃) E s2:=by
 obtain⟨it,fp,tn,J,H2,rfl,I2,T,st2,f2,W,⟨m0,w0⟩,turn⟩:=h2
 refine wpAny_newObj_type (wpAny_newFunctionEnv c.uP (by intro y hy;simp at hy) (fun h₁ hns₁ hsb₁=>?_) c.kind)
 dsimp only at hns₁ hsb₁⊢
 generalize hH2:s2.heap.push {cls:= .type "list",dict:=none,data:= .seq ([]:List Value).toArray}=G2 at hns₁ hsb₁⊢
 have hCs:G2.objs.size=s2.heap.objs.size+1:=by rw[←hH2,Heap.size_push]
 generalize hCe:G2.objs.size=C at hns₁ hsb₁ hCs⊢
 generalize hDe:s2.heap.objs.size=D at hCs⊢
 have ltC:∀b,@LT.lt Nat _ b D->b≠C:=fun b hb=>Nat.ne_of_lt (by rw[hCs];exact Nat.lt_succ_of_lt hb)
 have ltS:∀b o,s2.heap.get? b=some o->@LT.lt Nat _ b D:=fun b o e=>by rw[←hDe];exact Heap.lt_size e
 have hDC:D≠C:=Nat.ne_of_lt (by rw[hCs];exact Nat.lt_succ_self _)
 have old:∀b o,s2.heap.get? b=some o->h₁.get? b=some o:=fun b o e=>hsb₁.extBut b o (ltC b (ltS b o e)) (Heap.get?_push_of_some _ (hH2▸Heap.get?_push_of_some _ e))
 have hoD:h₁.get? D=some {cls:= .type "list",dict:=none,data:= .seq ([]:List Value).toArray}:=by
  refine hsb₁.extBut _ _ hDC (Heap.get?_push_of_some _ ?_)
  rw[←hH2,←hDe]
  exact Heap.get?_push_size _ rfl
 have I4:Inv (pY X N scope C fp s2 H2) (pins++[(D,{cls:= .type "list",data:= .seq ([]:List Value).toArray})]) (dC ix σ) H2 {s2 with heap:=h₁,toks:=s2.toks+([]:List (Str×Value)).length}:=
  c.enter I2 f2 (T.obj _ _ st2) (by rw[hCs,hDe]) hDe.symm old hns₁ hoD fun v z=>by cases z
 have st4:tn 0 h₁:=T.keep _ _ _ st2 fun b _ o e=>old b o e
 have pinD:∀p∈X.pn++pins,p.1≠D:=fun p hp=>Nat.ne_of_lt (ltS _ _ (I2.pin p hp).1)
 have pinC:∀p∈X.pn++pins,p.1≠C:=fun p hp=>ltC _ (ltS _ _ (I2.pin p hp).1)
 have celD:∀x d,X.env.cells.lookup x=some d->@LT.lt Nat _ d D:=fun x d e=>by
  obtain⟨v,o,ho,_⟩:=I2.cell x d e
  exact ltS d o ho
 have fpD:∀b∈fp,@LT.lt Nat _ b D:=fun b hb=>by
  obtain⟨o,e,_⟩:=T.obj _ _ st2 b hb
  exact ltS b o e
 have sub:∀x d,(dR X.env.cells scope.names []).lookup x=some d->X.env.cells.lookup x=some d:=fun x d e=>by
  rcases cS e with z|z
  .simp at z
  .exact z
 have stat:∀{H':Hp}{oD:Obj},(∀b∈fp,H' b=none)->∀b∈fp,j4 (pY X N scope C fp s2 H2) (pins++[(D,oD)]) H' b:=fun{H' oD} hn b hb=>by
  obtain⟨f0,f1,f2,f3,f4,f5⟩:=f2 b hb
  refine⟨hn b hb,ltC b (fpD b hb),fun z=>?_,.inl hb,fun x d e=>f4 x d (sub x d e),fun p hp=>?_⟩
  .rcases List.mem_cons.mp (I2.kf b z)with e|e
   .exact f1 e
   .exact f2 e
  .have hp:p∈X.pn++(pins++[(D,oD)]):=hp
   rw[←List.append_assoc]at hp
   rcases List.mem_append.mp hp with z|z
   .exact f5 p z
   .have e:p=(D,oD):=by simpa using z
    subst e
    exact Nat.ne_of_gt (fpD b hb)
 have loop:∀s3:Shared,s3={s2 with heap:=h₁,toks:=s2.toks+([]:List (Str×Value)).length}->
   codeAny (model X.prog X.w) X.A (.compLoop (.ListComp elt [⟨tg,iter,ifs,0⟩] scope pos) 0 (.ref it) (.ref D) (pY X N scope C fp s2 H2).env) (RR (.ref D) C) s3:=by
  rintro s3 rfl
  refine uQ (fun n s'=>∃i σ' H' ys its k,Inv (pY X N scope C fp s2 H2) (pins++[(D,{cls:= .type "list",data:= .seq (List.toArray its) k})]) σ' H' s'/\tn i s'.heap/\(∀b∈fp,H' b=none)/\Vals ys its/\W i n ys σ' H') ?_ m0
   ⟨0,_,H2,[],[],_,I4,st4,fun b hb=>(f2 b hb).1,.nil,w0⟩
  rintro n s3 ⟨i,σ3,H3,ys,its,k,I3,st3,fr3,rv,w3⟩
  rcases turn i n ys σ3 H3 w3 with⟨stop,hz,qn⟩|⟨go,hz,step⟩
  .refine aW (T.done (pY X N scope C fp s2 H2) rfl rfl rfl hc i _ s3 σ3 H3 _ I3 (stat fr3) st3 stop) fun r s4 ⟨hr,I4⟩=>?_
   subst hr
   have hDn:H3 D=none:=(I3.pin (D,_) (List.mem_append_right _ (List.mem_append_right _ List.mem_cons_self))).2.1
   obtain⟨m4,hn4,_⟩:=id I4.loc
   refine hR D C s4 _ m4 (c.leave I2 f2 (by rw[hCs,hDe]) hDe.symm I4 rv hz) hn4 ?_ ?_ pinC ?_ (fun x d e=>ltC d (celD x d e)) (qn D hDn)
   .rw[ao hDC.symm];exact I4.free
   .refine Nat.le_trans I2.sz ?_
    rw[hDe,hCs];exact Nat.le_succ _
   .refine Nat.ne_of_gt (Nat.lt_of_lt_of_le I2.lt ?_)
    rw[hDe,hCs];exact Nat.le_succ _
  .refine aW (T.item (pY X N scope C fp s2 H2) rfl rfl rfl hc i _ s3 σ3 H3 _ I3 (stat fr3) st3 go) fun r s4 ⟨u,hr,h4⟩=>?_
   subst hr
   refine aW h4 fun _ s5 ⟨x,H5,I5,r5,y5,st5,fr5⟩=>?_
   have I5':=I5.pinned (stat fr5) (T.obj _ _ st5)
   refine aW (hg C fp s2 H2 _ s5 σ3 H5 x u _ I5' r5 (step x H5 y5)) fun _ s6 ⟨σ6,H6,I6,q6⟩=>?_
   refine aW (ht C fp s2 H2 _ s6 σ6 H6 _ I6 q6) fun ok s7 ⟨H7,I7,q7⟩=>?_
   have keep:∀{s':Shared}{σ':St}{H':Hp},Inv (pY X N scope C fp s2 H2) ((pins++[(D,{cls:= .type "list",data:= .seq its.toArray k})])++oq fp s5.heap) σ' H' s'->tn (i+1) s'.heap/\∀b∈fp,H' b=none:=fun{s' σ' H'} I'=>by
    refine⟨T.keep _ _ _ st5 fun b hb o e=>(I'.pin (b,o) (List.mem_append_right _ (List.mem_append_right _ (fc hb e)))).1,fun b hb=>?_⟩
    obtain⟨o,e,d⟩:=T.obj _ _ st5 b hb
    exact(I'.pin (b,o) (List.mem_append_right _ (List.mem_append_right _ (fc hb e)))).2.1
   cases ok with
   |false=>
    rw[if_neg Bool.false_ne_true]
    rw[if_neg Bool.false_ne_true]at q7
    obtain⟨m',hm,w7⟩:=q7
    obtain⟨k1,k2⟩:=keep I7
    exact⟨m',hm,i+1,σ6,H7,ys,its,k,I7.eC,k1,k2,rv,w7⟩
   |true=>
    rw[if_pos rfl]
    rw[if_pos rfl]at q7
    refine aW (he C fp s2 H2 _ s7 σ6 H7 _ I7 q7) fun y s8 ⟨v,H8,I8,r8,m',hm,w8⟩=>?_
    obtain⟨k1,k2⟩:=keep I8
    have pD:=I8.pin (D,_) (List.mem_append_right _ (List.mem_append_left _ (List.mem_append_right _ List.mem_cons_self)))
    have I8u:=I8.eC
    have I8v:Inv (pY X N scope C fp s2 H2) pins σ6 H8 s8:=I8u.eC
    have len:=rv.length
    refine wpAny_list_append_plain (items:=its.toArray) (hsz:=by simp;lia) ⟨k,pD.1⟩ fun h9 hl9 hs9=>?_
    obtain⟨k9,e9⟩:=hl9
    have I9:Inv (pY X N scope C fp s2 H2) pins σ6 H8 {s8 with heap:=h9}:=by
     refine I8v.turned (t':=s8.toks) (it:=D) (fun b o hb e=>hs9.extBut b o hb e) pD.2.1 hDC (.inr ?_) (fun x d e=>Nat.ne_of_lt (celD x d (sub x d e))) fun p hp=>?_
     .show s2.heap.objs.size<=D
      rw[hDe];exact Nat.le_refl _
     .exact pinD p hp
    have e9':h9.get? D=some {cls:= .type "list",data:= .seq (its++[y]).toArray k9}:=by
     rw[e9];simp
    refine⟨m',hm,i+1,σ6,H8,ys++[v],its++[y],k9,I9.pP fun p hp=>?_,T.keep _ _ _ k1 fun b hb o e=>hs9.extBut b o (Nat.ne_of_lt (fpD b hb)) e,k2,rv.append (.cons r8 .nil),w8⟩
    rcases List.mem_append.mp hp with z|z
    .exact I9.pin p (List.mem_append_right _ z)
    .have e:p=(D,{cls:= .type "list",data:= .seq (its++[y]).toArray k9}):=by simpa using z
     subst e
     exact⟨e9',pD.2.1,pD.2.2.1,pD.2.2.2.1,fun v z=>by cases z⟩
 exact codeAny_compStart_list (loop _ rfl) (T.self _ 0 _ _ _ st4 (loop _ rfl))
variable{wi:TI}
theorem bQ(c:eZ X scope N ix)(hc:X.calm=true)(hi:PI X tg iter wi)(hg:∀C fp s H,PG (pY X N scope C fp s H) tg g)(ht:∀C fp s H,Hh (pY X N scope C fp s H) ifs tc)(he:∀C fp s H,PE (pY X N scope C fp s H) elt te)
  (hs:∀x,foldedSetIterable iter X.env x=pure x:=by intro _;rfl):PE X (.ListComp elt [⟨tg,iter,ifs,0⟩] scope pos) (Aw ix wi g tc te):=by
 intro pins s σ H Q I h
 rw[eval_ListComp]
 have hcl:∀y∈scope.names,y.2=NameKind.free->∃d,X.env.cells.lookup y.1=some d:=fun y hy e=>I.ok.has _ (c.fr y hy e)
 refine wpAny_comprehension_free (use:=none) rfl hs (fI hcl) c.kind c.names (aW (hi pins s σ H _ I h) fun v s1 h1=>aW h1 fun itv s2 h2=>?_)
 refine qH (RR:=fun acc C=>compPost (model X.prog X.w) X.A X.xe none (EP X pins σ Q) acc C) c hc hg ht he h2 ?_
 intro D C s' H' m I' hn hC hz hp hL hcells q
 exact⟨m,hn,fun h' hs'=>⟨.ref D,H',I'.turned (t':=s'.toks) (fun b o hb e=>hs'.extBut b o hb e) hC hL (.inr hz) hcells hp,rfl,q⟩⟩
theorem mL{i:Nat}{x:Str}{px spos:Pos}(hN:X.N.Nodup)(hx0:X.N[i]?=some x)(hx:X.env.scope.names.lookup x=some .local)(c:eZ X scope N ix)(hc:X.calm=true)(hi:PI X tg iter wi)(hg:∀C fp s H,PG (pY X N scope C fp s H) tg g)(ht:∀C fp s H,Hh (pY X N scope C fp s H) ifs tc)(he:∀C fp s H,PE (pY X N scope C fp s H) elt te)
  (hsw:swapsWith (.ListComp elt [⟨tg,iter,ifs,0⟩] scope pos) (some (.Name x px)) spos.line X.env=pure true:=by rfl)
  (hs:∀x,foldedSetIterable iter X.env x=pure x:=by intro _;rfl):PS X (.Assign [.Name x px] (.ListComp elt [⟨tg,iter,ifs,0⟩] scope pos) spos) (yt (Aw ix wi g tc te) (cF i)):=by
 intro pins s σ H D0 I h
 rw[exec_Assign_Name_used _ _ _ _ hsw]
 refine wpAny_bind (wpAny_standAt (wpAny_bind ?_))
 show wpAny _ _ (do let _←comprehension (.ListComp elt [⟨tg,iter,ifs,0⟩] scope pos) scope X.env _ (newList []) false (eval iter X.env) (some (assign (.Name x px) X.env))) _ _ s
 have hcl:∀y∈scope.names,y.2=NameKind.free->∃d,X.env.cells.lookup y.1=some d:=fun y hy e=>I.ok.has _ (c.fr y hy e)
 refine wpAny_bind (wpAny_mono (wpAny_comprehension_free (use:=some (assign (.Name x px) X.env)) (Q:=fun _ s'=>SP X pins D0 .next s') rfl hs (fI hcl) c.kind c.names
  (aW (hi pins s σ H _ I h) fun v s1 h1=>aW h1 fun itv s2 h2=>?_)) (fun _ s' hq=>wpAny_pure (wpAny_pure hq)) fun _ _ e=>e)
 refine qH (RR:=fun acc C=>compPost (model X.prog X.w) X.A X.xe (some (assign (.Name x px) X.env)) (fun _ s'=>SP X pins D0 .next s') acc C) c hc hg ht he h2 ?_
 intro D C s' H' m I' hn hC hz hp hL hcells q
 show wpAny _ _ (assign (.Name x px) X.env (.ref D)) _ _ _
 refine wpAny_assign_Name (n4 (v:= .ref D) I' hN hx0 (.inl hx) rfl (fun s'' I'' hsb=>?_) (.inr hx))
 obtain⟨a,sb,ha⟩:=hsb
 have haC:a≠C:=by
  rcases ha with e|e
  .rw[e];exact hL.symm
  .exact hcells x a e
 refine⟨m,hn.sameBut sb haC.symm,fun h' hs'=>⟨_,H',I''.turned (t':=s''.toks) (fun b o hb e=>hs'.extBut b o hb e) hC hL (.inr hz) hcells hp,q⟩⟩
end
mutual
inductive Dat(K:W.Frag)(H:Hp)(P:Addr->Prop):V->PyData->Prop
 |cP:Dat K H P .cP .none
 |bl (b:Bool):Dat K H P (.bl b) (.bool b)
 |int (i:Int):Dat K H P (.int i) (.int i)
 |str (x:Str):Dat K H P (.str x) (.str x)
 |lst {a:Addr} {vs:List V} {ds:List PyData}:aC K H a vs->P a->DatAll K H P vs ds->Dat K H P (.ref a) (.list ds)
 |tup {a:Addr} {vs:List V} {ds:List PyData}:e8 K H a vs->P a->DatAll K H P vs ds->Dat K H P (.ref a) (.tuple ds)
inductive DatAll(K:W.Frag)(H:Hp)(P:Addr->Prop):List V->List PyData->Prop
 |nil:DatAll K H P [] []
 |cons {v:V} {d:PyData} {vs:List V} {ds:List PyData}:Dat K H P v d->DatAll K H P vs ds->DatAll K H P (v::vs) (d::ds)
end
def A6(P:Addr->Prop)(H H':Hp):Prop:=∀b o,P b->H b=some o->H' b=some o
theorem A6.NV {P:Addr->Prop}{H H':Hp}{K:W.Frag}{a:Addr}{xs:List V}(k:A6 P H H')(p:P a)(h:aC K H a xs):aC K H' a xs:=by
 rcases h with(h|⟨o,h⟩)|h
 .exact .inl (.inl (k _ _ p h))
 .exact .inl (.inr ⟨o,k _ _ p h⟩)
 .exact .inr h
theorem A6.NW {P:Addr->Prop}{H H':Hp}{K:W.Frag}{a:Addr}{xs:List V}(k:A6 P H H')(p:P a)(h:e8 K H a xs):e8 K H' a xs:=by
 rcases h with(h|⟨o,h⟩)|h
 .exact .inl (.inl (k _ _ p h))
 .exact .inl (.inr ⟨o,k _ _ p h⟩)
 .exact .inr h
section
variable{X:Cx}{pins:List (Addr×Obj)}{σ:St}{H:Hp}{s:Shared}
mutual
theorem Inv.reads {P:Addr->Prop}(I:Inv X pins σ H s):∀{v:V}{d:PyData}{u:Value},Dat X.K H P v d->RelV v u->∃as,Reads s.heap u d as
 |_,_,u,.cP,r=>by cases(show u=Value.none from r);exact⟨_,.none⟩
 |_,_,u,.bl b,r=>by cases(show u=Value.bool b from r);exact⟨_,.bool b⟩
 |_,_,u,.int i,r=>by obtain⟨t,rfl⟩:=(show∃t,u=Value.int i t from r);exact⟨_,.int i t⟩
 |_,_,u,.str x,r=>by obtain⟨t,rfl⟩:=(show∃t,u=Value.str x t from r);exact⟨_,.str x t⟩
 | .ref a,_,u,.lst h p rs,r=>by
  cases(show u=Value.ref a from r)
  obtain⟨its,rv,⟨o,n,e,c,_,d⟩,_⟩:=I.list h
  obtain⟨as,q⟩:=Inv.readsAll I rs rv
  exact⟨_,.list e c d (by simpa using q)⟩
 | .ref a,_,u,.tup h p rs,r=>by
  cases(show u=Value.ref a from r)
  obtain⟨its,rv,⟨o,e,c,n,d⟩,_⟩:=I.tuple h
  obtain⟨as,q⟩:=Inv.readsAll I rs rv
  exact⟨_,.tuple e c d (by simpa using q)⟩
theorem Inv.readsAll {P:Addr->Prop}(I:Inv X pins σ H s):∀{vs:List V}{ds:List PyData}{us:List Value},DatAll X.K H P vs ds->Vals vs us->∃as,ReadsAll s.heap us ds as
 |_,_,_,.nil,r=>by cases r;exact⟨_,.nil⟩
 |_,_,_,.cons h rs,r=>by
  cases r with
  |cons r1 r2=>
   obtain⟨as,q⟩:=Inv.reads I h r1
   obtain⟨bs,q'⟩:=Inv.readsAll I rs r2
   exact⟨_,.cons q q'⟩
end
def LO(K:W.Frag):R2:=fun x y H Q=>∃P dx dy,Dat K H P x dx/\Dat K H P y dy/\dx.canLay0=true/\dy.canLay0=true/\dx.depth<=60/\Q (.bl (PyData.eqv dx dy)) H
def IX(K:W.Frag):R2:=fun x y H Q=>∃P dx dy,Dat K H P x dx/\Dat K H P y dy/\dx.canLay0=true/\dy.canLay0=true/\dx.depth<=60/\Q (.bl (!PyData.eqv dx dy)) H
theorem Ji(hu:X.A.units+64<cLine):lg X (compareOp .Eq) (LO X.K):=by
 intro pins s σ H x y v u Q I rx ry h
 obtain⟨P,dx,dy,hx,hy,lx,ly,dd,q⟩:=h
 obtain⟨as,qa⟩:=I.reads hx rx
 obtain⟨bs,qb⟩:=I.reads hy ry
 exact SeqAt.compareEq_reads qa qb lx ly (by lia) ⟨.bl _,H,I,rfl,q⟩
theorem J9(hu:X.A.units+64<cLine):lg X (compareOp .NotEq) (IX X.K):=by
 intro pins s σ H x y v u Q I rx ry h
 obtain⟨P,dx,dy,hx,hy,lx,ly,dd,q⟩:=h
 obtain⟨as,qa⟩:=I.reads hx rx
 obtain⟨bs,qb⟩:=I.reads hy ry
 exact SeqAt.compareNe_reads qa qb lx ly (by lia) ⟨.bl _,H,I,rfl,q⟩
def Jd:List V->Hp->VK->Prop:=fun xs H Q=>(∃j,xs=[.int j]/\∀p,H p=none->Q (.ref p) (upd H p (.yS 0 j)))\/∃i j,xs=[.int i,.int j]/\∀p,H p=none->Q (.ref p) (upd H p (.yS i j))
theorem rA:cq X (.type "range") Jd:=by
 intro pins s σ H xs us Q I r h
 rcases h with⟨j,rfl,q⟩|⟨i,j,rfl,q⟩
 .obtain⟨u,rfl,t,rfl⟩:=vals1 r
  refine call_range_1 ⟨.ref s.heap.objs.size,_,I.laid (o:= .yS 0 j) (fun b o e=>Heap.get?_push_of_some _ e) (Nat.le_refl _) ⟨_,_,_,Heap.get?_push_size _ rfl⟩,rfl,q _ (I.aY.fresh (Nat.le_refl _))⟩
 .obtain⟨u,u',rfl,⟨t,rfl⟩,⟨t',rfl⟩⟩:=vals2 r
  refine call_range_2 ⟨.ref s.heap.objs.size,_,I.laid (o:= .yS i j) (fun b o e=>Heap.get?_push_of_some _ e) (Nat.le_refl _) ⟨_,_,_,Heap.get?_push_size _ rfl⟩,rfl,q _ (I.aY.fresh (Nat.le_refl _))⟩
def bP(lo hi:Int):List Int:=(List.range (hi-lo).toNat).map fun(i:Nat)=>lo+(i:Int)
theorem aJ(lo hi:Int):(bP lo hi).length=(hi-lo).toNat:=by simp[bP]
theorem qv{lo:Int}{n:Nat}{acc:Array Value}(h:ItemsOf (fun i v=>∃t,v= .int (lo+i*1) t) acc n):Vals (((List.range n).map fun(i:Nat)=>lo+(i:Int)).map V.int) acc.toList:=by
 obtain⟨h1,h2⟩:=h
 have key:∀(l:List Value)(k:Nat),(∀(j:Nat)(v:Value),l[j]?=some v->∃t,v=Value.int (lo+((k+j:Nat):Int)*1) t)->Vals ((List.range' k l.length).map fun(i:Nat)=>V.int (lo+(i:Int))) l:=by
  intro l
  induction l with
  |nil=>intro k _;exact .nil
  |cons v r ih=>
   intro k hk
   rw[N3,List.range'_succ,N4]
   refine .cons ?_ (ih (k+1) fun j v hj=>?_)
   .obtain⟨t,e⟩:=hk 0 v rfl
    refine⟨t,?_⟩
    rw[e];simp
   .obtain⟨t,e⟩:=hk (j+1) v (by simpa using hj)
    refine⟨t,?_⟩
    rw[e]
    congr 2
    simp
    lia
 have:=key acc.toList 0 fun j v hj=>by
  have:=h2 j v (by simpa using hj)
  simpa using this
 rw[N7]
 rw[List.range_eq_range']
 have e:acc.toList.length=n:=by simpa using h1
 rw[e]at this
 exact this
theorem wO{i j:Int}:Builtin.Range.rangeSize i j 1=(((j-i).toNat:Nat):Int):=by
 rw[rangeSize_one];split<;>lia
def Ei:List V->Hp->VK->Prop:=fun xs H Q=>∃p i j,xs=[.ref p]/\H p=some (.yS i j)/\-1000000<=i/\i<=1000000/\-1000000<=j/\j<=1000000/\∀l,H l=none->Q (.ref l) (upd H l (.lst ((bP i j).map V.int)))
theorem size_le{i j:Int}(h1: -1000000<=i)(h2:i<=1000000)(h3: -1000000<=j)(h4:j<=1000000):(j-i).toNat<=2^24:=by
 have:(j-i).toNat<=2000000:=by lia
 exact Nat.le_trans this (by decide)
theorem sN(hc:X.calm=true):cq X (.type "list") Ei:=by
 intro pins s σ H xs us Q I r h
 obtain⟨p,i,j,rfl,hp,h1,h2,h3,h4,q⟩:=h
 obtain⟨u,rfl,rx⟩:=vals1 r
 cases rx
 obtain⟨t,t',t'',e⟩:=(show bN X.prog X.w H s.heap p (.yS i j)from I.aY p _ hp)
 refine call_list_range (I.ok.hd hc) e (small_one (by lia) (by lia) (by lia) (by lia)) wO (size_le h1 h2 h3 h4) fun h' tk acc' c' k e' it=>?_
 have v:=qv it
 refine⟨.ref s.heap.objs.size,_,I.laid (o:= .lst ((bP i j).map V.int)) k (Nat.le_refl _) ⟨?_,acc'.toList,c',v,by simpa using e'⟩,rfl,q _ (I.aY.fresh (Nat.le_refl _))⟩
 rw[NY,aJ]
 exact Nat.le_trans (size_le h1 h2 h3 h4) (by decide)
end
section
variable{prog:Program}{w:World}{A:Around}{E:Value->Shared->Prop}{s:Shared}
theorem sO{Q:List Value->Shared->Prop}{r:Addr}{a b c:Int}{t u v:Tok}{n:Nat}(hh:A.handled=none)(hr:IsRange s.heap r a b c t u v)(hsmall:Builtin.Range.small a b c=true)
  (hn:Builtin.Range.rangeSize a b c=n) (hlen:n<=2^24)
  (hQ:∀h' tk acc,(∀b o,s.heap.get? b=some o->h'.get? b=some o)->ItemsOf (fun i v=>∃t,v= .int (a+i*c) t) acc n->Q acc.toList {s with heap:=h',toks:=tk}):
  wpAny (model prog w) A (collect (.ref r)) Q E s:=by
 unfold collect
 refine wpAny_bind (wpAny_runValue (codeAny_builtin F.entry_proto_collect ?_))
 rw[Around.under_plainId F.plain_proto_collect _]
 show wpAny _ A.in1 (newList []>>=fun l=>again (.builtin "list.__iadd__" ⟨[l,.ref r],[]⟩)) _ _ s
 refine wpAny_bind (wpAny_newObj_type ?_)
 refine wpAny_pure ⟨plainId_quiet F.plain_list_iadd _,codeAny_builtin F.entry_list_iadd ?_⟩
 rw[Around.under_plainId F.plain_list_iadd _]
 show wpAny _ A.in1 (Builtin.List.listExtendWith (.ref s.heap.objs.size) (.ref r) (.ref s.heap.objs.size)) _ _ _
 have hS:(s.heap.push {cls:= .type "list",data:= .seq ([]:List Value).toArray}).get? s.heap.objs.size=some {cls:= .type "list",data:= .seq #[] 0}:=Heap.get?_push_size _ rfl
 have fin':∀(h':Heap)(tk:Nat)(acc':Array Value)(c':Nat),(∀b o,b≠s.heap.objs.size->(s.heap.push {cls:= .type "list",data:= .seq ([]:List Value).toArray}).get? b=some o->h'.get? b=some o)->
   h'.get? s.heap.objs.size=some {cls:= .type "list",dict:=none,data:= .seq acc' c',slots:= #[]}->ItemsOf (fun i v=>∃t,v= .int (a+i*c) t) acc' n->wpAny (model prog w) A (match Value.ref s.heap.objs.size with
   |Value.ref a=>do
    match(←load a).data with
     |Data.seq xs _=>pure xs.toList
     |_=>unsupported "internal:collect"
   |_=>unsupported "internal:collect") Q E {s with heap:=h',toks:=tk}:=fun h' tk acc' c' hk hS' hacc=>by
  show wpAny _ A (load s.heap.objs.size>>=_) _ _ _
  refine wpAny_bind (wpAny_load hS' ?_)
  exact wpAny_pure (hQ h' tk acc' (fun b o e=>hk b o (Nat.ne_of_lt (Heap.lt_size e)) (Heap.get?_push_of_some _ e)) hacc)
 refine wpAny_mono (wpAny_extend_range (A:=A) (R:=fun r s'=>r= .ok (.ret (.ref s.heap.objs.size))/\wpAny (model prog w) A (match Value.ref s.heap.objs.size with
   |Value.ref a=>do
    match(←load a).data with
     |Data.seq xs _=>pure xs.toList
     |_=>unsupported "internal:collect"
   |_=>unsupported "internal:collect") Q E s') (s:={s with heap:=s.heap.push {cls:= .type "list",data:= .seq ([]:List Value).toArray}}) hh (Heap.get?_push_of_some _ hr) hsmall hn hlen _ (.ref s.heap.objs.size) 0 hS fun h' tk acc' c' hk hS' hacc=>⟨rfl,fin' h' tk acc' c' hk hS' hacc⟩) (fun fin s' h=>?_) (fun e s' h=>?_)
 .cases fin with
  |done f=>
   obtain⟨e,q⟩:=h
   cases e
   exact q
  |again c'=>exact⟨h.1,codeAny_mono h.2 fun r s'' hr=>by obtain⟨rfl,q⟩:=hr;exact q⟩
 .exact absurd h.1 (by simp)
theorem jK{r:Addr}{a b c:Int}{t u v:Tok}{n:Nat}(hsmall:Builtin.Range.small a b c=true)(hn:Builtin.Range.rangeSize a b c=n)(hlen:n<=2^24):
  Meets (Builtin.«tuple.__new__» ⟨[.type "tuple",.ref r],[]⟩)
   (fun A R s=>A.handled=none/\IsRange s.heap r a b c t u v/\∀(h':Heap)(tk:Nat)(acc:Array Value),(∀b o,s.heap.get? b=some o->h'.get? b=some o)->ItemsOf (fun i v=>∃t,v= .int (a+i*c) t) acc n->
    R (.ok (.ret (.ref h'.objs.size))) {s with heap:=h'.push {cls:= .type "tuple",data:= .seq acc},toks:=tk}):=
 .of_wp fun prog w A R s h=>by
  obtain⟨hp,g,d,tk,os⟩:=s
  obtain⟨hh,hr,h⟩:=h
  have hsub:=sub_tuple_self
  have hinit:=init_tuple_lookup
  have hmh:=madeHere_tuple
  have hT:Shared.TypeIs ⟨hp,g,d,tk,os⟩ (.ref r) "range" :=⟨_,hr,rfl⟩
  have hh1:A.in1.handled=none:=hh
  wp_walk using wpAny_typeOf hT,sO hh1 hr hsmall hn hlen
  intro h' tk acc hk hacc
  have hsz:acc.size<=sizeLine:=by rw[hacc.1];exact Nat.le_trans hlen (by decide)
  show wpAny _ _ (Builtin.Tuple.tupleExact acc.toList.toArray>>=fun v=>ret v) _ _ _
  unfold Builtin.Tuple.tupleExact
  refine wpAny_bind (wpAny_newObj_type ?_ (show acc.toList.toArray.size<=sizeLine by simpa using hsz))
  refine wpAny_pure ⟨_,rfl,?_⟩
  have e:acc.toList.toArray=acc:=by simp
  rw[e]
  exact h h' tk acc hk hacc
theorem oH{Q:Value->Shared->Prop}{r:Addr}{a b c:Int}{t u v:Tok}{n:Nat}(hh:A.handled=none)(hr:IsRange s.heap r a b c t u v)(hsmall:Builtin.Range.small a b c=true)
  (hn:Builtin.Range.rangeSize a b c=n) (hlen:n<=2^24)
  (h:∀(h':Heap)(tk:Nat)(acc:Array Value),(∀b o,s.heap.get? b=some o->h'.get? b=some o)->ItemsOf (fun i v=>∃t,v= .int (a+i*c) t) acc n->Q (.ref h'.objs.size) {s with heap:=h'.push {cls:= .type "tuple",data:= .seq acc},toks:=tk}):
  wpAny (model prog w) A (call (.type "tuple") [.ref r]) Q E s:=by
 refine callType_new F.called_tuple (by decide) (F.typeCall_tuple_1 _) (F.newCall_tuple_1 _) (fun obj=>F.args_object_init_2 obj _) F.entry_tuple_new
  (jK hsmall hn hlen) ⟨hh,hr,fun h' tk acc hk hacc=>⟨⟨_,Heap.get?_push_size _ rfl,rfl⟩,?_⟩⟩
 exact h h' tk acc hk hacc
end
section
variable{X:Cx}
def Fj:List V->Hp->VK->Prop:=fun xs H Q=>∃p i j,xs=[.ref p]/\H p=some (.yS i j)/\-1000000<=i/\i<=1000000/\-1000000<=j/\j<=1000000/\∀l,H l=none->Q (.ref l) (upd H l (.tup ((bP i j).map V.int)))
theorem qq(hc:X.calm=true):cq X (.type "tuple") Fj:=by
 intro pins s σ H xs us Q I r h
 obtain⟨p,i,j,rfl,hp,h1,h2,h3,h4,q⟩:=h
 obtain⟨u,rfl,rx⟩:=vals1 r
 cases rx
 obtain⟨t,t',t'',e⟩:=(show bN X.prog X.w H s.heap p (.yS i j)from I.aY p _ hp)
 refine oH (I.ok.hd hc) e (small_one (by lia) (by lia) (by lia) (by lia)) wO (size_le h1 h2 h3 h4) fun h' tk acc k it=>?_
 have v:=qv it
 have I1:Inv X pins σ H {s with heap:=h',toks:=tk}:=I.kept k
 refine⟨.ref h'.objs.size,_,I1.laid (t':=tk) (o:= .tup ((bP i j).map V.int)) (fun b o e=>Heap.get?_push_of_some _ e) (Nat.le_refl _) ⟨?_,acc.toList,v,by simpa using IsTup.new h' acc⟩,rfl,q _ (I1.aY.fresh (Nat.le_refl _))⟩
 rw[NY,aJ]
 exact Nat.le_trans (size_le h1 h2 h3 h4) (by decide)
def Ky(K:W.Frag)(x:V)(H:Hp)(T:String):Prop:=lY K H x (.type T)
def K5(K:W.Frag):List V->Hp->VK->Prop:=fun xs H Q=>∃x T C b,xs=[x,.ty C]/\Ky K x H T/\W.kitOne K (.type T) (.type C)=some b/\Q (.bl b) H
theorem DV:cq X (.builtin "isinstance") (K5 X.K):=by
 intro pins s σ H xs us Q I r h
 obtain⟨x,T,C,b,rfl,ty,e,q⟩:=h
 obtain⟨u,w',rfl,rx,ry⟩:=vals2 r
 cases(show w'=Value.type C from ry)
 exact Bl I rx ty e fun tk=>⟨.bl b,H,I.tok _,rfl,q⟩
theorem Ct(K:W.Frag)(T:String):W.kitOne K (.type T) (.type T)=some true:=by
 unfold W.kitOne
 rw[if_pos (beq_self_eq_true _)]
def LI(K:W.Frag):List V->Hp->VK->Prop:=fun xs H Q=>∃(p:Addr)(bs:List Bool),xs=[.ref p]/\aC K H p (bs.map V.bl)/\Q (.bl (bs.all id)) H
theorem iT:∀{bs:List Bool}{us:List Value},Vals (bs.map V.bl) us->us=bs.map Value.bool
 |[],us,r=>by cases r;rfl
 |b::r,us,h=>by
  cases h with
  |cons h1 h2=>
   rw[N4,←iT h2]
   rw[show _=Value.bool b from h1]
theorem Eh(hc:X.calm=true):cq X (.builtin "all") (LI X.K):=by
 intro pins s σ H xs us Q I r h
 obtain⟨p,bs,rfl,hl,q⟩:=h
 obtain⟨u,rfl,rx⟩:=vals1 r
 cases rx
 obtain⟨its,rv,pl,hz⟩:=I.list hl
 have e:=iT rv
 subst e
 refine call_all_walk (wpAny_pyIter_list pl.isList ?_)
 have lt:p<s.heap.objs.size:=by obtain⟨o,n,e,_⟩:=pl;exact Heap.lt_size e
 refine⟨s.heap.objs.size,_,_,_,_,_,fun i=>bs.getD i true,rfl,Walks.list (A:=X.A.in1) (show X.A.in1.handled=none from I.ok.hd hc) s.heap.objs.size p (Nat.ne_of_lt lt) (bs.map Value.bool).toArray,?_,?_,?_⟩
 .refine⟨⟨_,Heap.get?_push_size _ rfl,rfl,rfl⟩,pl.isList.at fun o e=>Heap.get?_push_of_some _ e⟩
 .intro i v s' Q' E' hP hQ'
  have hP:(bs.map Value.bool).toArray[i]?=some v:=hP
  have:(bs.map Value.bool)[i]?=some v:=by simpa using hP
  rw[NZ]at this
  cases hb:bs[i]? with
  |none=>rw[hb]at this;cases this
  |some b=>
   rw[hb]at this
   cases this
   have hg:bs.getD i true=b:=by rw[N8,hb];rfl
   have hQ':Q' (bs.getD i true) s':=hQ'
   rw[hg]at hQ'
   exact wpAny_truthy_bool hQ'
 .intro h' tk hk
  have e:(List.range (bs.map Value.bool).toArray.size).all (fun i=>bs.getD i true)=bs.all id:=by
   have:∀(l:List Bool),(List.range l.length).all (fun i=>l.getD i true)=l.all id:=by
    intro l
    induction l with
    |nil=>rfl
    |cons b r ih=>
     rw[N3,List.range_succ_eq_map,List.all_cons,List.all_cons,List.all_map]
     rw[←ih]
     rfl
   simpa using this bs
  rw[e]
  refine⟨.bl (bs.all id),H,?_,rfl,q⟩
  refine(I.kept (t':=s.toks) (h':=h') fun b o e=>hk b o ?_ (Heap.get?_push_of_some _ e)).tok tk
  intro z
  have z:b=s.heap.objs.size:=by simpa using z
  exact absurd (Heap.lt_size e) (by rw[z];exact Nat.lt_irrefl _)
def LM(K:W.Frag)(te:TE):TE:=fun σ H Q=>te σ H fun x H1=>∃a xs,x= .ref a/\aC K H1 a xs/\∀p,H1 p=none->Q (.ref p) (upd H1 p (.lst xs.reverse))
theorem E3{e:Expr}{te:TE}{j:Nat}{pu p1 p2 pos:Pos}(he:PE X e te):PE X (.Subscript e (.Slice none none (some (.UnaryOp .USub (.Constant (.int 1) j p1) pu)) p2) pos) (LM X.K te):=by
 intro pins s σ H Q I h
 refine Subscript_ (aW (he pins s σ H _ I h) fun v s1 ⟨x,H1,I1,r1,a,xs,ex,hx,q⟩=>?_)
 subst ex
 cases r1
 refine wpAny_Slice (by
  rw[evalPart_none]
  refine wpAny_pure ?_
  refine wpAny_pure ?_
  rw[evalPart_some]
  refine UnaryOp_ (wpAny_Constant_int (neg_int ?_))
  obtain⟨its,rv,pl,hz⟩:=I1.list hx
  have hlen:=rv.length
  have I2:Inv X pins σ H1 {s1 with toks:=s1.toks+1+1}:=I1.tok _
  have I4:Inv X pins σ H1 {s1 with heap:=s1.heap.push {cls:= .type "slice",data:= .fields #[.none,.none,.int (-1) (s1.toks+1)]},toks:=s1.toks+1+1}:=I2.kept fun b ob q=>Heap.get?_push_of_some _ q
  have hl4:=pl.isList.at (h':=s1.heap.push {cls:= .type "slice",data:= .fields #[.none,.none,.int (-1) (s1.toks+1)]}) fun o e=>Heap.get?_push_of_some _ e
  show wpAny (model X.prog X.w) X.A (subscriptTail e (.Slice none none (some (.UnaryOp .USub (.Constant (.int 1) j p1) pu)) p2) (.ref a) (.ref s1.heap.objs.size)) (EP X pins σ Q) X.xe {s1 with heap:=s1.heap.push {cls:= .type "slice",data:= .fields #[.none,.none,.int (-1) (s1.toks+1)]},toks:=s1.toks+1+1}
  refine tail_any (ops:=[.ref a,.ref s1.heap.objs.size]) hl4.typeIs slot_list_getitem.lookup ?_ (by with_unfolding_all rfl)
  refine wpAny_getItem_list_slice hl4 (Heap.IsSliceOf.new ..) .none .none (.int (-1) _) (by decide) ?_ (by rw[List.size_toArray]<;>lia)
  rw[W.krv_pick]
  refine⟨.ref _,_,I4.laid (t':=_) (o:= .lst xs.reverse) (fun b ob q=>Heap.get?_push_of_some _ q) (Nat.le_refl _) ?_,rfl,q _ (I4.aY.fresh (Nat.le_refl _))⟩
  have e5:its.toArray.toList=its:=by simp
  refine⟨by rw[List.length_reverse];exact hz,its.reverse,0,rv.reverse,?_⟩
  rw[e5]
  exact Heap.get?_push_size _ rfl)
end
structure FnAt(P:Program)(w:World)(K:W.Frag)(mg:Str->Option Value)(base:Heap)(x:Str)(k:Nat)(ps:List Str)(sp:Sp):Prop where
 ex:∃(f:Addr)(fd:FuncData),aR P w K mg base hZ k f fd ps sp/\mg x=some (.ref f)/\W.keepIn K (.ref f)=true/\Binds K fd ps []
section
variable{X:Cx}{x:Str}{k:Nat}{ps:List Str}{sp:Sp}{e:Expr}{es:List Expr}{t:TA}{p pos:Pos}
theorem au(F:FnAt X.prog X.w X.K X.mg X.base x k ps sp)(hr:cK k X.A)(hg:Gl X x)(ha:PA X (e::es) t)(hdb:(x==("__debug__" :Str))=false:=by decide+kernel)(he:starEach (e::es) X.env=(false,eval e X.env)::starEach es X.env:=by rfl)(hpl:(backTo pos (starEach es X.env)).any (·.1)=false:=by rfl):
  PE X (.Call (.Name x p) (e::es) [] pos) (rJ sp [] E0 t):=by
 obtain⟨f,fd,F,hm,hk,hb⟩:=F.ex
 exact zL F hr hg hm hk hb .nil Hf ha hdb he hpl
def Le(i j:Int):Prop:=0<j/\j<2^200
theorem log2_lt{j:Int}(h:0<j)(h2:j<2^200):j.natAbs.log2<9000:=by
 have h3:j.natAbs<2^200:=by
  have e:((j.natAbs:Nat):Int)=j:=Int.natAbs_of_nonneg (Int.le_of_lt h)
  have:((j.natAbs:Nat):Int)<((2^200:Nat):Int):=by rw[e];simpa using h2
  exact Int.ofNat_lt.mp this
 have h0:j.natAbs≠0:=by lia
 have:=(Nat.log2_lt h0).mpr h3
 lia
theorem mK:lg X (binaryOp .FloorDiv) (rI Le fun i j=> .int (i/j)):=Mh fun i j _ _ _ _ _ hc q=>by
 refine floordiv_int (by have:=hc.1;lia) ?_ (.inl (PyProof.noPylong_of_log2 (log2_lt hc.1 hc.2)))
 rw[Int.fdiv_eq_ediv_of_nonneg _ (Int.le_of_lt hc.1)]
 exact q
end
def Lo(XN N:List Str)(ix:List (Option Nat))(names:List (Str×NameKind)):Bool:=
 (List.range ix.length).all fun j=>match ix[j]? with
  |some (some i)=>match N[j]? with
   |some x=>XN[i]?==some x&&names.lookup x==some .free
   |none=>false
  |_=>true
theorem JJ{XN N:List Str}{ix:List (Option Nat)}{names:List (Str×NameKind)}(h:Lo XN N ix names=true):
  ∀(j i:Nat),ix[j]?=some (some i)->∃x:Str,N[j]?=some x/\XN[i]?=some x/\names.lookup x=some .free/\(x,NameKind.free)∈names:=by
 intro j i e
 have hj:j<ix.length:=(List.getElem?_eq_some_iff.mp e).1
 have q:=List.all_eq_true.mp h j (List.mem_range.mpr hj)
 rw[e]at q
 dsimp only at q
 cases hn:N[j]? with
 |none=>rw[hn]at q;cases q
 |some x=>
  rw[hn]at q
  dsimp only at q
  obtain⟨q1,q2⟩:=Bool.and_eq_true_iff.mp q
  have q1:XN[i]?=some x:=by simpa using q1
  have q2:names.lookup x=some NameKind.free:=by
   cases hl:names.lookup x with
   |none=>rw[hl]at q2;cases q2
   |some k=>rw[hl]at q2;cases k<;>first|rfl|cases q2
  exact⟨x,rfl,q1,q2,mem_of_lookup q2⟩
def bD(p:Addr)(H H':Hp):Prop:=∀b o,b≠p->H b=some o->H' b=some o
theorem bD.trans {p:Addr}{H H1 H2:Hp}(a:bD p H H1)(b:bD p H1 H2):bD p H H2:=fun c o n h=>b c o n (a c o n h)
theorem ag.x {p:Addr}{H H':Hp}(a:ag H H'):bD p H H':=fun c o _ h=>a c o h
theorem bD.upd {p:Addr}{H:Hp}{o:HO}:bD p H (upd H p o):=fun c o n h=>by rw[ao n];exact h
theorem ag.new {p:Addr}{H:Hp}{o:HO}(h:H p=none):ag H (upd H p o):=fun c o e=>by rw[ao (aj e h)];exact e
theorem bD.new {p q:Addr}{H:Hp}{o:HO}(h:H q=none):bD p H (L2.upd H q o):=(ag.new h).x
theorem Cp{ix:List (Option Nat)}{g:TG}{tc:TT}{te:TE}{σ:St}{Q:VK}{J:It}{H:Hp}{n:Nat}(Pv:Nat->List V->St->Hp->Prop)(hn:n<=1000000)(h0:Pv 0 [] (dC ix σ) H)
  (hgo:∀i ys σ H,i<n->Pv i ys σ H->J.go i H) (hst:∀ys σ H,Pv n ys σ H->J.stop n H) (hlen:∀i ys σ H,Pv i ys σ H->ys.length<=i)
  (hs:∀i ys σ H x H2,i<n->Pv i ys σ H->J.JA i H x H2->g x σ H2 fun σ2 H3=>tc σ2 H3 fun b H4=>if b=true then te σ2 H4 fun v H5=>Pv (i+1) (ys++[v]) σ2 H5 else Pv (i+1) ys σ2 H4)
  (mg:∀x σ H R R',(∀σ2 H2,R σ2 H2->R' σ2 H2)->g x σ H R->g x σ H R') (mc:∀σ H(R R':Bool->Hp->Prop),(∀b H2,R b H2->R' b H2)->tc σ H R->tc σ H R') (me:∀σ H(R R':VK),(∀v H2,R v H2->R' v H2)->te σ H R->te σ H R')
  (hd:∀ys σ' H' p,Pv n ys σ' H'->H' p=none->Q (.ref p) (upd H' p (.lst ys))):hW ix g tc te σ Q J H:=by
 have big:(1000000:Nat)<sizeLine:=by decide
 refine⟨fun i m ys σ' H'=>m=n-i/\i<=n/\Pv i ys σ' H',⟨n,by simp,Nat.zero_le _,h0⟩,?_⟩
 rintro i m ys σ' H' ⟨rfl,hi,p⟩
 have hl:=hlen i ys σ' H' p
 by_cases hlt:i<n
 .refine .inr ⟨hgo i ys σ' H' hlt p,by lia,fun x H2 y=>?_⟩
  refine mg _ _ _ _ _ (fun σ2 H3 q=>?_) (hs i ys σ' H' x H2 hlt p y)
  refine mc _ _ _ _ (fun b H4 q=>?_) q
  cases b with
  |true=>
   rw[if_pos rfl]at q⊢
   exact me _ _ _ _ (fun v H5 q=>⟨n-(i+1),by lia,rfl,hlt,q⟩) q
  |false=>
   rw[if_neg Bool.false_ne_true]at q⊢
   exact⟨n-(i+1),by lia,rfl,hlt,q⟩
 .have e:i=n:=by lia
  subst e
  exact .inl ⟨hst ys σ' H' p,by lia,fun q hq=>hd ys σ' H' q p hq⟩
theorem BO{K:W.Frag}{ix:List (Option Nat)}{te:TE}{σ:St}{Q:VK}{H:Hp}{a:Addr}{xs:List V}{k:Nat}(Pv:Nat->List V->St->Hp->Prop)(hn:xs.length<=1000000)(h0:Pv 0 [] (dC ix σ) H)
  (hl:∀i ys σ H,i<=xs.length->Pv i ys σ H->aC K H a xs) (hlen:∀i ys σ H,Pv i ys σ H->ys.length<=i)
  (hs:∀i ys σ H x,xs[i]?=some x->Pv i ys σ H->te (σ.set k (some x)) H fun v H5=>Pv (i+1) (ys++[v]) (σ.set k (some x)) H5) (me:∀σ H(R R':VK),(∀v H2,R v H2->R' v H2)->te σ H R->te σ H R')
  (hd:∀ys σ' H' p,Pv xs.length ys σ' H'->H' p=none->Q (.ref p) (upd H' p (.lst ys))):hW ix (cF k) gT te σ Q (Fb K a) H:=by
 refine Cp Pv hn h0 (fun i ys σ H hi p=>⟨xs,xs[i],hl i ys σ H (Nat.le_of_lt hi) p,by simp[hi]⟩) (fun ys σ H p=>⟨xs,hl _ ys σ H (Nat.le_refl _) p,Nat.le_refl _⟩) hlen (fun i ys σ H x H2 hi p y=>?_) (fun _ _ _ _ _ m q=>m _ _ q) (fun _ _ _ _ m q=>m _ _ q) me hd
 obtain⟨rfl,y⟩:=y
 unfold cF gT
 simp only[if_true]
 exact hs i ys σ _ x (y xs (hl i ys σ _ (Nat.le_of_lt hi) p)) p
def HP(XS:List (Str×NameKind))(XN:List Str)(names:List (Str×NameKind))(N:List Str)(ix:List (Option Nat)):Bool:=
 names.all (fun y=>match y.2 with
  | .cell=>false
  | .local=>(match names.lookup y.1 with|some .local=>true|_=>false)
  | .free=>(match XS.lookup y.1 with|some .cell=>true|some .free=>true|_=>false)
  |_=>true)&&decide (ix.length=N.length)&&Lo XN N ix names
theorem bc{X:Cx}{scope:Scope}{N:List Str}{ix:List (Option Nat)}(hk:scope.kind= .function)(h:HP X.env.scope.names X.N scope.names N ix=true):eZ X scope N ix:=by
 unfold HP at h
 obtain⟨h,h3⟩:=Bool.and_eq_true_iff.mp h
 obtain⟨h1,h2⟩:=Bool.and_eq_true_iff.mp h
 have all:∀y∈scope.names,_:=fun y hy=>List.all_eq_true.mp h1 y hy
 refine⟨hk,fun y hy e=>?_,of_decide_eq_true h2,fun y hy e=>?_,fun y hy e=>?_,JJ h3⟩
 .have q:=all y hy
  rw[e]at q
  cases q
 .have q:=all y hy
  rw[e]at q
  dsimp only at q
  cases hl:scope.names.lookup y.1 with
  |none=>rw[hl]at q;cases q
  |some k=>rw[hl]at q;cases k<;>first|rfl|cases q
 .have q:=all y hy
  rw[e]at q
  dsimp only at q
  show X.env.scope.names.lookup y.1=_\/X.env.scope.names.lookup y.1=_
  cases hl:X.env.scope.names.lookup y.1 with
  |none=>rw[hl]at q;cases q
  |some k=>rw[hl]at q;cases k<;>first|exact .inl rfl|exact .inr rfl|cases q
section
variable{X:Cx}{K:W.Frag}
theorem gF(h:X.K=K):cq X (.builtin "isinstance") (K5 K):=by subst h;exact DV
theorem av(h:X.K=K):Kl X (yW K):=by subst h;exact EW
theorem kP(h:X.K=K):Kl X (LU K):=by subst h;exact ID
theorem aK(h:X.K=K):cq X (.builtin "len") (fun xs H Q=>∃p ys,xs=[.ref p]/\(aC K H p ys\/e8 K H p ys)/\Q (.int ys.length) H):=by subst h;exact uK
theorem nU(h:X.K=K)(hc:X.calm=true):cq X (.builtin "all") (LI K):=by subst h;exact Eh hc
theorem yy(h:X.K=K):lg X (compareOp .In) (Mg K false):=by subst h;exact Bu
theorem A0(h:X.K=K):lg X (compareOp .NotIn) (Mg K true):=by subst h;exact ux
theorem aT{tg l:Expr}{tl:TE}(h:X.K=K)(hl:PE X l tl):PI X tg l (HG K tl):=by subst h;exact FQ hl
theorem Ae{tg l:Expr}{tl:TE}(h:X.K=K)(hl:PE X l tl):PI X tg l (K3 K tl):=by subst h;exact J8 hl
theorem eD{es:List Expr}{k:Nat}{t:Ht}{n:Nat}{pos:Pos}(hk:X.K=K)(hc:X.calm=true)(h:KH X es t)
  (hn:(assignEach es X.env).length=n:=by rfl) (hst:(assignEach es X.env).findIdx? (·.1)=none:=by rfl):PG X (.Tuple es k pos) (GC K n t):=by subst hk;exact JL hc h hn hst
end
end L2
namespace Sw
open PySem L2
inductive dB(H:Hp):List V->List (Int×Int)->Prop
 |nil:dB H [] []
 |cons {t:Addr} {a b:Int} {vs:List V} {r:List (Int×Int)}:H t=some (.tup [.int a,.int b])->dB H vs r->dB H (.ref t::vs) ((a,b)::r)
theorem dB.length {H:Hp}:∀{vs:List V}{r:List (Int×Int)},dB H vs r->vs.length=r.length
 |_,_,.nil=>rfl
 |_,_,.cons _ x=>by rw[N3,N3,x.length]
theorem dB.keep {H H':Hp}(k:∀b xs,H b=some (.tup xs)->H' b=some (.tup xs)):∀{vs:List V}{r:List (Int×Int)},dB H vs r->dB H' vs r
 |_,_,.nil=> .nil
 |_,_,.cons h x=> .cons (k _ _ h) (x.keep k)
theorem dB.append {H:Hp}:∀{vs ws:List V}{r q:List (Int×Int)},dB H vs r->dB H ws q->dB H (vs++ws) (r++q)
 |_,_,_,_,.nil,y=>y
 |_,_,_,_,.cons h x,y=> .cons h (x.append y)
theorem dB.snoc {H:Hp}{vs:List V}{r:List (Int×Int)}{t:Addr}{a b:Int}(x:dB H vs r)(h:H t=some (.tup [.int a,.int b])):dB H (vs++[.ref t]) (r++[(a,b)]):=x.append (.cons h .nil)
theorem dB.get {H:Hp}:∀{vs:List V}{r:List (Int×Int)}{i:Nat}{x:V},dB H vs r->vs[i]?=some x->∃t a b,x= .ref t/\H t=some (.tup [.int a,.int b])/\r[i]?=some (a,b)
 |_,_,_,_,.nil,e=>by simp at e
 |_,_,0,_,.cons h x,e=>by simp at e;subst e;exact⟨_,_,_,rfl,h,rfl⟩
 |_,_,i+1,_,.cons h x,e=>by
  obtain⟨t,a,b,e1,e2,e3⟩:=x.get (i:=i) (by simpa using e)
  exact⟨t,a,b,e1,e2,by simpa using e3⟩
theorem dB.dat {K:W.Frag}{H:Hp}:∀{vs:List V}{r:List (Int×Int)},dB H vs r->DatAll K H (fun _=>True) vs (r.map fun p=> .tuple [.int p.1,.int p.2])
 |_,_,.nil=> .nil
 |_,_,.cons h x=> .cons (.tup (e8.of h) True.intro (.cons (.int _) (.cons (.int _) .nil))) x.dat
theorem ag.cy {H H':Hp}(s:ag H H'):∀b xs,H b=some (.tup xs)->H' b=some (.tup xs):=fun b xs e=>s b _ e
theorem bD.cy {p:Addr}{H H':Hp}{ys:List V}(s:bD p H H')(hp:H p=some (.lst ys)):∀b xs,H b=some (.tup xs)->H' b=some (.tup xs):=fun b xs e=>s b _ (zS e hp (by intro z;cases z)) e
theorem rb{K:W.Frag}{H:Hp}{P:Addr->Prop}:∀(ns:List Int),DatAll K H P (ns.map V.int) (ns.map PyData.int)
 |[]=> .nil
 |n::r=> .cons (.int n) (rb r)
theorem lay_ints:∀(ns:List Int),PyData.canLayAll0 (ns.map PyData.int)=true
 |[]=>rfl
 |n::r=>by rw[N4];unfold PyData.canLayAll0;rw[lay_ints r];rfl
theorem ql:∀(ns:List Int),PyData.depthAll (ns.map PyData.int)=0
 |[]=>by simp[PyData.depthAll]
 |n::r=>by rw[N4];unfold PyData.depthAll;rw[ql r];simp[PyData.depth]
theorem xh:∀(ns ms:List Int),PyData.eqvAll (ns.map PyData.int) (ms.map PyData.int)=decide (ns=ms)
 |[],[]=>by simp[PyData.eqvAll]
 |[],m::r=>by simp[PyData.eqvAll]
 |n::r,[]=>by simp[PyData.eqvAll]
 |n::r,m::q=>by
  rw[N4,N4];unfold PyData.eqvAll;rw[xh r q]
  simp[PyData.eqv]
  by_cases h1:n=m<;>by_cases h2:r=q<;>simp[h1,h2]
theorem uL:∀(r:List (Int×Int)),PyData.canLayAll0 (r.map fun p=>PyData.tuple [.int p.1,.int p.2])=true
 |[]=>rfl
 |p::r=>by rw[N4];unfold PyData.canLayAll0;rw[uL r];rfl
theorem tF:∀(r:List (Int×Int)),PyData.depthAll (r.map fun p=>PyData.tuple [.int p.1,.int p.2])<=1
 |[]=>by simp[PyData.depthAll]
 |p::r=>by
  rw[N4];unfold PyData.depthAll
  have:=tF r
  simp[PyData.depth,PyData.depthAll];lia
theorem z5:∀(r q:List (Int×Int)),PyData.eqvAll (r.map fun p=>PyData.tuple [.int p.1,.int p.2]) (q.map fun p=>PyData.tuple [.int p.1,.int p.2])=decide (r=q)
 |[],[]=>by simp[PyData.eqvAll]
 |[],m::r=>by simp[PyData.eqvAll]
 |n::r,[]=>by simp[PyData.eqvAll]
 |(a,b)::r,(c,d)::q=>by
  rw[N4,N4];unfold PyData.eqvAll;rw[z5 r q]
  simp[PyData.eqv,PyData.eqvAll]
  by_cases h1:a=c<;>by_cases h2:b=d<;>by_cases h3:r=q<;>simp[h1,h2,h3]
theorem Ny{K:W.Frag}{H:Hp}{l m:Addr}{vs ws:List V}{r q:List (Int×Int)}{Q:VK}(h1:H l=some (.lst vs))(x1:dB H vs r)(h2:H m=some (.lst ws))(x2:dB H ws q)(hq:Q (.bl (!decide (r=q))) H):IX K (.ref l) (.ref m) H Q:=by
 refine⟨fun _=>True,.list (r.map fun p=>PyData.tuple [.int p.1,.int p.2]),.list (q.map fun p=>PyData.tuple [.int p.1,.int p.2]),.lst (aC.of h1) True.intro x1.dat,.lst (aC.of h2) True.intro x2.dat,?_,?_,?_,?_⟩
 .unfold PyData.canLay0;exact uL r
 .unfold PyData.canLay0;exact uL q
 .unfold PyData.depth;have:=tF r;lia
 .have e:PyData.eqv (.list (r.map fun p=>PyData.tuple [.int p.1,.int p.2])) (.list (q.map fun p=>PyData.tuple [.int p.1,.int p.2]))=decide (r=q):=by unfold PyData.eqv;exact z5 r q
  rw[e];exact hq
def bK(x:Int)(e:Int×Int):Int:=if x=e.1 then e.2 else if x=e.2 then e.1 else x
def go(row:List (Int×Int))(x:Int):Int:=row.foldl bK x
def bp(n:Int)(row:List (Int×Int)):List Int:=(bP 1 (n+1)).map (go row)
def Good(n:Int)(row:List (Int×Int)):Prop:=∀e∈row,1<=e.1/\e.1<e.2/\e.2<=n
theorem Good.append {n:Int}{r q:List (Int×Int)}(a:Good n r)(b:Good n q):Good n (r++q):=fun e h=>(List.mem_append.mp h).elim (a e) (b e)
theorem Good.reverse {n:Int}{r:List (Int×Int)}(a:Good n r):Good n r.reverse:=fun e h=>a e (List.mem_reverse.mp h)
theorem yG{n x:Int}{e:Int×Int}(h:1<=e.1/\e.1<e.2/\e.2<=n)(h1:1<=x)(h2:x<=n):1<=bK x e/\bK x e<=n:=by
 unfold bK;split
 .lia
 .split<;>lia
theorem pW(x:Int)(e:Int×Int):bK (bK x e) e=x:=by
 unfold bK
 by_cases h1:x=e.1
 .rw[if_pos h1]
  by_cases h2:e.2=e.1
  .rw[if_pos h2];lia
  .rw[if_neg h2,if_pos rfl];exact h1.symm
 .rw[if_neg h1]
  by_cases h2:x=e.2
  .rw[if_pos h2,if_pos rfl];exact h2.symm
  .rw[if_neg h2,if_neg h1,if_neg h2]
theorem Ci{n:Int}:∀{row:List (Int×Int)}{x:Int},Good n row->1<=x->x<=n->1<=go row x/\go row x<=n
 |[],_,_,h1,h2=>⟨h1,h2⟩
 |e::r,x,g,h1,h2=>by
  have h:=yG (g e List.mem_cons_self) h1 h2
  exact Ci (row:=r) (fun e h=>g e (List.mem_cons_of_mem _ h)) h.1 h.2
theorem oG(r q:List (Int×Int))(x:Int):go (r++q) x=go q (go r x):=by unfold go;rw[List.foldl_append]
theorem pX:∀(r:List (Int×Int))(x:Int),go r.reverse (go r x)=x
 |[],_=>rfl
 |e::r,x=>by
  rw[List.reverse_cons,oG]
  show go [e] (go r.reverse (go r (bK x e)))=x
  rw[pX r]
  exact pW x e
theorem Dy(r:List (Int×Int))(x:Int):go r (go r.reverse x)=x:=by
 have:=pX r.reverse x
 rwa [List.reverse_reverse]at this
theorem cg{lo hi x:Int}:x∈bP lo hi↔lo<=x/\x<hi:=by
 unfold bP
 rw[List.mem_map]
 constructor
 .rintro⟨i,h,rfl⟩
  have:=List.mem_range.mp h
  lia
 .intro h
  exact⟨(x-lo).toNat,List.mem_range.mpr (by lia),by lia⟩
theorem dt{lo hi:Int}{i:Nat}(h:i<(hi-lo).toNat):(bP lo hi)[i]?=some (lo+i):=by
 unfold bP
 rw[NZ,List.getElem?_range h]
 rfl
theorem Cn{n:Int}{row:List (Int×Int)}(g:Good n row){x:Int}(h:x∈bp n row):1<=x/\x<=n:=by
 obtain⟨y,hy,rfl⟩:=List.mem_map.mp h
 have:=cg.mp hy
 exact Ci g (by lia) (by lia)
theorem wa(n:Int):bp n []=bP 1 (n+1):=by
 unfold bp
 conv=>rhs;rw[←List.map_id (bP 1 (n+1))]
 apply List.map_congr_left
 intro x _
 rfl
end Sw
namespace L2
open PySem PySem.Spec PyProof.Rows
section
variable{X:Cx}{pins:List (Addr×Obj)}{σ:St}{H:Hp}{s:Shared}{h':Heap}
theorem Inv.AB {t':Nat}{fp:List Addr}(I:Inv X pins σ H s)(k:∀b o,b∉fp->s.heap.get? b=some o->h'.get? b=some o)(hf:∀b∈fp,j4 X pins H b):Inv X pins σ H {s with heap:=h',toks:=t'}:=by
 have nit:∀b u,H b=some u->b∉fp:=fun b u e z=>by rw[(hf b z).1]at e;cases e
 refine I.step (g':=s.gens) (d':=s.drawn) (ch:=fp) (fun b hb=>?_) (fun b o _ _ hc e _=>k b o hc e) (fun b o _ _ hc e _=>⟨o.slots,k b o hc e⟩) (fun _ _ _ _ n=>n)
  (fun b o hc e=>⟨o,k b o hc e⟩) (fun _ _ e=>e) (fun _ _ _ e=>e) (fun b ps e=>⟨#[],by rw[e];simp⟩) (fun m hm=>?_) (fun b u e=>?_) I.bare
 .obtain⟨f0,f1,f2,f3,f4,f5⟩:=hf b hb
  exact⟨f3,f1,f4,f5⟩
 .obtain⟨o,es,ep,ho,r⟩:=hm
  exact⟨o,es,ep,k _ o (fun z=>(hf _ z).2.1 rfl) ho,r⟩
 .refine(I.aY b u e).iF (fun c v hc q=>k c v ?_ q) (fun _ q=>q) fun _ _ q=>q
  rcases hc with z|z
  .rw[z];exact nit b u e
  .exact nit c _ z
theorem Inv.CL {T:Addr}{o:HO}(I:Inv X pins σ H s)(hf:j4 X pins H T)(new:bN X.prog X.w (upd H T o) s.heap T o):Inv X pins σ (upd H T o) s:=by
 obtain⟨f0,f1,f2,f3,f4,f5⟩:=hf
 have:=I.step (h':=s.heap) (H':=upd H T o) (g':=s.gens) (d':=s.drawn) (t':=s.toks) (ch:=[T]) (fun b hb=>by
  have e:b=T:=by simpa using hb
  subst e
  exact⟨f3,f1,f4,f5⟩) (fun b o _ _ _ e _=>e) (fun b o _ _ _ e _=>⟨o.slots,e⟩) (fun b o hc _ n=>by rw[ao (fun z=>hc (by simp[z]))];exact n)
  (fun b o _ e=>⟨o,e⟩) (fun b xs e=>by rw[ao (aj e f0)];exact e) (fun b o u e=>by rw[ao (aj e f0)];exact e) (fun b ps e=>⟨#[],by rw[ao (aj e f0),e];simp⟩) (fun m hm=>hm) (fun b u e=>?_) I.bare
 .exact this
 .by_cases hb:b=T
  .subst hb
   rw[ae]at e
   cases e
   exact new
  .rw[ao hb]at e
   refine(I.aY b u e).iF (fun _ _ _ q=>q) (fun c q=>?_) fun c xs q=>?_
   .rw[ao (aj q f0)];exact q
   .rw[ao (aj q f0)];exact q
end
theorem iY{ix:List (Option Nat)}{g:TG}{tc:TT}{te:TE}{σ:St}{Q:VK}{J:It}{H:Hp}{n:Nat}(Pv:Nat->List V->St->Hp->Prop)(hn:n<=1000000)(h0:Pv 0 [] (dC ix σ) H)
  (hgo:∀i ys σ H,i<n->Pv i ys σ H->J.go i H) (hst:∀ys σ H,Pv n ys σ H->J.stop n H) (hlen:∀i ys σ H,Pv i ys σ H->ys.length<=i)
  (hs:∀i ys σ H x H2(R:St->List V->Hp->Prop),i<n->Pv i ys σ H->J.JA i H x H2->(∀σ2 ys2 H5,Pv (i+1) ys2 σ2 H5->R σ2 ys2 H5)->
   g x σ H2 fun σ2 H3=>tc σ2 H3 fun b H4=>if b=true then te σ2 H4 fun v H5=>R σ2 (ys++[v]) H5 else R σ2 ys H4)
  (hd:∀ys σ' H' p,Pv n ys σ' H'->H' p=none->Q (.ref p) (upd H' p (.lst ys))):hW ix g tc te σ Q J H:=by
 have big:(1000000:Nat)<sizeLine:=by decide
 refine⟨fun i m ys σ' H'=>m=n-i/\i<=n/\Pv i ys σ' H',⟨n,by simp,Nat.zero_le _,h0⟩,?_⟩
 rintro i m ys σ' H' ⟨rfl,hi,p⟩
 have hl:=hlen i ys σ' H' p
 by_cases hlt:i<n
 .refine .inr ⟨hgo i ys σ' H' hlt p,by lia,fun x H2 y=>?_⟩
  exact hs i ys σ' H' x H2 (fun σ2 ys2 H5=>∃m',m'<n-i/\(m'=n-(i+1)/\i+1<=n/\Pv (i+1) ys2 σ2 H5)) hlt p y fun σ2 ys2 H5 q=>⟨n-(i+1),by lia,rfl,hlt,q⟩
 .have e:i=n:=by lia
  subst e
  exact .inl ⟨hst ys σ' H' p,by lia,fun q hq=>hd ys σ' H' q p hq⟩
theorem eF{K:W.Frag}{ix:List (Option Nat)}{te:TE}{σ:St}{Q:VK}{H:Hp}{a:Addr}{xs:List V}{k:Nat}(Pv:Nat->List V->St->Hp->Prop)(hn:xs.length<=1000000)(h0:Pv 0 [] (dC ix σ) H)
  (hl:∀i ys σ H,i<=xs.length->Pv i ys σ H->aC K H a xs) (hlen:∀i ys σ H,Pv i ys σ H->ys.length<=i)
  (hs:∀i ys σ H x(R:St->List V->Hp->Prop),xs[i]?=some x->Pv i ys σ H->(∀σ2 ys2 H5,Pv (i+1) ys2 σ2 H5->R σ2 ys2 H5)->te (σ.set k (some x)) H fun v H5=>R (σ.set k (some x)) (ys++[v]) H5)
  (hd:∀ys σ' H' p,Pv xs.length ys σ' H'->H' p=none->Q (.ref p) (upd H' p (.lst ys))):hW ix (cF k) gT te σ Q (Fb K a) H:=by
 refine iY Pv hn h0 (fun i ys σ H hi p=>⟨xs,xs[i],hl i ys σ H (Nat.le_of_lt hi) p,by simp[hi]⟩) (fun ys σ H p=>⟨xs,hl _ ys σ H (Nat.le_refl _) p,Nat.le_refl _⟩) hlen (fun i ys σ H x H2 R hi p y r=>?_) hd
 obtain⟨rfl,y⟩:=y
 unfold cF gT
 simp only[if_true]
 exact hs i ys σ _ x R (y xs (hl i ys σ _ (Nat.le_of_lt hi) p)) p r
theorem Ic{K:W.Frag}{ix:List (Option Nat)}{te:TE}{σ:St}{Q:VK}{H:Hp}{a:Addr}{xs:List V}{k:Nat}(Pv:Nat->List V->St->Hp->Prop)(hn:xs.length<=1000000)(h0:Pv 0 [] (dC ix σ) H)
  (hl:∀i ys σ H,i<=xs.length->Pv i ys σ H->e8 K H a xs) (hlen:∀i ys σ H,Pv i ys σ H->ys.length<=i)
  (hs:∀i ys σ H x(R:St->List V->Hp->Prop),xs[i]?=some x->Pv i ys σ H->(∀σ2 ys2 H5,Pv (i+1) ys2 σ2 H5->R σ2 ys2 H5)->te (σ.set k (some x)) H fun v H5=>R (σ.set k (some x)) (ys++[v]) H5)
  (hd:∀ys σ' H' p,Pv xs.length ys σ' H'->H' p=none->Q (.ref p) (upd H' p (.lst ys))):hW ix (cF k) gT te σ Q (M0 K a) H:=by
 refine iY Pv hn h0 (fun i ys σ H hi p=>⟨xs,xs[i],hl i ys σ H (Nat.le_of_lt hi) p,by simp[hi]⟩) (fun ys σ H p=>⟨xs,hl _ ys σ H (Nat.le_refl _) p,Nat.le_refl _⟩) hlen (fun i ys σ H x H2 R hi p y r=>?_) hd
 obtain⟨rfl,y⟩:=y
 unfold cF gT
 simp only[if_true]
 exact hs i ys σ _ x R (y xs (hl i ys σ _ (Nat.le_of_lt hi) p)) p r
theorem L7{ix:List (Option Nat)}{te:TE}{σ:St}{Q:VK}{H:Hp}{lo:Int}{n:Nat}{k:Nat}(Pv:Nat->List V->St->Hp->Prop)(hn:n<=1000000)(h0:Pv 0 [] (dC ix σ) H)(hlen:∀i ys σ H,Pv i ys σ H->ys.length<=i)
  (hs:∀i ys σ H(R:St->List V->Hp->Prop),i<n->Pv i ys σ H->(∀σ2 ys2 H5,Pv (i+1) ys2 σ2 H5->R σ2 ys2 H5)->te (σ.set k (some (.int (lo+i)))) H fun v H5=>R (σ.set k (some (.int (lo+i)))) (ys++[v]) H5)
  (hd:∀ys σ' H' p,Pv n ys σ' H'->H' p=none->Q (.ref p) (upd H' p (.lst ys))):hW ix (cF k) gT te σ Q (Hg lo n) H:=by
 refine iY Pv hn h0 (fun i ys σ H hi p=>hi) (fun ys σ H p=>Nat.le_refl _) hlen (fun i ys σ H x H2 R hi p y r=>?_) hd
 obtain⟨rfl,rfl⟩:=y
 unfold cF gT
 simp only[if_true]
 exact hs i ys σ _ R hi p r
theorem Fx{K:W.Frag}{ix:List (Option Nat)}{tc:TT}{te:TE}{σ:St}{Q:VK}{H:Hp}{a:Addr}{xs:List V}{k:Nat}(Pv:Nat->List V->St->Hp->Prop)(hn:xs.length<=1000000)(h0:Pv 0 [] (dC ix σ) H)
  (hl:∀i ys σ H,i<=xs.length->Pv i ys σ H->aC K H a xs) (hlen:∀i ys σ H,Pv i ys σ H->ys.length<=i)
  (hs:∀i ys σ H x(R:St->List V->Hp->Prop),xs[i]?=some x->Pv i ys σ H->(∀σ2 ys2 H5,Pv (i+1) ys2 σ2 H5->R σ2 ys2 H5)->
   tc (σ.set k (some x)) H fun b H4=>if b=true then te (σ.set k (some x)) H4 fun v H5=>R (σ.set k (some x)) (ys++[v]) H5 else R (σ.set k (some x)) ys H4)
  (hd:∀ys σ' H' p,Pv xs.length ys σ' H'->H' p=none->Q (.ref p) (upd H' p (.lst ys))):hW ix (cF k) tc te σ Q (Fb K a) H:=by
 refine iY Pv hn h0 (fun i ys σ H hi p=>⟨xs,xs[i],hl i ys σ H (Nat.le_of_lt hi) p,by simp[hi]⟩) (fun ys σ H p=>⟨xs,hl _ ys σ H (Nat.le_refl _) p,Nat.le_refl _⟩) hlen (fun i ys σ H x H2 R hi p y r=>?_) hd
 obtain⟨rfl,y⟩:=y
 unfold cF
 exact hs i ys σ _ x R (y xs (hl i ys σ _ (Nat.le_of_lt hi) p)) p r
section
variable{X:Cx}{K:W.Frag}{o e:Expr}{es:List Expr}{to:TE}{t:TA}{name:Str}{apos cpos:Pos}{T id:String}{r:V->List V->Hp->VK->Prop}
theorem pT(h:X.K=K)(pa:PlainAttrs T)(slot:Slot T name id)(hty:typeOf (.builtin id)=pure (.type "method_descriptor"))(hm:Bm X id r)(ho:PE X o to)
  (hbase:attributeBase o name X.env (eval o X.env)=eval o X.env:=by rfl) (hline:(apos.endLine==cpos.line)=true:=by rfl):PE X (.Call (.Attribute o name apos) [] [] cpos) (Lg K T r to):=by
 subst h;exact Jr pa slot hty hm ho hbase hline
theorem br(h:X.K=K)(pa:PlainAttrs T)(slot:Slot T name id)(hty:typeOf (.builtin id)=pure (.type "method_descriptor"))(hm:Bm X id r)(ho:PE X o to)(ha:PA X (e::es) t)
  (hbase:attributeBase o name X.env (eval o X.env)=eval o X.env:=by rfl)
  (hfew:((backTo cpos (starEach (e::es) X.env)).all (fun x=> !x.1)&&(backToKw cpos (keywordEach [] X.env)).all (fun x=>x.1.isSome)
   &&decide ((e::es).length+([]:List Keyword).length+(if([]:List Keyword).isEmpty then 0 else 1)<30))=true:=by rfl)
  (hline:(apos.endLine==cpos.line)=true:=by rfl) (hs:starEach (e::es) X.env=(false,eval e X.env)::starEach es X.env:=by rfl) (hplain:(backTo cpos (starEach es X.env)).any (·.1)=false:=by rfl):
  PE X (.Call (.Attribute o name apos) (e::es) [] cpos) (Nk K T r to t):=by
 subst h;exact KZ pa slot hty hm ho ha hbase hfew hline hs hplain
theorem gU(h:X.K=K):MI X (KP K):=by subst h;exact GH
end
end L2
namespace Sw
open PySem L2
theorem fg(a b:Int):(bP a b).Nodup:=by
 unfold bP
 refine List.Pairwise.map _ ?_ (List.nodup_range (n:=(b-a).toNat))
 intro x y h z
 apply h
 lia
def Ord(n:Int)(xs:List Int):Prop:=xs.Perm (bP 1 (n+1))
theorem Ord.length {n:Int}{xs:List Int}(o:Ord n xs):xs.length=n.toNat:=by
 rw[List.Perm.length_eq o,aJ];congr 1;lia
theorem Ord.mem {n:Int}{xs:List Int}(o:Ord n xs){x:Int}:x∈xs↔1<=x/\x<=n:=by
 rw[List.Perm.mem_iff o,cg];lia
theorem Ord.nodup {n:Int}{xs:List Int}(o:Ord n xs):xs.Nodup:=(List.Perm.nodup_iff o).mpr (fg _ _)
def Mq(xs:List Int)(x:Int):Int:=xs.getD ((xs.idxOf x+1)%xs.length) 0
theorem JE{xs:List Int}(nd:xs.Nodup){j:Nat}{x:Int}(h:xs[j]?=some x):Mq xs x=xs.getD ((j+1)%xs.length) 0:=by
 obtain⟨h1,rfl⟩:=List.getElem?_eq_some_iff.mp h
 unfold Mq
 rw[List.Nodup.idxOf_getElem nd]
theorem ud(n:Int):Ord n (bP 1 (n+1)):=List.Perm.refl _
end Sw
namespace L2
open PySem PySem.Spec PyProof.Rows
section
variable{X:Cx}{K:W.Frag}
theorem tW:∀{ns:List Int}{us:List Value},Vals (ns.map V.int) us->∃xs:List (Int×Tok),us=xs.map (fun p=>Value.int p.1 p.2)/\xs.map (·.1)=ns
 |[],us,r=>by cases r;exact⟨[],rfl,rfl⟩
 |n::ns,us,r=>by
  cases r with
  |cons r1 r2=>
   obtain⟨t,rfl⟩:=r1
   obtain⟨xs,rfl,e⟩:=tW r2
   exact⟨(n,t)::xs,rfl,by rw[N4,e]⟩
def Lv(K:W.Frag):List V->Hp->VK->Prop:=fun xs H Q=>∃(p:Addr)(ns:List Int)(M:Int),xs=[.ref p]/\aC K H p (ns.map V.int)/\M∈ns/\(∀a∈ns,M<=a)/\Q (.int M) H
theorem Bz(hc:X.calm=true)(hK:X.K=K):cq X (.builtin "min") (Lv K):=by
 subst hK
 intro pins s σ H xs us Q I r h
 obtain⟨p,ns,M,rfl,hl,hM,hm,q⟩:=h
 obtain⟨u,rfl,rx⟩:=vals1 r
 cases rx
 obtain⟨its,rv,pl,hz⟩:=I.list hl
 obtain⟨xs,rfl,e⟩:=tW rv
 have hpos:0<xs.length:=by
  rw[←NY (f:=(·.1)),e]
  exact List.length_pos_of_mem hM
 refine min_intList (l:=p) (xs:=xs.toArray) (I.ok.hd hc) ?_ (by simpa using hpos) fun v h' tk hv hk=>?_
 .have:=pl.isList
  unfold intItems
  simpa using this
 .have num:∀i,numAt xs.toArray i=ns.getD i 0:=by
   intro i
   unfold numAt
   rw[List.getElem?_toArray,←e,N8,NZ]
  obtain⟨b1,b2⟩:=argBest_lt (numAt xs.toArray) (xs.toArray.size-1)
  generalize argBest (fun i j=>decide (numAt xs.toArray i<numAt xs.toArray j)) (xs.toArray.size-1)=k at b1 b2 hv
  have lk:k<xs.length:=by simp at b1;lia
  have hv':v=Value.int xs[k].1 xs[k].2:=by
   unfold intItems at hv
   simp at hv
   rw[N1 lk]at hv
   obtain⟨a,b,h1,h2⟩:=hv
   have h1:=Option.some.inj h1
   rw[h1]
   exact h2.symm
  subst hv'
  have lx:xs.length=ns.length:=by rw[←e,NY]
  have ek:xs[k].1=ns[k]:=by
   have:(xs.map (·.1))[k]'(by rw[NY];exact lk)=ns[k]:=by simp only[e]
   simpa using this
  have eM:xs[k].1=M:=by
   rw[ek]
   refine Int.le_antisymm ?_ (hm _ (List.getElem_mem _))
   obtain⟨j,hj,ej⟩:=List.mem_iff_getElem.mp hM
   have:=b2 j (by simp;lia)
   rw[num,num]at this
   rw[←ej]
   rw[N8,N1 (by lia),N8,N1 hj]at this
   exact this
  rw[eM]
  refine⟨.int M,H,?_,⟨_,rfl⟩,q⟩
  exact(I.kept (t':=s.toks) (h':=h') fun b o e=>hk b o e).tok tk
end
section
variable{X:Cx}{K:W.Frag}
theorem ra:∀{ns:List Int}{us:List Value},Vals (ns.map V.int) us->IntsAre us ns
 |[],us,r=>by cases r;exact .nil
 |n::ns,us,r=>by
  cases r with
  |cons r1 r2=>
   obtain⟨t,rfl⟩:=r1
   exact .cons n t (ra r2)
theorem qe:∀{us:List Value}{ns:List Int},IntsAre us ns->Vals (ns.map V.int) us
 |_,_,.nil=> .nil
 |_,_,.cons n t r=> .cons ⟨t,rfl⟩ (qe r)
def LY(K:W.Frag):List V->Hp->VK->Prop:=fun xs H Q=>∃(p:Addr)(ns:List Int),xs=[.ref p]/\aC K H p (ns.map V.int)/\ns.length<64/\∀(l:Addr)(ns':List Int),H l=none->ns'.Perm ns->ns'.Pairwise (·<=·)->Q (.ref l) (upd H l (.lst (ns'.map V.int)))
theorem h7(hK:X.K=K):cq X (.builtin "sorted") (LY K):=by
 subst hK
 intro pins s σ H xs us Q I r h
 obtain⟨p,ns,rfl,hl,hz,q⟩:=h
 obtain⟨u,rfl,rx⟩:=vals1 r
 cases rx
 obtain⟨its,rv,pl,_⟩:=I.list hl
 have len:=rv.length
 rw[NY]at len
 refine sorted_ints pl.isList (ra rv) (by lia) fun out ns' ia pm pw=>?_
 obtain⟨e,he⟩:=sortedAll_at s.heap its out
 have lp:=pm.length_eq
 have big:(64:Nat)<=sizeLine:=by decide
 refine⟨.ref (s.heap.objs.size+1),_,I.laid (o:= .lst (ns'.map V.int)) (fun b u e=>sortedAll_old e) (Nat.le_succ _) ⟨by rw[NY];lia,out.toList,e,qe ia,by simpa using he⟩,rfl,q _ ns' (I.aY.fresh (Nat.le_succ _)) pm pw⟩
theorem lu{M:Model}{A:Around}{E:Value->Shared->Prop}{s:Shared}{pos:Pos}{id:String}{args:List (Bool×Sem Value)}{kws:List (Option Str×Sem Value)}{Q:Value->Shared->Prop}(hplain:args.any (·.1)=false)(hkw:kws.any (·.1.isNone)=false)
  (h:wpAny M A (evalArgs (.builtin id) true args kws) (fun a s₁=>wpAny M A (call (.builtin id) a.pos a.kw) Q E s₁) E s):wpAny M A (callWith pos (.builtin id) [] args kws) Q E s:=by
 unfold callWith
 refine wpAny_bind (wpAny_holding (wpAny_mono h (fun a s₁ h₁=>wpAny_bind (wpAny_standAt ?_)) fun _ _ x=>x))
 simp only[hplain,hkw,Bool.or_false]
 refine wpAny_bind (wpAny_pure ?_)
 exact wpAny_bind (wpAny_mono h₁ (fun r s₂ hr=>wpAny_bind (wpAny_holding (wpAny_point (wpAny_pure hr)))) fun _ _ x=>x)
def C9(K:W.Frag)(ta:TA):TE:=fun σ H Q=>ta σ H fun xs H1=>∃(p:Addr)(ns:List Int),xs=[.ref p]/\aC K H1 p (ns.map V.int)/\ns.length<64/\∀(l:Addr)(ns':List Int),H1 l=none->ns'.Perm ns->ns'.Pairwise (·≥·)->Q (.ref l) (upd H1 l (.lst (ns'.map V.int)))
theorem yL{e:Expr}{ta:TA}{p pos kpos cp:Pos}{j:Nat}(hK:X.K=K)(hg:Gl X "sorted")(hm:X.mg "sorted" =none)(ha:PA X [e] ta)
  (hs:starEach [e] X.env=[(false,eval e X.env)]:=by rfl):
  PE X (.Call (.Name "sorted" p) [e] [⟨some "reverse",.Constant (.bool true) j cp,kpos⟩] pos) (C9 K ta):=by
 subst hK
 intro pins s σ H Q I h
 refine wpAny_Call_Name_kw (kc I hg hm (by decide+kernel:bootBuiltins "sorted" =some (.builtin "sorted")) ?_ (by decide+kernel) (by decide+kernel))
 refine lu (by rw[hs];rfl) (by rfl) ?_
 have hb:backTo pos (starEach [e] X.env)=(false,eval e X.env)::[]:=by rw[hs];rfl
 have run:=ha pos pins s σ H _ I h
 rw[hb]at run⊢
 refine evalArgs_kwB (by rfl) (aW run fun us s1 ⟨vs,H1,I1,r1,a,ns,e1,hq,hz,hR⟩=>?_)
 subst e1
 obtain⟨u,rfl,ru⟩:=vals1 r1
 cases ru
 have kw:PK X [⟨some "reverse",.Constant (.bool true) j cp,kpos⟩] (kj (tC (.bl true)) u6):=E7 iK Ja
 refine aW (kw pos pins s1 σ H1 (fun vs H2=>vs=[.bl true]/\H2=H1) I1 ⟨rfl,rfl⟩) fun ws s2 ⟨zs,H2,I2,r2,e2,e3⟩=>?_
 subst e2 e3
 obtain⟨u,rfl,ru⟩:=vals1 r2
 cases ru
 obtain⟨its,rv,pl,_⟩:=I2.list hq
 have len:=rv.length
 rw[NY]at len
 refine sorted_ints_rev (b:=true) pl.isList (ra rv) (by lia) fun out ns' ia pm pw=>?_
 obtain⟨e,he⟩:=sortedAll_at s2.heap its out
 have lp:=pm.length_eq
 have big:(64:Nat)<=sizeLine:=by decide
 refine⟨.ref (s2.heap.objs.size+1),_,I2.laid (o:= .lst (ns'.map V.int)) (fun b u e=>sortedAll_old e) (Nat.le_succ _) ⟨by rw[NY];lia,out.toList,e,qe ia,by simpa using he⟩,rfl,hR _ ns' (I2.aY.fresh (Nat.le_succ _)) pm ?_⟩
 unfold Ordered at pw
 rwa [if_pos rfl]at pw
end
def dD(T C:String):Option Bool:=if(Value.type T==Value.type C)=true then some true else if W.kitMeta C=true then(fastBuiltinMro T).map (·.contains (Value.type C))else none
theorem aN(K:W.Frag){T C:String}{b:Bool}(h:dD T C=some b):W.kitOne K (.type T) (.type C)=some b:=h
theorem uC(K:W.Frag):W.kitOne K (.type "int") (.type "bool")=some false:=aN K (by decide+kernel)
end L2
namespace Sw
open PySem L2
def ld(xs:List Int)(x:Int):Int:=xs.getD (x-1).toNat 0
def eY(f:Int->Int):Nat->Int->Int
 |0,x=>x
 |k+1,x=>f (eY f k x)
theorem nj(f:Int->Int)(j:Nat)(x:Int):∀k,eY f (k+j) x=eY f k (eY f j x)
 |0=>by rw[Nat.zero_add];rfl
 |k+1=>by rw[Nat.succ_add];show f _=f _;rw[nj f j x k]
theorem n8{n:Int}{xs:List Int}(o:Ord n xs){x:Int}(h1:1<=x)(h2:x<=n):xs[(x-1).toNat]?=some (ld xs x):=by
 have:=o.length
 unfold ld
 rw[N8,N1 (by lia)]
 rfl
theorem Lc{n:Int}{xs:List Int}(o:Ord n xs){x:Int}(h1:1<=x)(h2:x<=n):1<=ld xs x/\ld xs x<=n:=o.mem.mp (N9 (n8 o h1 h2))
theorem IC{n:Int}{xs:List Int}(o:Ord n xs){x y:Int}(h1:1<=x)(h2:x<=n)(h3:1<=y)(h4:y<=n)(e:ld xs x=ld xs y):x=y:=by
 have a:=n8 o h1 h2
 have b:=n8 o h3 h4
 rw[e]at a
 obtain⟨p,pa⟩:=List.getElem?_eq_some_iff.mp a
 obtain⟨q,qa⟩:=List.getElem?_eq_some_iff.mp b
 have:=(List.getElem_inj (i:=(x-1).toNat) (j:=(y-1).toNat) (h₀:=p) (h₁:=q) o.nodup).mp (pa.trans qa.symm)
 lia
theorem dE{n:Int}{xs:List Int}(o:Ord n xs){x:Int}(h1:1<=x)(h2:x<=n):∀k,1<=eY (ld xs) k x/\eY (ld xs) k x<=n
 |0=>⟨h1,h2⟩
 |k+1=>Lc o (dE o h1 h2 k).1 (dE o h1 h2 k).2
theorem uO{n:Int}{xs:List Int}(o:Ord n xs){x y:Int}(h1:1<=x)(h2:x<=n)(h3:1<=y)(h4:y<=n):∀k,eY (ld xs) k x=eY (ld xs) k y->x=y
 |0,e=>e
 |k+1,e=>uO o h1 h2 h3 h4 k (IC o (dE o h1 h2 k).1 (dE o h1 h2 k).2 (dE o h3 h4 k).1 (dE o h3 h4 k).2 e)
theorem D8{n:Int}{xs:List Int}(o:Ord n xs){x:Int}(h1:1<=x)(h2:x<=n):∃k,k<n.toNat/\eY (ld xs) (k+1) x=x:=by
 apply Classical.byContradiction
 intro no
 have hne:∀i j,i<j->j<=n.toNat->eY (ld xs) i x≠eY (ld xs) j x:=by
  intro i j hij hj e
  apply no
  refine⟨j-i-1,by lia,?_⟩
  have e2:eY (ld xs) (i+(j-i)) x=eY (ld xs) i (eY (ld xs) (j-i) x):=nj _ _ _ _
  rw[show i+(j-i)=j by lia,←e]at e2
  have q:=dE o h1 h2 (j-i)
  have:=uO o h1 h2 q.1 q.2 i e2
  rw[show j-i-1+1=j-i by lia]
  exact this.symm
 have nd:((List.range (n.toNat+1)).map (fun k=>eY (ld xs) k x)).Nodup:=by
  rw[List.Nodup,List.pairwise_iff_getElem]
  intro i j hi hj hij
  simp only[List.getElem_map,List.getElem_range]
  simp at hj
  exact hne i j hij (by lia)
 have le:=List.Nodup.length_le_of_subset nd (l₂:=bP 1 (n+1)) (by
  intro y hy
  obtain⟨k,_,rfl⟩:=List.mem_map.mp hy
  have:=dE o h1 h2 k
  exact cg.mpr (by lia))
 rw[NY,List.length_range,aJ]at le
 lia
def hU(xs:List Int)(x:Int):Nat:=(List.range xs.length).findIdx (fun k=>eY (ld xs) (k+1) x==x)+1
def jJ(xs:List Int)(x:Int):List Int:=(List.range (hU xs x)).map fun k=>eY (ld xs) k x
theorem yd{n:Int}{xs:List Int}(o:Ord n xs){x:Int}(h1:1<=x)(h2:x<=n):hU xs x<=n.toNat:=by
 obtain⟨k,hk,e⟩:=D8 o h1 h2
 have:=List.findIdx_lt_length_of_exists (xs:=List.range xs.length) (p:=fun k=>eY (ld xs) (k+1) x==x) ⟨k,List.mem_range.mpr (by rw[o.length];exact hk),by simpa using e⟩
 rw[List.length_range,o.length]at this
 unfold hU
 rw[o.length]
 lia
theorem qk{n:Int}{xs:List Int}(o:Ord n xs){x:Int}(h1:1<=x)(h2:x<=n):eY (ld xs) (hU xs x) x=x:=by
 obtain⟨k,hk,e⟩:=D8 o h1 h2
 have lt:=List.findIdx_lt_length_of_exists (xs:=List.range xs.length) (p:=fun k=>eY (ld xs) (k+1) x==x) ⟨k,List.mem_range.mpr (by rw[o.length];exact hk),by simpa using e⟩
 have:=List.findIdx_getElem (xs:=List.range xs.length) (p:=fun k=>eY (ld xs) (k+1) x==x) (w:=lt)
 rw[List.getElem_range]at this
 unfold hU
 simpa using this
theorem yk{xs:List Int}{x:Int}{j:Nat}(h0:0<j)(h:j<hU xs x):eY (ld xs) j x≠x:=by
 unfold hU at h
 have lt:j-1<(List.range xs.length).findIdx (fun k=>eY (ld xs) (k+1) x==x):=by lia
 have:=List.not_of_lt_findIdx lt
 rw[List.getElem_range]at this
 rw[show j-1+1=j by lia]at this
 simpa using this
theorem zD{n:Int}{xs:List Int}(o:Ord n xs){x:Int}(h1:1<=x)(h2:x<=n)(k:Nat):∃j,j<hU xs x/\eY (ld xs) k x=eY (ld xs) j x:=by
 induction k with
 |zero=>exact⟨0,by unfold hU;lia,rfl⟩
 |succ k ih=>
  obtain⟨j,hj,e⟩:=ih
  by_cases h:j+1<hU xs x
  .exact⟨j+1,h,by show ld xs _=ld xs _;rw[e]⟩
  .refine⟨0,by unfold hU;lia,?_⟩
   show ld xs _=x
   rw[e]
   have:j+1=hU xs x:=by lia
   have q:=qk o h1 h2
   rw[←this]at q
   exact q
theorem kK{n:Int}{xs:List Int}(o:Ord n xs){x:Int}(h1:1<=x)(h2:x<=n){y:Int}:y∈jJ xs x↔∃k,eY (ld xs) k x=y:=by
 unfold jJ
 rw[List.mem_map]
 constructor
 .rintro⟨k,_,e⟩
  exact⟨k,e⟩
 .rintro⟨k,e⟩
  obtain⟨j,hj,e2⟩:=zD o h1 h2 k
  exact⟨j,List.mem_range.mpr hj,e2.symm.trans e⟩
def least(xs:List Int)(x:Int):Bool:=(jJ xs x).all fun y=>decide (x<=y)
def aU(n:Int)(xs:List Int):List (List Int):=((bP 1 (n+1)).filter (least xs)).map (jJ xs)
theorem Gr{n:Int}{xs ys:List Int}(a:xs.length=n.toNat)(b:ys.length=n.toNat)(h:∀x,1<=x->x<=n->ld xs x=ld ys x):xs=ys:=by
 apply List.ext_getElem
 .rw[a,b]
 intro i h1 h2
 have:=h (1+i) (by lia) (by lia)
 unfold ld at this
 rw[show(1+(i:Int)-1).toNat=i by lia,N8,N8,N1 h1,N1 h2]at this
 exact this
theorem nh{n:Int}{row:List (Int×Int)}(g:Good n row):Ord n (bp n row):=by
 have nd:(bp n row).Nodup:=by
  unfold bp
  refine List.Pairwise.map _ ?_ (fg 1 (n+1))
  intro a b ne z
  apply ne
  have:=congrArg (go row.reverse) z
  rwa [pX,pX]at this
 refine(List.perm_ext_iff_of_nodup nd (fg _ _)).mpr fun y=>?_
 rw[cg]
 constructor
 .intro h
  have:=Cn g h
  lia
 .rintro⟨a,b⟩
  unfold bp
  have:=Ci (row:=row.reverse) g.reverse a (by lia:y<=n)
  exact List.mem_map.mpr ⟨go row.reverse y,cg.mpr (by lia),Dy row y⟩
def EG:Nat->List Int->List (Int×Int)
 |0,_=>[]
 |m+1,xs=>if ld xs ((m:Int)+1)=(m:Int)+1 then EG m xs else EG m (xs.map (bK · (ld xs ((m:Int)+1),(m:Int)+1)))++[(ld xs ((m:Int)+1),(m:Int)+1)]
def cnt(n:Int)(xs:List Int):Nat:=((bP 1 (n+1)).filter (least xs)).length
def Dm(xs:List Int):List (Int×Int):=EG xs.length xs
theorem rL:∀{l:List Int},l≠[]->∃M,M∈l/\∀b∈l,M<=b
 |[],h=>absurd rfl h
 |[a],_=>⟨a,List.mem_singleton.mpr rfl,fun b hb=>by rw[List.mem_singleton.mp hb];exact Int.le_refl _⟩
 |a::b::r,_=>by
  obtain⟨M,h1,h2⟩:=rL (l:=b::r) (by simp)
  by_cases h:a<=M
  .refine⟨a,List.mem_cons_self,fun c hc=>?_⟩
   rcases List.mem_cons.mp hc with rfl|hc
   .exact Int.le_refl _
   .exact Int.le_trans h (h2 c hc)
  .refine⟨M,List.mem_cons_of_mem _ h1,fun c hc=>?_⟩
   rcases List.mem_cons.mp hc with rfl|hc
   .lia
   .exact h2 c hc
theorem mE{n:Int}{xs:List Int}(o:Ord n xs){x y:Int}(h1:1<=x)(h2:x<=n)(h:y∈jJ xs x):x∈jJ xs y:=by
 obtain⟨k,rfl⟩:=(kK o h1 h2).mp h
 obtain⟨j,hj,e⟩:=zD o h1 h2 k
 have r:=dE o h1 h2 k
 refine(kK o r.1 r.2).mpr ⟨hU xs x-j,?_⟩
 rw[e,←nj,show hU xs x-j+j=hU xs x by lia]
 exact qk o h1 h2
theorem tI{n:Int}{xs:List Int}(o:Ord n xs){x y z:Int}(h1:1<=x)(h2:x<=n)(h:y∈jJ xs x)(h':z∈jJ xs y):z∈jJ xs x:=by
 obtain⟨k,rfl⟩:=(kK o h1 h2).mp h
 have r:=dE o h1 h2 k
 obtain⟨j,rfl⟩:=(kK o r.1 r.2).mp h'
 exact(kK o h1 h2).mpr ⟨j+k,nj _ _ _ _⟩
theorem Ef{n:Int}{xs:List Int}(o:Ord n xs){x y:Int}(h1:1<=x)(h2:x<=n)(h:y∈jJ xs x):1<=y/\y<=n:=by
 obtain⟨k,rfl⟩:=(kK o h1 h2).mp h
 exact dE o h1 h2 k
theorem rC{xs:List Int}(x:Int):x∈jJ xs x:=by
 unfold jJ
 exact List.mem_map.mpr ⟨0,List.mem_range.mpr (by unfold hU;lia),rfl⟩
theorem jf(xs:List Int)(x:Int):(jJ xs x).length=hU xs x:=by unfold jJ;rw[NY,List.length_range]
theorem Cj{n:Int}{xs:List Int}(o:Ord n xs){x:Int}(h1:1<=x)(h2:x<=n):∃m,m∈jJ xs x/\least xs m=true/\m<=x:=by
 obtain⟨M,m1,m2⟩:=rL (l:=jJ xs x) (List.ne_nil_of_mem (rC x))
 refine⟨M,m1,?_,m2 x (rC x)⟩
 unfold least
 rw[List.all_eq_true]
 intro y hy
 exact decide_eq_true (m2 y (tI o h1 h2 m1 hy))
theorem BB{n:Int}{xs:List Int}(o:Ord n xs){i:Nat}(hi:(i:Int)<n):least xs (1+i)=true↔¬∃m∈((bP 1 (n+1)).take i).filter (least xs),(1+(i:Int))∈jJ xs m:=by
 have b1:(1:Int)<=1+i:=by lia
 have b2:(1:Int)+i<=n:=by lia
 have tk:∀m,m∈(bP 1 (n+1)).take i↔1<=m/\m<=i:=by
  intro m
  constructor
  .intro h
   obtain⟨j,hj,e⟩:=List.mem_iff_getElem.mp h
   rw[N5]at hj
   rw[List.getElem_take]at e
   have g:=dt (lo:=1) (hi:=n+1) (i:=j) (by rw[aJ]at hj;lia)
   rw[N1 (by lia)]at g
   have g:=Option.some.inj g
   rw[e]at g
   lia
  .rintro⟨h3,h4⟩
   refine List.mem_iff_getElem.mpr ⟨(m-1).toNat,by rw[N5,aJ];lia,?_⟩
   rw[List.getElem_take]
   have g:=dt (lo:=1) (hi:=n+1) (i:=(m-1).toNat) (by lia)
   rw[N1 (by rw[aJ];lia)]at g
   have g:=Option.some.inj g
   rw[g]
   lia
 constructor
 .rintro h ⟨m,hm,hmo⟩
  rw[List.mem_filter,tk]at hm
  have s:=mE o hm.1.1 (by lia) hmo
  unfold least at h
  have:=of_decide_eq_true (List.all_eq_true.mp h m s)
  lia
 .intro h
  obtain⟨m,m1,m2,m3⟩:=Cj o b1 b2
  by_cases e:m=1+(i:Int)
  .rw[←e];exact m2
  .exfalso
   apply h
   have mi:=Ef o b1 b2 m1
   exact⟨m,List.mem_filter.mpr ⟨(tk m).mpr (by lia),m2⟩,mE o b1 b2 m1⟩
theorem FO{ns:List Int}{k:Nat}{z:Int}(h:ns.length=k+1)(e:ns[k]?=some z):rF (ns.map V.int) (-1)=some (V.int z):=by
 unfold rF Hu
 rw[if_neg (by decide),if_pos (by rw[NY];lia)]
 show(ns.map V.int)[(-1+((ns.map V.int).length:Int)).toNat]?=_
 rw[NY,show(-1+(ns.length:Int)).toNat=k by lia,NZ,e]
 rfl
theorem zR(x:Int)(ms:List Int):Kj (.int x) (ms.map V.int)=decide (x∈ms):=by
 unfold Kj
 rw[List.any_map,Bool.eq_iff_iff,List.any_eq_true]
 simp only[decide_eq_true_eq]
 constructor
 .rintro⟨y,hy,e⟩
  have e:Cc (.int y) (.int x)=true:=e
  unfold Cc at e
  have:y=x:=by simpa using e
  rw[←this];exact hy
 .intro h
  refine⟨x,h,?_⟩
  show Cc (.int x) (.int x)=true
  unfold Cc
  simp
theorem iG(ms:List Int):(ms.map V.int).all mR=true:=by
 rw[List.all_map,List.all_eq_true]
 intro x _
 rfl
def MD(n:Int)(xs r:List Int):Prop:=r≠[]/\∀(i:Nat)(x:Int),r[i]?=some x->1<=x/\x<=n/\r[(i+1)%r.length]?=some (ld xs x)
structure ML(n:Int)(xs:List Int)(rs:List (List Int)):Prop where
 NG:∀r∈rs,MD n xs r
 nd:rs.flatten.Nodup
 rest:∀x,1<=x->x<=n->x∉rs.flatten->ld xs x=x
theorem F9{n:Int}{xs:List Int}(o:Ord n xs){x:Int}(h1:1<=x)(h2:x<=n){k:Nat}(h:k<hU xs x):eY (ld xs) ((k+1)%hU xs x) x=ld xs (eY (ld xs) k x):=by
 by_cases e:k+1<hU xs x
 .rw[Nat.mod_eq_of_lt e];rfl
 .have e:k+1=hU xs x:=by lia
  rw[e,Nat.mod_self]
  have:=qk o h1 h2
  rw[←e]at this
  exact this.symm
theorem Fc{n:Int}{xs:List Int}(o:Ord n xs){x:Int}(h1:1<=x)(h2:x<=n):MD n xs (jJ xs x):=by
 refine⟨List.ne_nil_of_mem (rC x),fun i y hy=>?_⟩
 have hi:i<hU xs x:=by rw[←jf xs x];exact(List.getElem?_eq_some_iff.mp hy).1
 rw[jf]
 unfold jJ at hy⊢
 rw[NZ,List.getElem?_range hi]at hy
 have hy:eY (ld xs) i x=y:=by simpa using hy
 have r:=dE o h1 h2 i
 rw[NZ,List.getElem?_range (Nat.mod_lt _ (by lia))]
 refine⟨by lia,by lia,?_⟩
 show some (eY (ld xs) ((i+1)%hU xs x) x)=_
 rw[F9 o h1 h2 hi,hy]
theorem Bd{n:Int}{xs:List Int}(o:Ord n xs){x:Int}(h1:1<=x)(h2:x<=n):(jJ xs x).Nodup:=by
 unfold jJ
 rw[List.Nodup,List.pairwise_map]
 refine(List.Pairwise.and_mem.mp (List.pairwise_lt_range (n:=hU xs x))).imp ?_
 rintro i j ⟨hi,hj,hij⟩ e
 have hi:=List.mem_range.mp hi
 have hj:=List.mem_range.mp hj
 have e2:eY (ld xs) (i+(j-i)) x=eY (ld xs) i (eY (ld xs) (j-i) x):=nj _ _ _ _
 rw[show i+(j-i)=j by lia,←e]at e2
 have q:=dE o h1 h2 (j-i)
 have:=uO o h1 h2 q.1 q.2 i e2
 exact yk (by lia) (by lia) this.symm
theorem tu{n:Int}{xs:List Int}(o:Ord n xs):(aU n xs).flatten.Nodup:=by
 unfold aU
 rw[List.Nodup,List.pairwise_flatten]
 constructor
 .intro r hr
  obtain⟨x,hx,rfl⟩:=List.mem_map.mp hr
  have hx:=cg.mp (List.mem_filter.mp hx).1
  exact Bd o hx.1 (by lia)
 .rw[List.pairwise_map]
  have nd:((bP 1 (n+1)).filter (least xs)).Nodup:=(fg 1 (n+1)).filter _
  refine(List.Pairwise.and_mem.mp nd).imp ?_
  rintro a b ⟨ha,hb,ne⟩ y hya z hzb e
  subst e
  have ha':=List.mem_filter.mp ha
  have hb':=List.mem_filter.mp hb
  have ia:=cg.mp ha'.1
  have ib:=cg.mp hb'.1
  have yb:=mE o ib.1 (by lia) hzb
  have ab:b∈jJ xs a:=tI o ia.1 (by lia) hya yb
  have ba:a∈jJ xs b:=mE o ia.1 (by lia) ab
  have l1:=ha'.2
  have l2:=hb'.2
  unfold least at l1 l2
  have e1:=of_decide_eq_true (List.all_eq_true.mp l1 b ab)
  have e2:=of_decide_eq_true (List.all_eq_true.mp l2 a ba)
  exact ne (by lia)
theorem uw{n:Int}{xs:List Int}(o:Ord n xs){x:Int}(h1:1<=x)(h2:x<=n):x∈(aU n xs).flatten:=by
 obtain⟨m,m1,m2,m3⟩:=Cj o h1 h2
 have mi:=Ef o h1 h2 m1
 refine List.mem_flatten.mpr ⟨jJ xs m,?_,mE o h1 h2 m1⟩
 unfold aU
 exact List.mem_map.mpr ⟨m,List.mem_filter.mpr ⟨cg.mpr (by lia),m2⟩,rfl⟩
theorem As{n:Int}{xs:List Int}(o:Ord n xs){r:List Int}(h:r∈aU n xs):MD n xs r:=by
 unfold aU at h
 obtain⟨x,hx,rfl⟩:=List.mem_map.mp h
 have hx:=cg.mp (List.mem_filter.mp hx).1
 exact Fc o hx.1 (by lia)
theorem DY{n:Int}{xs:List Int}(o:Ord n xs):ML n xs (aU n xs):=⟨fun r h=>As o h,tu o,fun x h1 h2 h=>absurd (uw o h1 h2) h⟩
end Sw
namespace L2
open PySem PySem.Spec PyProof.Rows
mutual
inductive DT(H:Hp)(P:Addr->Prop):V->PyData->Prop
 |cP:DT H P .cP .none
 |bl (b:Bool):DT H P (.bl b) (.bool b)
 |int (i:Int):DT H P (.int i) (.int i)
 |str (x:Str):DT H P (.str x) (.str x)
 |lst {a:Addr} {vs:List V} {ds:List PyData}:H a=some (.lst vs)->P a->mf H P vs ds->DT H P (.ref a) (.list ds)
 |tup {a:Addr} {vs:List V} {ds:List PyData}:H a=some (.tup vs)->P a->mf H P vs ds->DT H P (.ref a) (.tuple ds)
inductive mf(H:Hp)(P:Addr->Prop):List V->List PyData->Prop
 |nil:mf H P [] []
 |cons {v:V} {d:PyData} {vs:List V} {ds:List PyData}:DT H P v d->mf H P vs ds->mf H P (v::vs) (d::ds)
end
mutual
theorem DT.keep {H H':Hp}{P:Addr->Prop}(k:A6 P H H'):∀{v:V}{d:PyData},DT H P v d->DT H' P v d
 |_,_,.cP=> .cP
 |_,_,.bl b=> .bl b
 |_,_,.int i=> .int i
 |_,_,.str x=> .str x
 |_,_,.lst h p r=> .lst (k _ _ p h) p (r.keep k)
 |_,_,.tup h p r=> .tup (k _ _ p h) p (r.keep k)
theorem mf.keep {H H':Hp}{P:Addr->Prop}(k:A6 P H H'):∀{vs:List V}{ds:List PyData},mf H P vs ds->mf H' P vs ds
 |_,_,.nil=> .nil
 |_,_,.cons h r=> .cons (h.keep k) (r.keep k)
end
mutual
theorem DT.dat {K:W.Frag}{H:Hp}{P:Addr->Prop}:∀{v:V}{d:PyData},DT H P v d->Dat K H P v d
 |_,_,.cP=> .cP
 |_,_,.bl b=> .bl b
 |_,_,.int i=> .int i
 |_,_,.str x=> .str x
 |_,_,.lst h p r=> .lst (aC.of h) p r.dat
 |_,_,.tup h p r=> .tup (e8.of h) p r.dat
theorem mf.dat {K:W.Frag}{H:Hp}{P:Addr->Prop}:∀{vs:List V}{ds:List PyData},mf H P vs ds->DatAll K H P vs ds
 |_,_,.nil=> .nil
 |_,_,.cons h r=> .cons h.dat r.dat
end
theorem mf.length {H:Hp}{P:Addr->Prop}:∀{vs:List V}{ds:List PyData},mf H P vs ds->vs.length=ds.length
 |_,_,.nil=>rfl
 |_,_,.cons h r=>by rw[N3,N3,r.length]
theorem mf.append {H:Hp}{P:Addr->Prop}:∀{vs ws:List V}{ds es:List PyData},mf H P vs ds->mf H P ws es->mf H P (vs++ws) (ds++es)
 |_,_,_,_,.nil,y=>y
 |_,_,_,_,.cons h x,y=> .cons h (x.append y)
theorem mf.snoc {H:Hp}{P:Addr->Prop}{vs:List V}{ds:List PyData}{v:V}{d:PyData}(x:mf H P vs ds)(h:DT H P v d):mf H P (vs++[v]) (ds++[d]):=x.append (.cons h .nil)
theorem mf.get {H:Hp}{P:Addr->Prop}:∀{vs:List V}{ds:List PyData}{i:Nat}{x:V},mf H P vs ds->vs[i]?=some x->∃d,ds[i]?=some d/\DT H P x d
 |_,_,_,_,.nil,e=>by simp at e
 |_,_,0,_,.cons h x,e=>by simp at e;subst e;exact⟨_,rfl,h⟩
 |_,_,i+1,_,.cons h x,e=>by
  obtain⟨d,e1,e2⟩:=x.get (i:=i) (by simpa using e)
  exact⟨d,by simpa using e1,e2⟩
theorem mf.ints {H:Hp}{P:Addr->Prop}:∀(ns:List Int),mf H P (ns.map V.int) (ns.map PyData.int)
 |[]=> .nil
 |n::r=> .cons (.int n) (mf.ints r)
def Kr:PyData->String
 | .none=> "NoneType"
 | .bool _=> "bool"
 | .int _=> "int"
 | .str _=> "str"
 | .list _=> "list"
 | .tuple _=> "tuple"
 | .dict _=> "dict"
theorem DT.ty {K:W.Frag}{H:Hp}{P:Addr->Prop}{v:V}{d:PyData}(h:DT H P v d):lY K H v (.type (Kr d)):=by
 cases h with
 |cP=>exact .cP
 |bl b=>exact .bl b
 |int i=>exact .int i
 |str x=>exact .str x
 |lst h p r=>exact .lst h
 |tup h p r=>exact .tup h
def NS:PyData->Bool
 | .list _=>true
 |_=>false
theorem Di(K:W.Frag){H:Hp}{P:Addr->Prop}{v:V}{d:PyData}(h:DT H P v d):W.kitOne K (.type (Kr d)) (.type "list")=some (NS d):=by
 cases h with
 |cP=>exact aN K (show dD "NoneType" "list" =some false by decide+kernel)
 |bl b=>exact aN K (show dD "bool" "list" =some false by decide+kernel)
 |int i=>exact aN K (show dD "int" "list" =some false by decide+kernel)
 |str x=>exact aN K (show dD "str" "list" =some false by decide+kernel)
 |lst h p r=>exact aN K (show dD "list" "list" =some true by decide+kernel)
 |tup h p r=>exact aN K (show dD "tuple" "list" =some false by decide+kernel)
def NF:PyData->Bool
 | .tuple _=>true
 |_=>false
theorem kit_tuple(K:W.Frag){H:Hp}{P:Addr->Prop}{v:V}{d:PyData}(h:DT H P v d):W.kitOne K (.type (Kr d)) (.type "tuple")=some (NF d):=by
 cases h with
 |cP=>exact aN K (show dD "NoneType" "tuple" =some false by decide+kernel)
 |bl b=>exact aN K (show dD "bool" "tuple" =some false by decide+kernel)
 |int i=>exact aN K (show dD "int" "tuple" =some false by decide+kernel)
 |str x=>exact aN K (show dD "str" "tuple" =some false by decide+kernel)
 |lst h p r=>exact aN K (show dD "list" "tuple" =some false by decide+kernel)
 |tup h p r=>exact aN K (show dD "tuple" "tuple" =some true by decide+kernel)
def NA:PyData->Bool
 | .int _=>true
 | .bool _=>true
 |_=>false
theorem FT(K:W.Frag){H:Hp}{P:Addr->Prop}{v:V}{d:PyData}(h:DT H P v d):W.kitOne K (.type (Kr d)) (.type "int")=some (NA d):=by
 cases h with
 |cP=>exact aN K (show dD "NoneType" "int" =some false by decide+kernel)
 |bl b=>exact aN K (show dD "bool" "int" =some true by decide+kernel)
 |int i=>exact aN K (show dD "int" "int" =some true by decide+kernel)
 |str x=>exact aN K (show dD "str" "int" =some false by decide+kernel)
 |lst h p r=>exact aN K (show dD "list" "int" =some false by decide+kernel)
 |tup h p r=>exact aN K (show dD "tuple" "int" =some false by decide+kernel)
def NJ:PyData->Bool
 | .bool _=>true
 |_=>false
theorem CF(K:W.Frag){H:Hp}{P:Addr->Prop}{v:V}{d:PyData}(h:DT H P v d):W.kitOne K (.type (Kr d)) (.type "bool")=some (NJ d):=by
 cases h with
 |cP=>exact aN K (show dD "NoneType" "bool" =some false by decide+kernel)
 |bl b=>exact aN K (show dD "bool" "bool" =some true by decide+kernel)
 |int i=>exact aN K (show dD "int" "bool" =some false by decide+kernel)
 |str x=>exact aN K (show dD "str" "bool" =some false by decide+kernel)
 |lst h p r=>exact aN K (show dD "list" "bool" =some false by decide+kernel)
 |tup h p r=>exact aN K (show dD "tuple" "bool" =some false by decide+kernel)
def l9(h:Heap)(e:Addr)(b:Option Addr:=none):Prop:=∃o vs c,h.get? e=some o/\o.data= .fields vs/\vs[2]?=some c/\(b=none->c=Value.none)
section
variable{M:Model}{A:Around}{E:Value->Shared->Prop}{s:Shared}{B:Heap}{env:Env}{outer:List Env}{L e:Addr}{cls a0 c:Value}{b:Option Addr}
abbrev Ej(head:Value)(L:Addr)(pl:List Value):Obj:={cls:= .type "traceback",dict:=none,data:= .fields ([head,.ref L,.none,rawInt L,.none]++(if pl.isEmpty then List.replicate 6 Value.none else pl)).toArray}
theorem lV{o:Obj}{vs:Array Value}{head:Value}{hadNext:Bool}{Q:Unit->Shared->Prop}
  (fr:A.frames=some (env::outer)) (ff:s.heap.FunFrames B (env::outer)) (ef:env.frame=some L) (eo:s.heap.get? e=some o) (kb:B.StaysIn s.heap) (en:B.get? e=none) (ed:o.data= .fields vs) (z0:vs[0]?=some a0) (z2:vs[2]?=some c) (zb:b=none->c=Value.none)
  (k:∀h',Heap.NotedW B (env::outer) e o.cls a0 (rawInt L) s.heap h'->l9 h' e b->Q () {s with heap:=h'}):
  wpAny M A (do let a←frameOf env;let pl←entryPlaceOf L hadNext;let b←EntryCells.newEntry head a .none (rawInt L) .none pl;setField (.ref e) 1 b) Q E s:=by
 have n2:2<vs.size:=(Array.getElem?_eq_some_iff.mp z2).1
 have n1:1<vs.size:=by lia
 have eno:e∉(env::outer).filterMap (·.frame):=fun hm=>by
  obtain⟨_,o',ho,hnf⟩:=ff.mem hm
  rw[eo]at ho
  cases ho
  exact hnf vs ed
 refine wpAny_bind (wpAny_frameOf_fun fr ff ef fun g hs=>wpAny_bind (wpAny_entryPlaceOf fun pl hpl=>?_))
 unfold EntryCells.newEntry newFields
 refine wpAny_bind (wpAny_newObj_type ?_ (hpl.sizeOk5 _ _ _ _ _))
 have eo1:g.get? e=some o:=(hs.2.1 e eno).trans eo
 have kb1:B.StaysIn g:=fun b u hb=>(hs.2.1 b fun hm=>by rw[(ff.mem hm).1]at hb;cases hb).trans (kb b u hb)
 have eo2:=Heap.get?_push_of_some (h:=g) (Ej head L pl) eo1
 have nT:g.objs.size≠e:=Nat.ne_of_gt (Heap.lt_size eo1)
 have d3:=Obj.data_mapFields ed (·.setIfInBounds 1 (Value.ref g.objs.size))
 have eo3:=Heap.get?_update_self (Obj.mapFields (·.setIfInBounds 1 (Value.ref g.objs.size))) eo2 (Obj.isFreed_of_fields d3)
 have tb3:=(Heap.get?_update_other (g.push (Ej head L pl)) (Obj.mapFields (·.setIfInBounds 1 (Value.ref g.objs.size))) (Ne.symm nT)).trans (Heap.get?_push_size g rfl)
 have iF:∀b u,b≠e->g.get? b=some u->((g.push (Ej head L pl)).update e (Obj.mapFields (·.setIfInBounds 1 (Value.ref g.objs.size)))).get? b=some u:=fun b u hbe hb=>
  (Heap.get?_update_other _ _ (Ne.symm hbe)).trans (Heap.get?_push_of_some _ hb)
 have noE:∀b u,s.heap.get? b=some u->(∀ws,u.data≠.fields ws)->b≠e:=fun b u hb hnf q=>by
  rw[q,eo]at hb
  cases hb
  exact hnf vs ed
 refine wpAny_setField eo2 ed n1 (k _ ⟨fun b u hb=>iF b u (fun q=>by rw[q,en]at hb;cases hb) (kb1 b u hb),ff.of_keeps fun b u hb hnf=>?_,?_,fun b u hb hnf=>?_⟩ ⟨_,_,c,eo3,d3,?_,zb⟩)
 .obtain⟨sl,hq⟩:=hs.2.2 b u hb
  exact⟨_,iF b _ (noE b u hb hnf) hq,rfl⟩
 .refine⟨_,_,g.objs.size,_,_,eo3,⟨Obj.cls_mapFields _ _,?_⟩,d3,by simp[n1],kb1.fresh,nT,tb3,rfl,?_⟩
  .rw[Array.getElem?_setIfInBounds_ne (by decide)];exact z0
  .rcases hpl with rfl|⟨_,_,_,_,_,_,_,rfl⟩<;>simp
 .obtain⟨sl,hq⟩:=hs.2.2 b u hb
  exact⟨sl,iF b _ (noE b u hb hnf) hq⟩
 .rw[Array.getElem?_setIfInBounds_ne (by decide)];exact z2
theorem l9.sees {h:Heap}(l:l9 h e b)(t:h.TracedW B e cls a0):∃oe vs T oT ts c,(b=none->c=Value.none)/\h.get? e=some oe/\oe.cls=cls/\vs[0]?=some a0/\vs[2]?=some c/\oe.data= .fields vs/\vs[1]?=some (.ref T)/\B.get? T=none/\T≠e/\h.get? T=some oT/\oT.data= .fields ts/\ts[3]?=some .none:=by
 obtain⟨o,vs,c,h1,h2,h3,hb⟩:=l
 obtain⟨oe,ws,T,oT,ts,g1,⟨g2,g3⟩,g4,g5,g6,g7,g8,g9,g10⟩:=t
 rw[h1]at g1
 cases g1
 rw[h2]at g4
 cases g4
 exact⟨o,vs,T,oT,ts,c,hb,h1,g2,g3,h3,h2,g5,g6,g7,g8,g9,g10⟩
theorem tZ{Q:Unit->Shared->Prop}(fr:A.frames=some (env::outer))(ef:env.frame=some L)(fl:Heap.FlyingW B (env::outer) e cls a0 s.heap)(l:l9 s.heap e b)
  (k:∀h',Heap.HeldW B (env::outer) e cls a0 L h'->s.heap.UpToSlots h'->l9 h' e b->Q () {s with heap:=h'}):wpAny M A (noteFrame (.ref e) env) Q E s:=by
 obtain⟨kb,en,ff,t⟩:=fl
 obtain⟨oe,vs,T,oT,ts,c,hb,eo,rfl,z0,z2,ed,z1,tn,nT,et,dT,z3⟩:=l.sees t
 unfold noteFrame
 simp only[ef]
 refine wpAny_bind (wpAny_field eo ed z1 ?_)
 rw[if_pos (by simp)]
 refine wpAny_bind (wpAny_field et dT z3 ?_)
 rw[if_neg (by simp[rawInt])]
 refine wpAny_bind (wpAny_setField et dT (Array.getElem?_eq_some_iff.mp z3).1 ?_)
 have oth:∀b,b≠T->(s.heap.update T (Obj.mapFields (·.setIfInBounds 3 Value.none))).get? b=s.heap.get? b:=fun b hb=>Heap.get?_update_other _ _ (Ne.symm hb)
 have noT:∀b u,s.heap.get? b=some u->(∀ws,u.data≠.fields ws)->b≠T:=fun b u hb hnf q=>by
  rw[q,et]at hb
  cases hb
  exact hnf ts dT
 refine lV fr (ff.of_keeps fun b u hb hnf=>⟨u,(oth b (noT b u hb hnf)).trans hb,rfl⟩) ef ((oth e (Ne.symm nT)).trans eo) (fun b u hb=>(oth b fun q=>by rw[q,tn]at hb;cases hb).trans (kb b u hb)) en ed z0 z2 hb fun h' ⟨x1,x2,x3,x4⟩ l'=>?_
 exact k h' ⟨x1,en,x2,x3⟩ (fun b u hb hnf=>x4 b u ((oth b (noT b u hb hnf)).trans hb) hnf) l'
theorem kX{fl:Value}{l:List Env}{Q:Unit->Shared->Prop}(kb:B.StaysIn s.heap)(en:B.get? e=none)(ff:s.heap.FunFrames B l)(t:s.heap.TracedAtW B e cls a0 fl)(lo:l9 s.heap e b)
  (k:∀h',Heap.FlyingW B l e cls a0 h'->s.heap.UpToSlots h'->l9 h' e b->Q () {s with heap:=h'}):wpAny M A (setFlight (.ref e) none) Q E s:=by
 obtain⟨o,vs,c,h1,h2,h3,hcb⟩:=lo
 obtain⟨oe,ws,T,oT,ts,g1,g2,g4,g5,g6,g7,g8,g9,g10⟩:=t
 rw[h1]at g1
 cases g1
 rw[h2]at g4
 cases g4
 have sz:3<ts.size:=(Array.getElem?_eq_some_iff.mp g10).1
 have oth:∀b,b≠T->(s.heap.update T (Obj.mapFields (·.setIfInBounds 3 ((none:Option Addr).elim Value.none fun f=>rawInt f)))).get? b=s.heap.get? b:=fun b hb=>Heap.get?_update_other _ _ (Ne.symm hb)
 have noT:∀b u,s.heap.get? b=some u->(∀ws,u.data≠.fields ws)->b≠T:=fun b u hb hnf q=>by
  rw[q,g8]at hb
  cases hb
  exact hnf ts g9
 have e':=(oth e (Ne.symm g7)).trans h1
 unfold setFlight
 refine wpAny_bind (wpAny_field h1 h2 g5 ?_)
 rw[if_pos (by simp)]
 refine wpAny_setField g8 g9 sz (k _ ⟨fun b u hb=>(oth b fun q=>by rw[q,g6]at hb;cases hb).trans (kb b u hb),en,ff.of_keeps fun b u hb hnf=>⟨u,(oth b (noT b u hb hnf)).trans hb,rfl⟩,?_⟩ (fun b u hb hnf=>⟨u.slots,(oth b (noT b u hb hnf)).trans hb⟩) ⟨o,vs,c,e',h2,h3,hcb⟩)
 exact⟨o,vs,T,_,_,e',g2,h2,g5,g6,g7,Heap.get?_update_self _ g8 (Obj.isFreed_of_fields (Obj.data_mapFields g9 _)),Obj.data_mapFields g9 _,by simp[sz]⟩
theorem yx{Q:Unit->Shared->Prop}(fr:A.frames=some (env::outer))(ef:env.frame=some L)(fl:Heap.FlyingW B (env::outer) e cls a0 s.heap)(l:l9 s.heap e b)
  (k:∀h',Heap.FlyingW B (env::outer) e cls a0 h'->s.heap.UpToSlots h'->l9 h' e b->Q () {s with heap:=h'}):wpAny M A (leaving env (.ref e)) Q E s:=by
 unfold leaving
 refine wpAny_bind (tZ fr ef fl l fun g hh sm l'=>?_)
 obtain⟨f1,f2,f3,f4⟩:=hh
 exact kX (s:={s with heap:=g}) f1 f2 f3 f4 l' fun h' a1 a2 a3=>k h' a1 (sm.trans a2) a3
theorem yU{o:Obj}{vs:Array Value}{Q:Unit->Shared->Prop}(fr:A.frames=some (env::outer))(ff:s.heap.FunFrames B (env::outer))(ef:env.frame=some L)(eo:s.heap.get? e=some o)(kb:B.StaysIn s.heap)(en:B.get? e=none)(ed:o.data= .fields vs)(z0:vs[0]?=some a0)(z1:vs[1]?=some .none)(z2:vs[2]?=some c)(zb:b=none->c=Value.none)
  (k:∀h',Heap.FlyingW B (env::outer) e o.cls a0 h'->s.heap.UpToSlots h'->l9 h' e b->Q () {s with heap:=h'}):wpAny M A (leaving env (.ref e)) Q E s:=by
 unfold leaving noteFrame
 simp only[ef]
 refine wpAny_bind (wpAny_bind (wpAny_field eo ed z1 ?_))
 rw[if_neg (by decide)]
 refine lV fr ff ef eo kb en ed z0 z2 zb fun g hn l'=>?_
 obtain⟨f1,f3,f4,sm⟩:=hn
 exact kX (s:={s with heap:=g}) f1 en f3 f4 l' fun h' a1 a2 a3=>k h' a1 (Heap.UpToSlots.trans sm a2) a3
end
theorem bN.here {P:Program}{w:World}{H:Hp}{h:Heap}{a:Addr}{o:HO}(x:bN P w H h a o):∃ob,h.get? a=some ob:=by
 cases o with
 |lst xs=>obtain⟨_,_,_,_,e⟩:=x;exact⟨_,e⟩
 |tup xs=>obtain⟨_,_,_,ob,e,_⟩:=x;exact⟨_,e⟩
 |dK kvs=>obtain⟨_,_,_,_,o,_,_,e,_⟩:=x;exact⟨_,e⟩
 |dT kvs=>obtain⟨_,_,_,_,o,_,_,e,_⟩:=x;exact⟨_,e⟩
 |set S n=>obtain⟨o,_,_,_,e,_⟩:=x;exact⟨_,e⟩
 |ins C dx fs=>obtain⟨_,_,_,e,_⟩:=x;exact⟨_,e⟩
 |own y=>obtain⟨_,e⟩:=x;exact⟨_,e⟩
 |xd fs=>obtain⟨_,⟨_,_,_,e,_⟩,_⟩:=x;exact⟨_,e⟩
 |yS lo hi=>obtain⟨_,_,_,e⟩:=x;exact⟨_,e⟩
 |w4 ob u=>obtain⟨e,_⟩:=x;exact⟨_,e⟩
 |Hx ps=>exact⟨_,(show h.get? a=some _ from x)⟩
 |met f y=>exact⟨_,(show h.get? a=some _ from x)⟩
 |ext φ=>obtain⟨_,⟨_,e⟩,_⟩:=x;exact⟨_,e⟩
structure wB(P:Program)(w:World)(fr:List Env)(H:Hp)(h:Heap)(e:Addr)(cls a0:Value)(B:Heap)(H':Hp)(h':Heap)(bb:Option Addr:=none):Prop where
 un:Un (gQ fr) [] H H' h h'
 aY:lz P w H' h'
 fl:Heap.FlyingW B fr e cls a0 h'
 old:∀b o o',h.get? b=some o->b∉gQ fr->h'.get? b=some o'->B.get? b=some o'
 vM:∀b u o',H' b=some u->h'.get? b=some o'->B.get? b=some o'
 p9:∀b∈gQ fr,H' b=none
 lo:l9 h' e bb
section
variable{P:Program}{w:World}{fr:List Env}{H H':Hp}{h h' h'':Heap}{e:Addr}{cls a0:Value}{B:Heap}{bb:Option Addr}
theorem wB.HJ (fun_:Un (gQ fr) [] H H' h h')(fhok:lz P w H' h')(ff:h'.FunFrames B fr)(fold:∀b o o',h.get? b=some o->b∉gQ fr->h'.get? b=some o'->B.get? b=some o')
  (ftrk:∀b u o',H' b=some u->h'.get? b=some o'->B.get? b=some o') (ffrf:∀b∈gQ fr,H' b=none) (fl:Heap.FlyingW B fr e cls a0 h'') (sm:h'.UpToSlots h'') (lo:l9 h'' e bb):wB P w fr H h e cls a0 B H' h'' bb where
 un:=by
  refine⟨fun b o q n hb hx=>?_,fun b o q n hb hx=>?_,fun_.free,fun b o q hx=>?_,fun_.cy,fun_.iX,fun_.jM⟩
  .have e1:=fun_.keep b o q n hb hx
   exact fl.1 b o (fold b o o q hb e1)
  .obtain⟨sl,e1⟩:=fun_.slot b o q n hb hx
   obtain⟨_,o1,e2,nf⟩:=ff.mem hb
   rw[e1]at e2;cases e2
   obtain⟨sl',e3⟩:=sm b _ e1 nf
   exact⟨sl',e3⟩
  .obtain⟨o1,e1⟩:=fun_.there b o q hx
   by_cases hb:b∈gQ fr
   .obtain⟨_,o2,e2,nf⟩:=ff.mem hb
    rw[e1]at e2;cases e2
    obtain⟨sl',e3⟩:=sm b _ e1 nf
    exact⟨_,e3⟩
   .exact⟨o1,fl.1 b o1 (fold b o o1 q hb e1)⟩
 aY:=fun a o q=>(fhok a o q).iF (fun b u hb z=>by
   rcases hb with rfl|hb
   .exact fl.1 b u (ftrk b _ u q z)
   .exact fl.1 b u (ftrk b _ u hb z)) (fun _ z=>z) fun _ _ z=>z
 fl:=fl
 old:=fun b o o' q hb z=>by
  obtain⟨o1,e1⟩:=fun_.there b o q (by simp)
  have e2:=fold b o o1 q hb e1
  have e3:=fl.1 b o1 e2
  rw[z]at e3;cases e3
  exact e2
 vM:=fun b u o' q z=>by
  obtain⟨o1,e1⟩:=(fhok b u q).here
  have e2:=ftrk b u o1 q e1
  have e3:=fl.1 b o1 e2
  rw[z]at e3;cases e3
  exact e2
 p9:=ffrf
 lo:=lo
theorem wB.move (F:wB P w fr H h e cls a0 B H' h' bb)(fl:Heap.FlyingW B fr e cls a0 h'')(sm:h'.UpToSlots h'')(lo:l9 h'' e bb):wB P w fr H h e cls a0 B H' h'' bb:=wB.HJ F.un F.aY F.fl.2.2.1 F.old F.vM F.p9 fl sm lo
theorem wB.out {X:Cx}{pins:List (Addr×Obj)}{σ:St}{s:Shared}(I:Inv X pins σ H s)(hst:X.stack=X.env::X.outer)(hex:X.ex=[])(F:wB P w X.stack H s.heap e cls a0 B H' h' bb):wB P w X.outer X.H₀ X.s₀.heap e cls a0 B H' h' bb:=by
 have nx:∀b:Addr,b∉X.ex:=fun b z=>by rw[hex]at z;cases z
 have ns:∀b o,X.s₀.heap.get? b=some o->b∉gQ X.outer->b∉gQ X.stack:=fun b o q hb z=>by
  rcases List.mem_cons.mp (I.kf b z)with r|r
  .subst r
   exact absurd (Nat.lt_of_lt_of_le (Heap.lt_size q) I.ok.above) (Nat.lt_irrefl _)
  .exact hb r
 have so:∀b∈gQ X.outer,b∈gQ X.stack:=fun b z=>by
  rw[hst]
  unfold gQ at z⊢
  rw[List.filterMap_cons]
  split
  .exact z
  .exact List.mem_cons_of_mem _ z
 refine⟨⟨fun b o q n hb hx=>?_,fun b o q n hb hx=>?_,fun b o q n hx=>?_,fun b o q hx=>?_,fun b xs q=>F.un.cy b xs (I.base.cy b xs q),fun b o u q=>F.un.iX b o u (I.base.iX b o u q),fun b ps q=>?_⟩,F.aY,?_,fun b o o' q hb z=>?_,F.vM,fun b hb=>F.p9 b (so b hb),F.lo⟩
 .exact F.un.keep b o (I.base.keep b o q n hb (nx b)) (I.base.free b o q n (nx b)) (ns b o q hb) (by simp)
 .obtain⟨sl,e1⟩:=I.base.slot b o q n hb (nx b)
  obtain⟨sl',e2⟩:=F.un.any e1 (I.base.free b o q n (nx b)) (by simp)
  exact⟨sl',e2⟩
 .obtain⟨o1,e1⟩:=I.base.there b o q (nx b)
  exact F.un.free b o1 e1 (I.base.free b o q n (nx b)) (by simp)
 .obtain⟨o1,e1⟩:=I.base.there b o q (nx b)
  exact F.un.there b o1 e1 (by simp)
 .obtain⟨m1,e1⟩:=I.base.jM b ps q
  obtain⟨m2,e2⟩:=F.un.jM b _ e1
  exact⟨m1++m2,by rw[e2,Array.append_assoc]⟩
 .have f:=F.fl
  rw[hst]at f
  exact⟨f.1,f.2.1,f.2.2.1.2.2,f.2.2.2⟩
 .obtain⟨o1,e1⟩:=I.base.there b o q (nx b)
  exact F.old b o1 o' e1 (ns b o q hb) z
end
def jG(P:Program)(w:World):sf:=fun fr H s E ev s'=>∃(e:Addr)(cls a0:Value)(B:Heap)(H':Hp)(bb:Option Addr),ev= .ref e/\s'.os=s.os/\AllBare s'.gens/\wB P w fr H s.heap e cls a0 B H' s'.heap bb/\E cls bb H'
section
variable{P:Program}{w:World}{K:W.Frag}{mg:Str->Option Value}{base:Heap}{N:List Str}{qual:Str}{scope:Scope}{f:Addr}{cdv:Value}{A:Around}{outer:List Env}{s:Shared}{H:Hp}{E:XK}
abbrev Bp(P:Program)(w:World)(K:W.Frag)(mg:Str->Option Value)(base:Heap)(N:List Str)(qual:Str)(scope:Scope)(f:Addr)(cdv:Value)(A:Around)(outer:List Env)(s:Shared)(H:Hp)(E:XK):Cx:=sT (jG P w) P w K mg base N qual scope f cdv A outer s H E
theorem j7:Passes (jG P w) (Bp P w K mg base N qual scope f cdv A outer s H E) E:=by
 intro pins σ H₁ s₁ ev s' I h
 obtain⟨e,cls,a0,B,H',bb,rfl,os,bare,F,q⟩:=h
 show wpAny _ _ (leaving _ (.ref e)) _ _ s'
 refine yx (B:=B) I.ok.frames rfl F.fl F.lo fun h'' fl sm lo=>?_
 exact⟨e,cls,a0,B,H',bb,rfl,os.trans I.os,bare,wB.out I rfl rfl (F.move fl sm lo),q⟩
theorem GB{pins:List (Addr×Obj)}{σ:St}{H₁:Hp}{s₁:Shared}{h':Heap}{e:Addr}{cls:Value}{args:List Value}(I:Inv (Bp P w K mg base N qual scope f cdv A outer s H E) pins σ H₁ s₁)
  (M:Heap.MadeExcOf s₁.heap h' e cls args) (q:E cls none H₁):(Bp P w K mg base N qual scope f cdv A outer s H E).xe (.ref e) {s₁ with heap:=h'}:=by
 obtain⟨t,he,htn,ht⟩:=M.there
 show wpAny _ _ (leaving _ (.ref e)) _ _ _
 have st:=I.stack
 have ff:=W.funFrames_hide (as:=gQ (Bp P w K mg base N qual scope f cdv A outer s H E).stack) st fun env hm a ha=>List.mem_filterMap.mpr ⟨env,hm,ha⟩
 have hen:(W.hideAll s₁.heap (gQ (Bp P w K mg base N qual scope f cdv A outer s H E).stack)).get? e=none:=by
  cases z:(W.hideAll s₁.heap (gQ (Bp P w K mg base N qual scope f cdv A outer s H E).stack)).get? e with
  |none=>rfl
  |some o=>have:=W.of_hideAll _ z;rw[M.new]at this;cases this
 refine yU (b:=none) (B:=W.hideAll s₁.heap (gQ (Bp P w K mg base N qual scope f cdv A outer s H E).stack)) (a0:= .ref t) I.ok.frames (ff.of_keeps fun b o hb _=>⟨o,M.keeps b o hb,rfl⟩) rfl he (fun b o z=>M.keeps b o (W.of_hideAll _ z)) hen rfl rfl rfl rfl (fun _=>rfl) fun h'' fl k4 lo=>?_
 refine⟨e,cls,.ref t,W.hideAll s₁.heap (gQ (Bp P w K mg base N qual scope f cdv A outer s H E).stack),H₁,none,rfl,I.os,I.bare,wB.out I rfl rfl (wB.HJ (h':=h') (Un.kept M.keeps) (I.aY.kept M.keeps) (ff.of_keeps fun b o hb _=>⟨o,M.keeps b o hb,rfl⟩) (fun b o o' z hb zz=>?_) (fun b u o' z zz=>?_) I.qd fl k4 lo),q⟩
 .have:=M.keeps b o z
  rw[zz]at this;cases this
  exact W.hideAll_get _ z hb
 .obtain⟨o1,e1⟩:=(I.aY b u z).here
  have:=M.keeps b o1 e1
  rw[zz]at this;cases this
  exact W.hideAll_get _ e1 fun hb=>by rw[I.qd b hb]at z;cases z
end
abbrev NB:List Value:=[.type "ValueError",.type "Exception",.type "BaseException",.type "object"]
abbrev iH(K:W.Frag)(C:Addr):Prop:=W.excIn K C NB "ValueError.__new__" =true
theorem J5{K:W.Frag}{h:Heap}{mg:Str->Option Value}{x:Str}{C:Addr}{bmB:List Value}{newId:String}(X:K.In h)(hm:mg x=some (.ref C))(q:W.excIn K C bmB newId=true):OwnCls x C bmB newId mg h:=by
 refine⟨hm,?_⟩
 unfold W.excIn at q
 split at q
 .rename_i dd cd sl ho
  split at q
  .rename_i C' bm k0 k1 k2 k3 n k5 hm hs
   simp only[Bool.and_eq_true,beq_iff_eq,Bool.not_eq_true']at q
   obtain⟨⟨⟨⟨⟨rfl,rfl⟩,hdel⟩,ht⟩,aY⟩,hni⟩:=q
   obtain⟨nm,bs,mro,ns,qn,hd,sn,sub,ab,col,del⟩:=cd
   dsimp only at hm hdel aY hni
   subst hm hdel
   have hsl:sl= #[k0,k1,k2,k3,some (.builtin n),k5]:=by
    obtain⟨l⟩:=sl
    simp only at hs
    rw[hs]
   subst hsl
   exact⟨bm,ns,nm,qn,bs,hd,sn,sub,ab,col,dd,k0,k1,k2,k3,k5,_,X _ _ ho,.of_isNs (W.isNs_of_in X aY),W.nsMap_none_of_in X aY hni,W.tail_of_in X ht⟩
  .cases q
 .cases q
def IG(E:XK)(cls:Value)(ta:TA):TS:=fun _ σ H=>ta σ H fun vs H1=>vs.length<=sizeLine/\E cls none H1
section
variable{X:Cx}{E:XK}{C:Addr}{x:Str}{np cpos pos:Pos}{e₀:Expr}{rest:List Expr}{ta:TA}
def Nf(X:Cx)(E:XK):Prop:=∀(pins:List (Addr×Obj))(σ:St)(H:Hp)(s:Shared)(h':Heap)(e:Addr)(cls:Value)(args:List Value),Inv X pins σ H s->Heap.MadeExcOf s.heap h' e cls args->E cls none H->X.xe (.ref e) {s with heap:=h'}
theorem cJ(L:Nf X E)(O:iH X.K C)(hc:X.calm=true)(hg:Gl X x)(hm:X.mg x=some (.ref C))(ha:PA X (e₀::rest) ta)(hdb:(x==("__debug__" :Str))=false:=by decide)
  (he:starEach (e₀::rest) X.env=(false,eval e₀ X.env)::starEach rest X.env:=by rfl) (hpl:(backTo cpos (starEach rest X.env)).any (·.1)=false:=by rfl):
  PS X (.Raise (some (.Call (.Name x np) (e₀::rest) [] cpos)) none pos) (IG E (.ref C) ta):=by
 intro pins s σ H D I h
 obtain⟨tl,N,nm,q,bs,hdct,sn,sub,ab,col,dd,k0,k1,k2,k3,k5,mN,hC,hN,hni,T⟩:=(J5 I.mod.ET hm O).obj
 refine wpAny_Raise_call_subT (C:=C) (nm:=nm) (q:=q) (N:=N) (bs:=bs) (bm:=tl) (hdct:=hdct) (sn:=sn) (sub:=sub) (ab:=ab) (col:=col) (dd:=dd) (k0:=k0) (k1:=k1) (k2:=k2) (k3:=k3) (k5:=k5)
  PySem.F.excBase_ValueError (mN:=mN) (T.hasType (by decide)) (I.ok.hd hc) (by rw[he];show(false||(backTo cpos (starEach rest X.env)).any (·.1))=false;rw[hpl];rfl) hni (kW I hg hm ⟨rfl,?_⟩ hdb)
 have hq:=ha cpos pins s σ H _ I h
 rw[he]at hq⊢
 refine Calls.evalArgs_plain (wpAny_mono hq (fun us s₂ h₂=>?_) fun _ _ y=>y)
 obtain⟨vs,H2,I2,r,z,ez⟩:=h₂
 refine⟨rfl,by rw[←r.length];exact z,I2.bk _ _ hC,hN.keeps I2.bk,T.keeps I2.bk,fun h' e M=>L pins σ H2 s₂ h' e _ _ I2 M ez⟩
end
section
variable{P:Program}{w:World}{K:W.Frag}{mg:Str->Option Value}{base:Heap}{N:List Str}{qual:Str}{scope:Scope}{f:Addr}{cdv:Value}{A:Around}{outer:List Env}{s:Shared}{H:Hp}{E:XK}
theorem pH:Nf (Bp P w K mg base N qual scope f cdv A outer s H E) E:=fun _ _ _ _ _ _ _ _ I M q=>GB I M q
theorem dh.Be {x qual:Str}{st:Stmt}{f:Addr}{fd:FuncData}{N ps:List Str}{k:Nat}{sp:Sp}(F:dh K x qual st f fd)(S:az N ps (ar st))(len:∀vs H Q E,sp vs H Q E->vs.length=ps.length)
  (hbody:∀(cdv:Value)(A:Around)(outer:List Env)(s:Shared)(H:Hp)(vs:List V)(Q:VK)(E:XK),cK k (A.deeper (envOfC qual (ar st) s.heap.objs.size f cdv))->sp vs H Q E->
   ∃t,tT (Bp P w K mg base N qual (ar st) f cdv A outer s H E) (dw st) t/\t {nx:=fun _ H'=>Q .cP H',rt:=Q} (start N vs) H):aR P w K mg base (jG P w) (k+1) f fd ps sp:=by
 obtain⟨oc,od,kV,doc,pm,an,cdv,ct,osl,rfl,lk,hcd⟩:=F.ex
 exact Ho lk hcd S len fun A outer s H vs Q E hr hsp=>hbody cdv A outer s H vs Q E hr hsp
end
open PySem PySem.Spec PyProof.Rows PySem.W PySem.Builtin PySem.Builtin.ObjectAttr PySem.Builtin.Getset_descriptor
structure sJ(K:Frag)(C:Addr):Prop where
 ga:findIn K (.ref C) "__getattribute__" =some (some (.builtin "BaseException.__getattribute__"))
 gt:findIn K (.ref C) "__getattr__" =some none
 fd:findIn K (.ref C) "__class__" =some (some (.builtin "object.__class__"))
 sp:specialIn K (.builtin "object.__class__") "__get__" =some (some (.builtin "getset_descriptor.__get__"))
 tk:takesIn K (.builtin "object.__class__")=some true
 mo:mroIn K C (.type "object")=some true
 mb:mroIn K C (.type "BaseException")=some true
 cl:(clsIn K C).isSome=true
def Cb(h:Heap)(x C:Addr)(b:Option Addr:=none):Prop:=∃ox,h.get? x=some ox/\ox.cls= .ref C/\∃vs c,ox.data= .fields vs/\vs[2]?=some c/\(b=none->c=Value.none)
theorem Cb.type {M:Model}{h:Heap}{x C:Addr}{bb:Option Addr}(I:Cb h x C bb):Looks M h (typeOf (.ref x)) (.ref C):=by
 obtain⟨ox,h1,h2,_⟩:=I
 exact h2▸(Looks.ld h1).andThen .now
section
variable{prog:Program}{w:World}{A:Around}{E:Value->Shared->Prop}{s:Shared}{K:Frag}{x C:Addr}
theorem Co{M:Model}{h:Heap}(X:K.In h)(c:sJ K C):Looks M h (Builtin.ObjectAttr.find (.ref x) (.ref C) "__class__") (.bind (.builtin "getset_descriptor.__get__") (.builtin "object.__class__")):=by
 refine(looks_findIn X c.fd).andThen ((looks_specialIn X c.sp).andThen ?_)
 exact(show Looks M h (Builtin.ObjectAttr.dataDescriptor? (some (.builtin "object.__class__")) (some (.builtin "getset_descriptor.__get__"))) (some (.builtin "getset_descriptor.__get__",.builtin "object.__class__"))from(looks_takesIn X c.tk).andThen .now).andThen (Looks.tag .now)
theorem sI{bb:Option Addr}{R:Result->Shared->Prop}{tp:Value}(X:K.In s.heap)(I:Cb s.heap x C bb)(hm:mroIn K C (.type "object")=some true)
  (h:R (.ok (.ret (.ref C))) s):codeAny (model prog w) A (.call (.builtin "getset_descriptor.__get__") ⟨[.builtin "object.__class__",.ref x,tp],[]⟩) R s:=by
 obtain⟨hh,g,dr,t,os⟩:=s
 have L0:=I.type (M:=model prog w)
 have L1:=looks_mroIn (M:=model prog w) X hm
 refine codeAny_call_builtin KF.slot_gs.plain KF.entry_gs (KF.slot_gs.check _ _ _ _ _ _ _ _ KF.type_class (KF.args_gs _ _ _) ?_)
 unfold Builtin.«getset_descriptor.__get__» descrGet
 rw[dga_obj]
 refine wpAny_bind (wpAny_pure ?_)
 unfold descrGetter descrCheckInstance descrNameAndClass isInstance
 simp only[KF.owner_class]
 repeat lk
 refine⟨Code.quiet_builtin _ (by decide+kernel),codeAny_builtin KF.entry_class ?_⟩
 unfold Builtin.«object.__class__» shownTypeOf
 repeat lk
 exact h
theorem u5{bb:Option Addr}{M:Model}{nameV:Value}{Q:Unit->Shared->Prop}(c:sJ K C)(X:K.In s.heap)(I:Cb s.heap x C bb)(hq:Q () s):wpAny M A (checkBuiltinCall "BaseException.__getattribute__" ⟨[.ref x,nameV],[]⟩) Q E s:=by
 obtain⟨h,g,d,t,os⟩:=s
 have hk:builtinKind "BaseException.__getattribute__" =some .slot:=by decide+kernel
 have hsplit:splitId "BaseException.__getattribute__" =some ("BaseException","__getattribute__"):=by decide+kernel
 have L0:Looks M h (isInstance (.ref x) (.type "BaseException")) true:=I.type.andThen (looks_mroIn X c.mb)
 have ha:=F.args_bexc_ga (.ref x) nameV
 simp only[checkBuiltinCall,hk,hsplit]
 refine wpAny_bind (L0.at ?_)
 repeat(any_goals(first|assumption|wp_step))
theorem rf{bb:Option Addr}{tk:Tok}{R:Result->Shared->Prop}(c:sJ K C)(X:K.In s.heap)(I:Cb s.heap x C bb)(h:R (.ok (.ret (.ref C))) s):
  codeAny (model prog w) A (.call (.builtin "BaseException.__getattribute__") ⟨[.ref x,.str "__class__" tk],[]⟩) R s:=by
 refine codeAny_call_builtin F.attrBase_ValueError.ga.plain F.entry_bexc_ga (u5 c X I ?_)
 have L0:=I.type (M:=model prog w)
 have L1:=Co (x:=x) (M:=model prog w) X c
 obtain⟨hh,gg,d,t,os⟩:=s
 unfold Builtin.«object.__getattribute__»
 repeat(any_goals(first|assumption|with_reducible refine wpAny_bind (L0.at ?_)|with_reducible refine wpAny_bind (L1.at ?_)|wp_step))
 exact sI X I c.mo (wpAny_pure h)
theorem BA{bb:Option Addr}{Q:Option Value->Shared->Prop}(c:sJ K C)(X:K.In s.heap)(I:Cb s.heap x C bb)(h:Q (some (.ref C)) {s with toks:=s.toks+1}):wpAny (model prog w) A (getAttr? (.ref x) "__class__") Q E s:=by
 obtain⟨hh,g,d,t,os⟩:=s
 have L0:=I.type (M:=model prog w)
 have L1:=looks_findIn (M:=model prog w) X c.ga
 have L2:=looks_findIn (M:=model prog w) X c.gt
 have f3:=F.attrBase_ValueError.ga.bind (.ref x)
 have hx2:(Value.builtin "BaseException.__getattribute__" ==Value.builtin "object.__getattribute__")=false:=by decide+kernel
 have hx1:(onTheHeap (Value.ref C)&&Value.builtin "BaseException.__getattribute__" ==Value.builtin "object.__getattribute__")=false:=by rw[hx2];rfl
 unfold getAttr? getAttrBy? getAttrBy
 refine wpAny_bind (wpAny_mkText (wpAny_bind (wpAny_attempt (wpAny_holding (wpAny_bind (L0.at (wpAny_bind (L1.at ?_))))))))
 dsimp only
 rw[hx1,if_neg Bool.false_ne_true]
 unfold getAttrByItsOwn hookBefore
 rw[if_pos (show onTheHeap (Value.ref C)=true from rfl)]
 refine wpAny_bind (L2.at ?_)
 refine wpAny_bind (wpAny_attempt (wpAny_holding ?_))
 unfold callGetattribute boundAndCalled
 rw[Bool.false_and,if_neg Bool.false_ne_true]
 refine wpAny_bind (wpAny_of_eq f3 ?_)
 refine wpAny_call (rf (s:=⟨hh,g,d,t+1,os⟩) c X I ?_)
 exact handed_on rfl (wpAny_pure h)
theorem vP{bb:Option Addr}(c:sJ K C):KitX K (.ref x) (.ref C) (fun h=>Cb h x C bb)where
 ty:=fun _ _ _ I=>I.type
 it:=fun _ _ X _=>by
  obtain⟨cdD,hcD⟩:=Option.isSome_iff_exists.mp c.cl
  unfold clsIn at hcD
  split at hcD
  .rename_i c' d' cd' sl' ho
   intro A' Q' E' s' k q
   unfold isType loadHead
   exact wpAny_bind (wpAny_loadPart (k _ _ (X _ _ ho)) (wpAny_pure q))
  .cases hcD
 ne:=fun h tp dd its n sl X htp=>by
  obtain⟨cdD,hcD⟩:=Option.isSome_iff_exists.mp c.cl
  refine Bool.eq_false_iff.mpr fun q=>?_
  have e:C=tp:=Value.ref.inj (beq_iff_eq.mp q)
  subst e
  unfold clsIn at hcD
  split at hcD
  .rename_i c' d' cd' sl' ho
   have z:=(X _ _ ho).symm.trans htp
   cases z
  .cases hcD
 ca:=fun X I k=>BA c X I k
end
abbrev HO.exc (e C:Addr)(bb:Option Addr:=none):HO:= .ext fun h=>Cb h e C bb
theorem Cb.ok {P:Program}{w:World}{H:Hp}{e C:Addr}{h:Heap}{bb:Option Addr}(x:Cb h e C bb):bN P w H h e (.exc e C bb):=by
 obtain⟨ox,h1,h2,_⟩:=id x
 refine⟨x,⟨ox,h1⟩,fun g1 g2 p k=>?_⟩
 obtain⟨oy,a1,a2⟩:=p
 exact⟨oy,k _ a1,a2⟩
def K1(K:Frag):List V->Hp->VK->Prop:=fun xs H Q=>∃(e C:Addr)(c:V)(cv:Value)(b:Bool),xs=[.ref e,c]/\H e=some (.exc e C)/\sJ K C/\(∀u,RelV c u->u=cv)/\kitOne K (.ref C) cv=some b/\Q (.bl b) H
theorem Kp{X:Cx}{K:Frag}(hK:X.K=K):cq X (.builtin "isinstance") (K1 K):=by
 subst hK
 intro pins s σ H xs us Q I r h
 obtain⟨e,C,c,cv,b,rfl,he,ci,hc,hb,q⟩:=h
 match us,r with
 |[u1,u2],.cons r1 (.cons r2 .nil)=>
  obtain rfl:u1= .ref e:=r1
  obtain rfl:=hc _ r2
  obtain⟨x,_,_⟩:=I.aY e _ he
  exact kia_one (vP ci) I.kU x hb (fun z=>nomatch z) fun tk=>⟨.bl b,H,I.tok tk,rfl,q⟩
def IT(K:Frag):List V->Hp->VK->Prop:=fun xs H Q=>∃(e C:Addr)(bb:Option Addr)(c:V)(cv:Value)(b:Bool),xs=[.ref e,c]/\H e=some (.exc e C bb)/\sJ K C/\(∀u,RelV c u->u=cv)/\kitOne K (.ref C) cv=some b/\Q (.bl b) H
theorem bE{X:Cx}{K:Frag}(hK:X.K=K):cq X (.builtin "isinstance") (IT K):=by
 subst hK
 intro pins s σ H xs us Q I r h
 obtain⟨e,C,bb,c,cv,b,rfl,he,ci,hc,hb,q⟩:=h
 match us,r with
 |[u1,u2],.cons r1 (.cons r2 .nil)=>
  obtain rfl:u1= .ref e:=r1
  obtain rfl:=hc _ r2
  obtain⟨x,_,_⟩:=I.aY e _ he
  exact kia_one (vP ci) I.kU x hb (fun z=>nomatch z) fun tk=>⟨.bl b,H,I.tok tk,rfl,q⟩
structure CK(K:Frag)(C D:Addr)(b:Bool):Prop where
 ty:typeIn K (.ref D)=some (.type "type")
 cd:(clsIn K D).isSome=true
 mb:mroIn K D (.type "BaseException")=some true
 mc:mroIn K C (.ref D)=some b
section
variable{M:Model}{A:Around}{E:Value->Shared->Prop}{s:Shared}{K:Frag}{e C D:Addr}{b:Bool}
theorem A2{h:Heap}(X:K.In h)(c:(clsIn K D).isSome=true):Looks M h (isType (.ref D)) true:=by
 obtain⟨cdD,hcD⟩:=Option.isSome_iff_exists.mp c
 unfold clsIn at hcD
 split at hcD
 .rename_i c' d' cd' sl' ho
  intro A' Q' E' s' k q
  unfold isType loadHead
  exact wpAny_bind (wpAny_loadPart (k _ _ (X _ _ ho)) (wpAny_pure q))
 .cases hcD
theorem xm{bb:Option Addr}{Q:Bool->Shared->Prop}(m:CK K C D b)(X:K.In s.heap)(I:Cb s.heap e C bb)(hq:Q b s):wpAny M A (excMatches (.ref e) (.ref D)) Q E s:=by
 obtain⟨h,g,d,t,os⟩:=s
 have L1:Looks M h (isInstance (.ref D) (.type "tuple")) false:=(looks_typeIn X m.ty).andThen (Looks.of_pure tc_notTuple)
 have L2:=A2 (M:=M) X m.cd
 have L3:=looks_mroIn (M:=M) X m.mb
 have L4:=I.type (M:=M)
 have L5:=looks_mroIn (M:=M) X m.mc
 have L6:Looks M h (isExcClass (.ref D)) true:=L2.andThen L3
 unfold excMatches
 refine wpAny_bind (L1.at ?_)
 rw[if_neg Bool.false_ne_true]
 refine wpAny_bind (wpAny_pure ?_)
 simp only[List.forIn_cons,List.forIn_nil]
 refine wpAny_bind (wpAny_bind (wpAny_bind (L6.at ?_)))
 simp only[Bool.not_true,Bool.false_eq_true,if_false]
 refine wpAny_pure (wpAny_pure (wpAny_bind (L4.at ?_)))
 refine wpAny_bind (wpAny_bind (wpAny_bind (L5.at ?_)))
 cases b
 .exact wpAny_pure (wpAny_pure (wpAny_pure hq))
 .exact wpAny_pure (wpAny_pure (wpAny_pure hq))
end
def oK(X:Cx)(pins:List (Addr×Obj))(σ:St)(H:Hp)(s:Shared)(e:Addr)(cls:Value)(bb:Option Addr:=none):Prop:=
 ∃(H₁:Hp)(s₁:Shared)(B:Heap)(a0:Value),Inv X pins σ H₁ s₁/\s.os=s₁.os/\AllBare s.gens/\wB X.prog X.w X.stack H₁ s₁.heap e cls a0 B H s.heap bb
section
variable{X:Cx}{pins:List (Addr×Obj)}{σ:St}{H:Hp}{s:Shared}{e:Addr}{cls:Value}{bb:Option Addr}
theorem oK.inv (h:oK X pins σ H s e cls bb):Inv X pins σ H s:=by
 obtain⟨H₁,s₁,B,a0,I,os,bare,F⟩:=h
 exact I.DN (ch:=[]) os F.un F.aY bare fun b z=>absurd z (by simp)
theorem oK.Nt {C:Addr}(h:oK X pins σ H s e (.ref C) bb):Cb s.heap e C bb:=by
 obtain⟨H₁,s₁,B,a0,I,os,bare,F⟩:=h
 obtain⟨o,h1,h2⟩:=F.fl.there
 obtain⟨o',vs,c,g1,g2,g3,g4⟩:=F.lo
 rw[h1]at g1
 cases g1
 exact⟨o,h1,h2,vs,c,g2,g3,g4⟩
theorem oK.free (h:oK X pins σ H s e cls bb):H e=none:=by
 obtain⟨H₁,s₁,B,a0,I,os,bare,F⟩:=h
 cases q:H e with
 |none=>rfl
 |some u=>
  obtain⟨o,ho⟩:=(F.aY e u q).here
  have:=F.vM e u o q ho
  rw[F.fl.2.1]at this;cases this
theorem oK.lands {M:Model}{A:Around}{E:Value->Shared->Prop}{Q:Unit->Shared->Prop}(h:oK X pins σ H s e cls bb)(k:∀h',oK X pins σ H {s with heap:=h'} e cls bb->Q () {s with heap:=h'}):wpAny M A (setFlight (.ref e) none) Q E s:=by
 obtain⟨H₁,s₁,B,a0,I,os,bare,F⟩:=h
 exact kX F.fl.1 F.fl.2.1 F.fl.2.2.1 F.fl.2.2.2.at F.lo fun h' fl sm lo=>k h' ⟨H₁,s₁,B,a0,I,os,bare,F.move fl sm lo⟩
theorem oK.CL {C:Addr}(h:oK X pins σ H s e (.ref C) bb):Inv X pins σ (upd H e (.exc e C bb)) s:=by
 have hf:=h.free
 have hx:=h.Nt
 obtain⟨H₁,s₁,B,a0,I,os,bare,F⟩:=h
 have new:s₁.heap.get? e=none:=by
  cases q:s₁.heap.get? e with
  |none=>rfl
  |some o=>
   obtain⟨o',ho'⟩:=F.un.there e o q (by simp)
   by_cases hb:e∈gQ X.stack
   .obtain⟨_,o2,e2,nf⟩:=F.fl.2.2.1.mem hb
    obtain⟨oe,vs,T,oT,ts,he,_,hd,_⟩:=F.fl.2.2.2
    rw[he]at e2;cases e2
    exact absurd hd (nf vs)
   .have:=F.old e o o' q hb ho'
    rw[F.fl.2.1]at this;cases this
 have ne:∀b o,s₁.heap.get? b=some o->b≠e:=fun b o q z=>by rw[z,new]at q;cases q
 have nt:∀b u,H b=some u->b≠e:=fun b u q z=>by rw[z,hf]at q;cases q
 refine I.DN (ch:=[]) os ⟨F.un.keep,F.un.slot,fun b o q n hx=>?_,F.un.there,fun b xs q=>?_,fun b o u q=>?_,fun b ps q=>?_⟩ (fun b u q=>?_) bare fun b z=>absurd z (by simp)
 .rw[ao (ne b o q)];exact F.un.free b o q n hx
 .have:=F.un.cy b xs q
  rw[ao (nt b _ this)];exact this
 .have:=F.un.iX b o u q
  rw[ao (nt b _ this)];exact this
 .obtain⟨m,e1⟩:=F.un.jM b ps q
  exact⟨m,by rw[ao (nt b _ e1)];exact e1⟩
 .by_cases hb:b=e
  .subst hb
   rw[ae]at q;cases q
   exact hx.ok
  .rw[ao hb]at q
   exact(F.aY b u q).iF (fun _ _ _ z=>z) (fun c z=>by rw[ao (nt c _ z)];exact z) fun c xs z=>by rw[ao (nt c _ z)];exact z
end
abbrev Xh(X:Cx)(e:Addr):Cx:={X with A:=X.A.mark (some (.ref e)),calm:=false,xe:=fun _ _=>False}
section
variable{X:Cx}{pins:List (Addr×Obj)}{σ:St}{H:Hp}{s:Shared}{e:Addr}{D:Ends}
theorem Inv.Nn (I:Inv X pins σ H s)(e:Addr):Inv (Xh X e) pins σ H s:=
 ⟨⟨I.ok.mod,I.ok.kind,I.ok.glob,I.ok.blt,I.ok.above,I.ok.inj,I.ok.has,I.ok.DF,(fun h=>Bool.noConfusion h),I.ok.frames,I.ok.Cd,I.ok.HF,I.ok.bs,I.ok.Ai,I.ok.qg,I.ok.sW,I.ok.iR,I.ok.p9⟩,I.os,I.bare,I.base,I.loc,I.cell,I.free,I.fO,I.pin,I.aY,I.len⟩
theorem Inv.Kq (I:Inv (Xh X e) pins σ H s)(ok:X.Ok):Inv X pins σ H s:=⟨ok,I.os,I.bare,I.base,I.loc,I.cell,I.free,I.fO,I.pin,I.aY,I.len⟩
theorem SP.Kq {f:Flow}{s':Shared}(h:SP (Xh X e) pins D f s')(ok:X.Ok):SP X pins D f s':=by
 cases f with
 |next=>obtain⟨σ',H',I,q⟩:=h;exact⟨σ',H',I.Kq ok,q⟩
 |brk=>obtain⟨σ',H',I,q⟩:=h;exact⟨σ',H',I.Kq ok,q⟩
 |cont=>obtain⟨σ',H',I,q⟩:=h;exact⟨σ',H',I.Kq ok,q⟩
 |ret u=>obtain⟨v,σ',H',I,r,q⟩:=h;exact⟨v,σ',H',I.Kq ok,r,q⟩
theorem p7{M:Model}{A:Around}{E:Value->Shared->Prop}{i:Nat}{x:Str}{pos:Pos}{Q:Unit->Shared->Prop}(I:Inv X pins σ H s)(hN:X.N.Nodup)(hi:X.N[i]?=some x)(hk:X.env.scope.names.lookup x=some .local)
  (h:∀s',Inv X pins (σ.set i none) H s'->Q () s'):wpAny M A (do bindName X.env x .none;unbindBehindTheSuite X.env x pos) Q E s:=by
 obtain⟨m,hn,hl⟩:=id I.loc
 have hcls:(X.env.scope.kind== .class||(X.env.scope.kind== .module&&X.env.locals !=X.env.globals))=false:=by rw[I.ok.kind];rfl
 have hiσ:i<σ.length:=by rw[I.len];exact(List.getElem?_eq_some_iff.mp hi).1
 have DW:=I.DW
 obtain⟨oL,_,_,hoL,_⟩:=id hn
 refine wpAny_nameGoes_keeps hk hn hcls fun h' v hn' hs=>?_
 refine h _ ⟨I.ok,I.os,I.bare,⟨fun b o e n hb hx=>?_,fun b o e n hb hx=>?_,I.base.free,fun b o e hx=>?_,I.base.cy,I.base.iX,I.base.jM⟩,⟨_,hn',fun j y v' e1 e2 e3=>?_⟩,fun y c e=>?_,I.free,I.fO,fun p hp=>?_,fun b ob e=>?_,by simpa using I.len⟩
 .exact(hs.2 b (Nat.ne_of_lt (Nat.lt_of_lt_of_le (Heap.lt_size e) I.ok.above))).trans (I.base.keep b o e n hb hx)
 .obtain⟨sl,e1⟩:=I.base.slot b o e n hb hx
  exact⟨sl,(hs.2 b (Nat.ne_of_lt (Nat.lt_of_lt_of_le (Heap.lt_size e) I.ok.above))).trans e1⟩
 .obtain⟨o',e1⟩:=I.base.there b o e hx
  exact⟨o',(hs.2 b (Nat.ne_of_lt (Nat.lt_of_lt_of_le (Heap.lt_size e) I.ok.above))).trans e1⟩
 .by_cases hj:j=i
  .subst hj
   rw[List.getElem?_set_self hiσ]at e2
   cases e2
  .rw[List.getElem?_set_ne (Ne.symm hj)]at e2
   obtain⟨u',r',q⟩:=hl j y v' e1 e2 e3
   refine⟨u',r',?_⟩
   rcases q with⟨k,e⟩|⟨k,c,e,z⟩
   .refine .inl ⟨k,?_⟩
    have:y≠x:=fun e=>hj (qp hN e1 (e▸hi))
    simp[this,e]
   .exact .inr ⟨k,c,e,z.sameBut hs (DW y c e)⟩
 .obtain⟨w',z⟩:=I.cell y c e
  exact⟨w',z.sameBut hs (DW y c e)⟩
 .obtain⟨e,n,ne,nf,d⟩:=I.pin p hp
  exact⟨(hs.2 p.1 ne).trans e,n,ne,nf,d⟩
 .refine(I.aY b ob e).iF (fun c w' hc q=>(hs.2 c ?_).trans q) (fun _ q=>q) fun _ _ q=>q
  rintro rfl
  rcases hc with rfl|hc
  .rw[I.free]at e;cases e
  .rw[I.free]at hc;cases hc
end
abbrev TH:=Ends->St->Value->Addr->Hp->Prop
def KS:TH:=fun _ _ _ _ _=>False
def Nz(X:Cx)(pins:List (Addr×Obj))(Es:St->XK):Value->Shared->Prop:=fun ev s'=>∃(σ:St)(H₁:Hp)(s₁:Shared),Inv X pins σ H₁ s₁/\jG X.prog X.w X.stack H₁ s₁ (Es σ) ev s'
abbrev Xt(X:Cx)(pins:List (Addr×Obj))(Es:St->XK):Cx:={X with pn:=X.pn++pins,xe:=Nz X pins Es}
section
variable{X:Cx}{pins:List (Addr×Obj)}{Es:St->XK}{σ:St}{H:Hp}{s:Shared}
theorem Inv.toT (I:Inv X pins σ H s):Inv (Xt X pins Es) [] σ H s:=
 ⟨⟨I.ok.mod,I.ok.kind,I.ok.glob,I.ok.blt,I.ok.above,I.ok.inj,I.ok.has,I.ok.DF,I.ok.hd,I.ok.frames,I.ok.Cd,I.ok.HF,I.ok.bs,I.ok.Ai,I.ok.qg,I.ok.sW,I.ok.iR,I.ok.p9⟩,I.os,I.bare,I.base,I.loc,I.cell,I.free,I.fO,fun p hp=>I.pin p (by simpa using hp),I.aY,I.len⟩
theorem Inv.ofT {ps':List (Addr×Obj)}(I:Inv (Xt X pins Es) ps' σ H s):Inv X pins σ H s:=
 ⟨⟨I.ok.mod,I.ok.kind,I.ok.glob,I.ok.blt,I.ok.above,I.ok.inj,I.ok.has,I.ok.DF,I.ok.hd,I.ok.frames,I.ok.Cd,I.ok.HF,I.ok.bs,I.ok.Ai,I.ok.qg,I.ok.sW,I.ok.iR,I.ok.p9⟩,I.os,I.bare,I.base,I.loc,I.cell,I.free,I.fO,fun p hp=>I.pin p (List.mem_append_left _ hp),I.aY,I.len⟩
theorem SP.ofT {D:Ends}{f:Flow}{s':Shared}(h:SP (Xt X pins Es) [] D f s'):SP X pins D f s':=by
 cases f with
 |next=>obtain⟨σ',H',I,q⟩:=h;exact⟨σ',H',I.ofT,q⟩
 |brk=>obtain⟨σ',H',I,q⟩:=h;exact⟨σ',H',I.ofT,q⟩
 |cont=>obtain⟨σ',H',I,q⟩:=h;exact⟨σ',H',I.ofT,q⟩
 |ret u=>obtain⟨v,σ',H',I,r,q⟩:=h;exact⟨v,σ',H',I.ofT,r,q⟩
end
structure iE(P:Program)(w:World)(K:W.Frag)(mg:Str->Option Value)(base:Heap)(x:Str)(k:Nat)(ps:List Str)(sp:Sp):Prop where
 ex:∃(f:Addr)(fd:FuncData),aR P w K mg base (jG P w) k f fd ps sp/\mg x=some (.ref f)/\W.keepIn K (.ref f)=true/\Binds K fd ps []
section
variable{X:Cx}{x:Str}{k:Nat}{ps:List Str}{sp:Sp}{e:Expr}{es:List Expr}{t:TA}{p pos:Pos}
theorem dN{E:XK}(F:iE X.prog X.w X.K X.mg X.base x k ps sp)(hx:Passes (jG X.prog X.w) X E)(hr:cK k X.A)(hg:Gl X x)(ha:PA X (e::es) t)(hdb:(x==("__debug__" :Str))=false:=by decide+kernel)(he:starEach (e::es) X.env=(false,eval e X.env)::starEach es X.env:=by rfl)(hpl:(backTo pos (starEach es X.env)).any (·.1)=false:=by rfl):
  PE X (.Call (.Name x p) (e::es) [] pos) (rJ sp [] E t):=by
 obtain⟨f,fd,F,hm,hk,hb⟩:=F.ex
 exact zL F hr hg hm hk hb .nil hx ha hdb he hpl
end
open PySem PySem.Spec PyProof.Rows PySem.SeqAt
theorem fU{X:Cx}{x:Str}{C:Addr}{pos:Pos}(hg:Gl X x)(hm:X.mg x=some (.ref C))(hd:(x==("__debug__" :Str))=false:=by decide):PE X (.Name x pos) (tC (.ref C)):=cT (v:= .ref C) hg hm rfl hd
section
variable{X:Cx}{K:W.Frag}
def Fl(K:W.Frag):V->List V->Hp->VK->Prop:=fun x vs H Q=>∃(l:Addr)(bs:List Bool)(b:Bool),x= .ref l/\vs=[.bl b]/\H l=some (.lst (bs.map V.bl))/\Q (.int (bs.count b:Nat)) H
theorem AX(hK:X.K=K):Bm X "list.count" (Fl K):=by
 subst hK
 intro pins s σ H x vs v us Q I rx rv h
 obtain⟨l,bs,b,rfl,rfl,hH,q⟩:=h
 cases rx
 obtain⟨u,rfl,ru⟩:=rv.one
 cases(show u=Value.bool b from ru)
 obtain⟨z,its,n,r,hl,e⟩:=I.sr hH
 have eq:=iT r
 subst eq
 refine call_meets F.slot_list_count ⟨_,e,rfl⟩ F.entry_list_count (F.args_list_count_2 _ _) (list_countAt l _ n none #[] (.bool b) (fun y=>y== .bool b)) ⟨e,fun y hy=>?_,?_⟩
 .obtain⟨c,_,rfl⟩:=List.mem_map.mp (Array.mem_def.mp hy)
  have:((Value.bool c==Value.bool b):Bool)=(c==b):=by cases c<;>cases b<;>rfl
  rw[this]
  exact EqAt.bool_bool c b
 .refine⟨.int (bs.count b:Nat),H,I.tok _,⟨s.toks,?_⟩,q⟩
  have:∀l:List Bool,(l.map Value.bool).countP (fun y=>y== .bool b)=l.count b:=fun l=>by
   rw[List.countP_map,List.count]
   congr 1
   funext c
   cases c<;>cases b<;>rfl
  simp only[List.toList_toArray]
  rw[this]
end
section
variable{X:Cx}{K:W.Frag}
def Gf:V->List V->Hp->VK->Prop:=fun x vs H Q=>∃(l:Addr)(xs:List V)(i:Int)(y:V),x= .ref l/\vs=[.int i,y]/\H l=some (.lst xs)/\0<=i/\i<=xs.length/\xs.length<=1000000/\Q .cP (upd H l (.lst (xs.take i.toNat++y::xs.drop i.toNat)))
theorem Jo(its:List Value)(k:Nat)(y:Value):(its.toArray.extract 0 k).push y++its.toArray.extract k=(its.take k++y::its.drop k).toArray:=by
 apply Array.toList_inj.mp
 simp[List.take_of_length_le]
theorem Bi:Bm X "list.insert" Gf:=by
 intro pins s σ H x vs v us Q I rx rv h
 obtain⟨l,xs,i,y,rfl,rfl,hH,h0,h1,hz,q⟩:=h
 cases rx
 obtain⟨u,u',rfl,⟨t,rfl⟩,ru⟩:=vals2 rv
 obtain⟨z,its,n,r,hl,e⟩:=I.sr hH
 have big:(10000000:Nat)<=sizeLine:=by decide
 refine call_meets F.slot_list_insert ⟨_,e,rfl⟩ F.entry_list_insert (F.args_list_insert_3 _ _ _) (PySem.AutoSeq1.list_insert_list_int_val_1 l its.toArray n i t u' (by rw[fitsIndex_both (by lia) (by lia)];simp) (by rw[List.size_toArray];lia)) ⟨e,?_⟩
 refine⟨.cP,_,I.Ju (its':=its.take i.toNat++u'::its.drop i.toNat) hH e ?_ ((r.take _).append (.cons ru (r.drop _))) ?_,rfl,q⟩
 .dsimp only
  rw[if_neg (by lia)]
  have:min i.toNat its.toArray.size=i.toNat:=by rw[List.size_toArray];lia
  rw[this]
  exact Jo its _ u'
 .rw[N0,N5,N3,List.length_drop]
  lia
end
theorem n6{c k p es env}:starEach (.Constant c k p::es) env=(false,eval (.Constant c k p) env)::starEach es env:=rfl
theorem du{x p es env}:starEach (.Name x p::es) env=(false,eval (.Name x p) env)::starEach es env:=rfl
theorem yB{a o b p es env}:starEach (.BinOp a o b p::es) env=(false,eval (.BinOp a o b p) env)::starEach es env:=rfl
theorem cR{f a k p es env}:starEach (.Call f a k p::es) env=(false,eval (.Call f a k p) env)::starEach es env:=rfl
theorem oi{a b p es env}:starEach (.Subscript a b p::es) env=(false,eval (.Subscript a b p) env)::starEach es env:=rfl
def JK:Expr->Option V
 | .Constant (.int i) _ _=>some (.int i)
 | .Constant (.str s) _ _=>some (.str s)
 |_=>none
def zJ:List Expr->Option (List V)
 |[]=>some []
 |e::es=>match JK e,zJ es with
  |some v,some vs=>some (v::vs)
  |_,_=>none
def GF(vs:List V):TA:=fun _ H Q=>Q vs H
theorem oz{X:Cx}:∀(es:List Expr)(vs:List V),zJ es=some vs->PA X es (GF vs)
 |[],vs,h=>by cases h;exact af
 |e::es,vs,h=>by
  unfold zJ at h
  cases h1:JK e with
  |none=>rw[h1]at h;cases h
  |some v=>
   cases h2:zJ es with
   |none=>rw[h1,h2]at h;cases h
   |some ws=>
    rw[h1,h2]at h
    cases h
    have ih:=oz (X:=X) es ws h2
    unfold JK at h1
    split at h1
    .cases h1
     exact aa ak ih n6
    .cases h1
     exact aa aw ih n6
    .cases h1
end L2
namespace Sw
open PySem L2
def top(i:Nat):Stmt:=PySem.Challenge.pw_swapstars_k75_a_desk_asked.main.body.getD i (.Pass ⟨0,0,0,0⟩)
theorem Kn(b:Bool): -(2^64)<(if b=true then(1:Int)else 0)/\(if b=true then(1:Int)else 0)<2^64/\0<=(if b=true then(1:Int)else 0):=by cases b<;>decide
structure cY(H:Hp)(p:Addr)(c:Nat):Prop where
 ex:∃(a b d:Int),H p=some (.lst [.int a,.int b,.int d])/\0<=a/\0<=b/\b<2147483647/\0<=d/\d<=c/\c<=100000
def zZ(K:W.Frag):Sp:=fun vs H Q _=>∃(a:Addr)(ns:List Int)(i:Int),vs=[.ref a,.int i]/\aC K H a (ns.map V.int)/\0<=i/\i<=1000/\∀p H',H p=none->cY H' p 0->ag H H'->Q (.ref p) H'
def qS:Sp:=fun vs H Q _=>∃(p:Addr)(c:Nat)(m:Int),vs=[.ref p,.int m]/\cY H p c/\c<100000/\0<m/\m<2^200/\∀r H',0<=r->r<m->cY H' p (c+1)->bD p H H'->Q (.int r) H'
section
variable{P:Program}{w:World}{K:W.Frag}{mg:Str->Option Value}{base:Heap}
theorem dU:az ["_law_purse_here","_law_many","_law_turn","_law_one","_law_other","_law_digit"] ["_law_purse_here","_law_many"] (ar (top 117)):=⟨rfl,rfl,rfl,by decide+kernel,rfl,by decide+kernel,by decide+kernel⟩
theorem Gb{f:Addr}{fd:FuncData}(F:dh K "_law_take" "_law_take" (top 117) f fd):aR P w K mg base hZ 1 f fd ["_law_purse_here","_law_many"] qS:=by
 refine F.ok dU (fun vs H Q E h=>?_) (fun cdv A outer s H vs Q E hr h=>?_)
 .obtain⟨p,c,m,rfl,_⟩:=h
  rfl
 .obtain⟨p,c,m,rfl,⟨a,b,d,hp,ha,hb,hb2,hd,hdc,hc0⟩,hc,hm,hm2,k⟩:=h
  refine⟨_,(ah (bt (aI qB (aQ (av (K:=K) rfl) (pv 0) ak (fun _ _=>rfl)) ak (aL _)) (ah (aB (i:=5) dU.nd rfl (Or.inl rfl) (ax lZ (aQ (av (K:=K) rfl) (pv 0) ak (fun _ _=>rfl)) (pv 1)))
   (ah (qG (ax mK (aQ (av (K:=K) rfl) (pv 0) ak (fun _ _=>rfl)) (pv 1)) (En (pv 0) ak set_list))
   (ai (aA (pv 5))))) aE)
   (ah (qG (ax bw (aQ (av (K:=K) rfl) (pv 0) ak (fun _ _=>rfl)) ak) (En (pv 0) ak set_list))
   (ah (aB (i:=2) dU.nd rfl (Or.inl rfl) (aQ (av (K:=K) rfl) (pv 0) ak (fun _ _=>rfl)))
   (ah (aB (i:=3) dU.nd rfl (Or.inl rfl) (ax lZ (ax yO (ax bw (ax bw (aQ (av (K:=K) rfl) (pv 0) ak (fun _ _=>rfl)) (ax lT (ax lT ak (pv 2)) (pv 2))) ak) ak) ak))
   (ah (aB (i:=4) dU.nd rfl (Or.inl rfl) (ax lZ (ax yO (ax bw (ax lT (pv 3) (ax bw (ax lT ak (pv 2)) ak)) (pv 2)) ak) ak))
   (ai (aA (ax lZ (ax mK (ax bw (ax lT (pv 3) ak) (pv 4)) ak) (pv 1))))))))),?_⟩
  refine⟨_,rfl,p,_,_,_,rfl,rfl,aC.of hp,rfl,_,_,rfl,rfl,_,rfl,?_⟩
  refine dQ (fun _=>?_) (fun _=>?_)
  .refine⟨_,rfl,p,_,_,_,rfl,rfl,aC.of hp,rfl,_,rfl,_,_,rfl,rfl,hm,?_⟩
   refine⟨_,rfl,p,_,_,_,rfl,rfl,aC.of hp,rfl,_,rfl,_,_,rfl,rfl,⟨hm,hm2⟩,_,rfl,p,_,_,0,rfl,rfl,hp,rfl,?_⟩
   refine⟨_,rfl,?_⟩
   exact k _ _ (Int.emod_nonneg _ (by lia)) (Int.emod_lt_of_pos _ hm) ⟨_,_,_,ae,Int.ediv_nonneg ha (by lia),hb,hb2,hd,by lia,by lia⟩ bD.upd
  .refine⟨_,rfl,p,_,_,_,rfl,rfl,aC.of hp,rfl,_,_,rfl,rfl,_,rfl,p,_,_,2,rfl,rfl,hp,rfl,?_⟩
   have h1:upd H p (.lst [.int a,.int b,.int (d+1)]) p=some (.lst [.int a,.int b,.int (d+1)]):=ae
   refine⟨_,rfl,p,_,_,_,rfl,rfl,aC.of h1,rfl,?_⟩
   have posM:(0:Int)<2147483647:=by decide
   have posN:(0:Int)<998244353:=by decide
   have t0:0<=d+1:=by lia
   have t1:d+1<=200000:=by lia
   have t2:0<=48271*(d+1)*(d+1):=Int.mul_nonneg (by lia) t0
   have t3:48271*(d+1)*(d+1)<=48271*200000*200000:=Int.mul_le_mul (by lia) t1 t0 (by lia)
   refine⟨_,rfl,p,_,_,_,rfl,rfl,aC.of h1,rfl,_,rfl,_,_,rfl,rfl,.inl ⟨by lia,by lia⟩,_,rfl,_,_,rfl,rfl,.inr ⟨by lia,by lia⟩,_,_,rfl,rfl,_,_,rfl,rfl,_,_,rfl,rfl,⟨by lia,by lia,by lia⟩,_,_,rfl,rfl,posM,?_⟩
   have o0:0<=((b+48271*(d+1)*(d+1)+1)^Int.toNat 5%2147483647):=Int.emod_nonneg _ (by decide)
   have o1:((b+48271*(d+1)*(d+1)+1)^Int.toNat 5%2147483647)<2147483647:=Int.emod_lt_of_pos _ (by decide)
   have u0:0<=((b+48271*(d+1)*(d+1)+1)^Int.toNat 5%2147483647)*(2*(d+1)+30011):=Int.mul_nonneg o0 (by lia)
   have u1:((b+48271*(d+1)*(d+1)+1)^Int.toNat 5%2147483647)*(2*(d+1)+30011)<=2147483647*430011:=Int.mul_le_mul (by lia) (by lia) (by lia) (by lia)
   refine⟨_,rfl,_,rfl,_,_,rfl,rfl,.inl ⟨by lia,by lia⟩,_,_,rfl,rfl,_,_,rfl,rfl,.inl ⟨by lia,by lia⟩,_,rfl,_,_,rfl,rfl,_,_,rfl,rfl,⟨by lia,by lia,by lia⟩,_,_,rfl,rfl,posN,?_⟩
   refine⟨_,rfl,_,_,rfl,rfl,.inl ⟨by lia,by lia⟩,_,rfl,_,_,rfl,rfl,_,_,rfl,rfl,⟨by decide,by decide⟩,_,rfl,_,_,rfl,rfl,hm,?_⟩
   exact k _ _ (Int.emod_nonneg _ (by lia)) (Int.emod_lt_of_pos _ hm) ⟨_,_,_,h1,ha,hb,hb2,t0,by lia,by lia⟩ bD.upd
structure ze(mg:Str->Option Value):Prop where
 bV:mg "len" =none
 KJ:mg "abs" =none
 qL:mg "int" =none
theorem fG:az ["_law_script","_law_at","_law_cell","_law_far"] ["_law_script","_law_at"] (ar (top 116)):=⟨rfl,rfl,rfl,by decide+kernel,rfl,by decide+kernel,by decide+kernel⟩
theorem Et{f:Addr}{fd:FuncData}(F:dh K "_law_purse" "_law_purse" (top 116) f fd)(T:ze mg):aR P w K mg base hZ 1 f fd ["_law_script","_law_at"] (zZ K):=by
 refine F.ok fG (fun vs H Q E h=>?_) (fun cdv A outer s H vs Q E hr h=>?_)
 .obtain⟨a,ns,i,rfl,_⟩:=h
  rfl
 .obtain⟨a,ns,i,rfl,hs,hi,hi2,k⟩:=h
  refine⟨_,(ah (aB (i:=2) fG.nd rfl (Or.inl rfl) ak)
   (ah (bt (aI Dx (pv 1) (aq (aK (K:=K) rfl) rfl T.bV (by decide+kernel) (aa (pv 0) af)) (aL _)) (ai (aB (i:=2) fG.nd rfl (Or.inl rfl) (aQ (av (K:=K) rfl) (pv 0) (pv 1) (fun _ _=>rfl)))) aE)
   (ah (aB (i:=3) fG.nd rfl (Or.inl rfl) (aq DR rfl T.KJ (by decide+kernel) (aa (pv 2) af)))
   (ai (aA (aZ (@aa _ _ _ _ _ (ax lT (pv 3) (aO kR rfl T.qL (by decide+kernel) (aa (fH LX (pv 3) (ax yO ak ak) (aL _)) af))) (@aa _ _ _ _ _ (ax lZ (ax bw (ax bw (ax lZ (pv 2) ak) (ax lT ak (pv 1))) ak) ak) (@aa _ _ _ _ _ ak af n6) yB) yB))))))),?_⟩
  have posM:(0:Int)<2147483647:=by decide
  refine⟨_,rfl,_,rfl,a,_,rfl,.inl hs,_,_,rfl,rfl,_,rfl,?_⟩
  refine dQ (fun hlt=>?_) (fun _=>?_)
  .have hlt:i<((ns.map V.int).length:Int):=of_decide_eq_true hlt
   rw[NY]at hlt
   have hx:∃x,ns[i.toNat]?=some x:=by
    rw[N1 (by lia)]
    exact⟨_,rfl⟩
   obtain⟨x,hx⟩:=hx
   have ha:rF (ns.map V.int) i=some (V.int x):=by
    have e:((i.toNat:Nat):Int)=i:=Int.toNat_of_nonneg hi
    rw[←e]
    exact aX (by rw[NZ,hx];rfl)
   refine⟨_,rfl,_,rfl,a,_,_,_,rfl,rfl,hs,ha,?_⟩
   refine⟨_,rfl,x,rfl,?_⟩
   refine⟨_,rfl,_,rfl,_,_,rfl,rfl,⟨by decide,by decide,by decide⟩,_,_,rfl,rfl,.inr ⟨_,rfl,_,_,rfl,rfl,.inr ⟨?b1,?b2⟩,_,rfl,_,_,rfl,rfl,posM,_,rfl,_,_,rfl,rfl,.inl ⟨by decide,by decide⟩,_,_,rfl,rfl,_,_,rfl,rfl,_,_,rfl,rfl,posM,(by show 3<=sizeLine;decide),fun p hp=>?_⟩⟩
   (case b1=>exact(Kn _).1)
   (case b2=>exact(Kn _).2.1)
   refine k p _ hp ⟨⟨_,_,_,ae,?_,Int.emod_nonneg _ (by decide),Int.emod_lt_of_pos _ (by decide),Int.le_refl _,by decide,by decide⟩⟩ (ag.new hp)
   refine Int.mul_nonneg ?_ ?_
   .split<;>lia
   .exact(Kn _).2.2
  .refine⟨_,rfl,0,rfl,?_⟩
   refine⟨_,rfl,_,rfl,_,_,rfl,rfl,⟨by decide,by decide,by decide⟩,_,_,rfl,rfl,.inr ⟨_,rfl,_,_,rfl,rfl,.inr ⟨?b1,?b2⟩,_,rfl,_,_,rfl,rfl,posM,_,rfl,_,_,rfl,rfl,.inl ⟨by decide,by decide⟩,_,_,rfl,rfl,_,_,rfl,rfl,_,_,rfl,rfl,posM,(by show 3<=sizeLine;decide),fun p hp=>?_⟩⟩
   (case b1=>exact(Kn _).1)
   (case b2=>exact(Kn _).2.1)
   refine k p _ hp ⟨⟨_,_,_,ae,?_,Int.emod_nonneg _ (by decide),Int.emod_lt_of_pos _ (by decide),Int.le_refl _,by decide,by decide⟩⟩ (ag.new hp)
   refine Int.mul_nonneg ?_ ?_
   .split<;>lia
   .exact(Kn _).2.2
end
end Sw
namespace L2
open PySem
theorem sR{X:Cx}{K:W.Frag}(h:X.K=K):cq X (.type "list") (fun xs H Q=>∃p ys,xs=[.ref p]/\(aC K H p ys\/e8 K H p ys)/\∀l,H l=none->Q (.ref l) (upd H l (.lst ys))):=by subst h;exact uz
theorem cN{X:Cx}{K:W.Frag}(h:X.K=K):cq X (.type "tuple") (fun xs H Q=>∃p ys,xs=[.ref p]/\((aC K H p ys/\∀l,H l=none->Q (.ref l) (upd H l (.tup ys)))\/(e8 K H p ys/\Q (.ref p) H))):=by subst h;exact sL
end L2
namespace Sw
open PySem L2
def Al:Sp:=fun vs H Q _=>∃(n:Int),vs=[.int n]/\0<=n/\n<=1000/\∀t H',H t=none->H' t=some (.tup ((bP 1 (n+1)).map V.int))->ag H H'->Q (.ref t) H'
def FL:Sp:=fun vs H Q _=>∃(t:Addr)(a b x:Int),vs=[.ref t,.int x]/\H t=some (.tup [.int a,.int b])/\Q (.int (bK x (a,b))) H
def qQ:Sp:=fun vs H Q _=>∃(n:Int)(l:Addr)(es:List V)(row:List (Int×Int)),vs=[.int n,.ref l]/\0<=n/\n<=1000/\H l=some (.lst es)/\dB H es row/\Good n row/\∀t H',H t=none->H' t=some (.tup ((bp n row).map V.int))->ag H H'->Q (.ref t) H'
structure T1(mg:Str->Option Value)(K:W.Frag):Prop extends ze mg where
 zG:mg "all" =none
 aG:mg "isinstance" =none
 CU:mg "bool" =none
 hJ:mg "tuple" =none
 va:mg "list" =none
 cQ:mg "range" =none
 MW:W.kitOne K (.type "int") (.type "bool")=some false
theorem aH{α β:Type}(f:α->β){l:List α}{i:Nat}{x:α}(h:l[i]?=some x):(l.take (i+1)).map f=(l.take i).map f++[f x]:=by
 rw[List.take_succ,h,N2];rfl
theorem AF{row:List (Int×Int)}{i:Nat}{e:Int×Int}(h:row[i]?=some e)(x:Int):go (row.take (i+1)) x=bK (go (row.take i) x) e:=by
 rw[List.take_succ,h,oG];rfl
theorem jY(a b x:Int)(hab:a≠b):(bZ (eB [] [((Sum.inl a:Key),V.int b),(Sum.inl b,V.int a)]) (Sum.inl x)).getD (V.int x)=V.int (bK x (a,b)):=by
 show(bZ (putK (putK [] (Sum.inl a:Key) (V.int b)) (Sum.inl b) (V.int a)) (Sum.inl x)).getD (V.int x)=V.int (bK x (a,b))
 rw[qO,qO,Dc]
 unfold bK
 have l:∀p q:Int,((Sum.inl p:Key)=Sum.inl q)=(p=q):=fun p q=>by simp
 simp only[l]
 by_cases h1:x=b
 .have h2:¬x=a:=by lia
  simp[h1,h2]
  intro z;lia
 .by_cases h2:x=a
  .simp[h1,h2,hab]
  .simp[h1,h2]
theorem cY.mono {H:Hp}{p:Addr}{c c':Nat}(h:cY H p c)(a:c<=c')(b:c'<=100000):cY H p c':=by
 obtain⟨x,y,z,e,h1,h2,h3,h4,h5,h6⟩:=h.ex
 exact⟨x,y,z,e,h1,h2,h3,h4,by lia,b⟩
theorem cY.at {H:Hp}{p:Addr}{c:Nat}(h:cY H p c):∃xs,H p=some (.lst xs):=by
 obtain⟨x,y,z,e,r⟩:=h.ex
 exact⟨_,e⟩
theorem cY.upd {H:Hp}{p q:Addr}{c:Nat}{o:HO}(h:cY H p c)(n:p≠q):cY (L2.upd H q o) p c:=by
 obtain⟨x,y,z,e,r⟩:=h.ex
 exact⟨x,y,z,by rw[ao n];exact e,r⟩
theorem cY.ne {H:Hp}{p q:Addr}{c:Nat}(h:cY H p c)(n:H q=none):p≠q:=by
 obtain⟨xs,e⟩:=h.at
 exact aj e n
theorem bD.Lm {p:Addr}{H H':Hp}{c:Nat}(s:bD p H H')(h:cY H p c){vs:List V}{r:List (Int×Int)}(x:dB H vs r):dB H' vs r:=by
 obtain⟨xs,e⟩:=h.at
 exact x.keep (bD.cy s e)
theorem bD.put {p l:Addr}{H H':Hp}{o:HO}(s:bD p H H')(h:H l=none):bD p H (upd H' l o):=fun b o' hb e=>by
 rw[ao (aj e h)]
 exact s b o' hb e
theorem FZ{p l:Addr}{H H':Hp}(s:bD p H H')(n:p≠l)(h:H' l=none):H l=none:=by
 cases e:H l with
 |none=>rfl
 |some o=>rw[s l o n.symm e]at h;cases h
theorem iU{ns:List Int}{i:Nat}{x:V}(h:(ns.map V.int)[i]?=some x):∃z,x= .int z/\ns[i]?=some z:=by
 rw[NZ]at h
 cases e:ns[i]? with
 |none=>rw[e]at h;cases h
 |some z=>rw[e]at h;exact⟨z,(Option.some.inj h).symm,rfl⟩
theorem ma{ns:List Int}{i:Int}{z:Int}(h0:0<=i)(h:ns[i.toNat]?=some z):rF (ns.map V.int) i=some (V.int z):=by
 have e:((i.toNat:Nat):Int)=i:=Int.toNat_of_nonneg h0
 rw[←e]
 exact aX (by rw[NZ,h];rfl)
inductive cb(H:Hp):List V->List (List Int)->Prop
 |nil:cb H [] []
 |cons {a:Addr} {ns:List Int} {vs:List V} {r:List (List Int)}:H a=some (.lst (ns.map V.int))->cb H vs r->cb H (.ref a::vs) (ns::r)
theorem cb.length {H:Hp}:∀{vs:List V}{r:List (List Int)},cb H vs r->vs.length=r.length
 |_,_,.nil=>rfl
 |_,_,.cons _ x=>by rw[N3,N3,x.length]
theorem cb.keep {H H':Hp}(k:ag H H'):∀{vs:List V}{r:List (List Int)},cb H vs r->cb H' vs r
 |_,_,.nil=> .nil
 |_,_,.cons h x=> .cons (k _ _ h) (x.keep k)
theorem cb.append {H:Hp}:∀{vs ws:List V}{r q:List (List Int)},cb H vs r->cb H ws q->cb H (vs++ws) (r++q)
 |_,_,_,_,.nil,y=>y
 |_,_,_,_,.cons h x,y=> .cons h (x.append y)
theorem cb.snoc {H:Hp}{vs:List V}{r:List (List Int)}{a:Addr}{ns:List Int}(x:cb H vs r)(h:H a=some (.lst (ns.map V.int))):cb H (vs++[.ref a]) (r++[ns]):=x.append (.cons h .nil)
theorem cb.get {H:Hp}:∀{vs:List V}{r:List (List Int)}{i:Nat}{x:V},cb H vs r->vs[i]?=some x->∃a ns,x= .ref a/\H a=some (.lst (ns.map V.int))/\r[i]?=some ns
 |_,_,_,_,.nil,e=>by simp at e
 |_,_,0,_,.cons h x,e=>by simp at e;subst e;exact⟨_,_,rfl,h,rfl⟩
 |_,_,i+1,_,.cons h x,e=>by
  obtain⟨t,a,e1,e2,e3⟩:=x.get (i:=i) (by simpa using e)
  exact⟨t,a,e1,e2,by simpa using e3⟩
theorem cb.mem {H:Hp}{vs:List V}{r:List (List Int)}(x:cb H vs r){a:Addr}(h:V.ref a∈vs):∃ns,H a=some (.lst ns):=by
 obtain⟨i,hi,e⟩:=List.mem_iff_getElem.mp h
 obtain⟨b,ns,e1,e2,_⟩:=x.get (i:=i) (by rw[N1 hi,e])
 cases e1
 exact⟨_,e2⟩
theorem cb.off {H:Hp}{a:Addr}{o:HO}:∀{vs:List V}{r:List (List Int)},cb H vs r->V.ref a∉vs->cb (upd H a o) vs r
 |_,_,.nil,_=> .nil
 |_,_,.cons (a:=b) h x,n=>by
  refine .cons ?_ (x.off fun z=>n (List.mem_cons_of_mem _ z))
  rw[ao (by intro z;subst z;exact n List.mem_cons_self)]
  exact h
def gw(H:Hp)(vs:List V):Prop:=vs.Nodup/\∀v∈vs,∃a,v= .ref a/\H a=none
theorem gw.nil {H:Hp}:gw H []:=⟨List.nodup_nil,fun v h=>by cases h⟩
theorem gw.snoc {H H':Hp}{vs:List V}{r:List (List Int)}{a:Addr}(f:gw H vs)(x:cb H' vs r)(h':H' a=none)(h:H a=none):gw H (vs++[.ref a]):=by
 refine⟨List.nodup_append.mpr ⟨f.1,by simp,?_⟩,fun v hv=>?_⟩
 .intro y hy z hz e
  rw[List.mem_singleton.mp hz]at e
  subst e
  obtain⟨ns,e⟩:=x.mem hy
  rw[h']at e
  cases e
 .rcases List.mem_append.mp hv with z|z
  .exact f.2 v z
  .exact⟨a,List.mem_singleton.mp z,h⟩
theorem gw.sub {H:Hp}{vs ws:List V}(f:gw H vs)(s:ws.Sublist vs):gw H ws:=⟨f.1.sublist s,fun v h=>f.2 v (s.subset h)⟩
def Lx:Sp:=fun vs H Q _=>∃(t:Addr)(n x:Int)(xs:List Int),vs=[.ref t,.int x]/\H t=some (.tup (xs.map V.int))/\Ord n xs/\n<=1000/\1<=x/\x<=n/\∀l H',H l=none->H' l=some (.lst ((jJ xs x).map V.int))->ag H H'->Q (.ref l) H'
def de:Sp:=fun vs H Q _=>∃(t:Addr)(n:Int)(xs:List Int),vs=[.ref t]/\H t=some (.tup (xs.map V.int))/\Ord n xs/\n<=1000/\∀l ws H',H l=none->H' l=some (.lst ws)->cb H' ws (aU n xs)->gw H ws->V.ref l∉ws->ag H H'->Q (.ref l) H'
def Ah:Sp:=fun vs H Q _=>∃(n:Int)(l:Addr)(es:List V)(row:List (Int×Int)),vs=[.int n,.ref l]/\0<=n/\n<=1000/\H l=some (.lst es)/\dB H es row/\Good n row/\∀H',ag H H'->Q (.bl (decide ((row.length:Int)=n-cnt n (bp n row)))) H'
theorem BV{A B:Prop}{b:Bool}(h:b=true)(x:A):if b=true then A else B:=by rw[if_pos h];exact x
theorem lW{A B:Prop}{b:Bool}(h:b=false)(x:B):if b=true then A else B:=by rw[h,if_neg Bool.false_ne_true];exact x
def Jx:Sp:=fun vs H Q _=>∃(t:Addr)(n:Int)(xs:List Int),vs=[.ref t]/\H t=some (.tup (xs.map V.int))/\Ord n xs/\n<=1000/\∀l es H',H l=none->H' l=some (.lst es)->dB H' es (Dm xs)->ag H H'->Q (.ref l) H'
theorem cb.set {H:Hp}:∀{vs:List V}{r:List (List Int)}{i:Nat}{a:Addr}{ns:List Int},cb H vs r->vs.Nodup->vs[i]?=some (.ref a)->cb (upd H a (.lst (ns.map V.int))) vs (r.set i ns)
 |_,_,_,_,_,.nil,_,h=>by simp at h
 |_,_,0,a,ns,.cons (a:=b) (vs:=vs) h x,nd,e=>by
  have e:b=a:=by simpa using e
  subst e
  rw[List.nodup_cons]at nd
  rw[List.set_cons_zero]
  refine .cons ae (x.off nd.1)
 |_,_,i+1,a,ns,.cons (a:=b) (vs:=vs) h x,nd,e=>by
  rw[List.nodup_cons]at nd
  rw[List.set_cons_succ]
  have e:vs[i]?=some (.ref a):=by simpa using e
  refine .cons ?_ (x.set nd.2 e)
  rw[ao (by intro z;subst z;exact nd.1 (N9 e))]
  exact h
theorem cb.iF {H H':Hp}:∀{vs:List V}{r:List (List Int)},cb H vs r->(∀{b:Addr}{zs:List V},V.ref b∈vs->H b=some (.lst zs)->H' b=some (.lst zs))->cb H' vs r
 |_,_,.nil,_=> .nil
 |_,_,.cons h x,k=> .cons (k List.mem_cons_self h) (x.iF fun hb e=>k (List.mem_cons_of_mem _ hb) e)
theorem cb.eraseIdx {H:Hp}:∀{vs:List V}{r:List (List Int)}(k:Nat),cb H vs r->cb H (vs.eraseIdx k) (r.eraseIdx k)
 |_,_,_,.nil=> .nil
 |_,_,0,.cons h x=>x
 |_,_,k+1,.cons h x=> .cons h (x.eraseIdx k)
def LP:Sp:=fun vs H Q _=>∃x lo hi:Int,vs=[.int x,.int lo,.int hi]/\Q (.bl (decide (lo<=x/\x<=hi))) H
theorem pQ{n:Int}{xs:List Int}(h:n<=50):(aU n xs).length<=50:=by
 unfold aU
 rw[NY]
 have:=List.length_filter_le (least xs) (bP 1 (n+1))
 rw[aJ]at this
 lia
theorem rK{n:Int}{xs r:List Int}(o:Ord n xs)(h:n<=50)(m:r∈aU n xs):r.length<=50:=by
 unfold aU at m
 obtain⟨x,hx,rfl⟩:=List.mem_map.mp m
 have hx:=cg.mp (List.mem_filter.mp hx).1
 rw[jf]
 have:=yd o hx.1 (by lia)
 lia
def Af(K:W.Frag):Sp:=fun vs H Q _=>∃(a:Addr)(ns:List Int),vs=[.ref a]/\aC K H a (ns.map V.int)/\ns.length<=63/\∀H',Q (.bl true) H'
theorem ag.of {p:Addr}{H0 H H':Hp}(a:ag H0 H)(n:H0 p=none)(b:bD p H H'):ag H0 H':=fun c o e=>b c o (aj e n) (a c o e)
theorem ag.put {l:Addr}{H H':Hp}{o:HO}(s:ag H H')(h:H l=none):ag H (upd H' l o):=fun b o' e=>by
 rw[ao (aj e h)]
 exact s b o' e
def NR:PyData->Bool
 | .int _=>true
 |_=>false
def yc(lo hi:Int):PyData->Bool
 | .int i=>decide (lo<=i/\i<=hi)
 |_=>false
def Ng:PyData->PyData->Bool
 | .int a,.int b=>decide (a<b)
 |_,_=>false
def sh(n:Int):PyData->Bool
 | .tuple [x,y]=>(yc 1 n x&&yc 1 n y)&&Ng x y
 |_=>false
def qF(n:Int):PyData->Bool
 | .list ds=>decide (ds.length<=60)&&ds.all (sh n)
 |_=>false
def HL:Sp:=fun vs H Q _=>∃(v:V)(P:Addr->Prop)(d:PyData),vs=[v]/\DT H P v d/\Q (.bl (NR d)) H
def Hi:Sp:=fun vs H Q _=>∃(v:V)(P:Addr->Prop)(d:PyData)(lo hi:Int),vs=[v,.int lo,.int hi]/\DT H P v d/\Q (.bl (yc lo hi d)) H
def CD:Sp:=fun vs H Q _=>∃(v:V)(P:Addr->Prop)(d:PyData)(n:Int),vs=[.int n,v]/\DT H P v d/\∀H',ag H H'->Q (.bl (sh n d)) H'
def pN:Sp:=fun vs H Q _=>∃(v:V)(P:Addr->Prop)(d:PyData)(n:Int),vs=[.int n,v]/\DT H P v d/\(∀ds,d= .list ds->ds.length<=1000)/\∀H',ag H H'->Q (.bl (qF n d)) H'
theorem DT.same {H H':Hp}{P:Addr->Prop}{v:V}{d:PyData}(h:DT H P v d)(s:ag H H'):DT H' P v d:=h.keep fun b o _ e=>s b o e
theorem xA{α:Type}{q:α->Bool}{l:List α}{i:Nat}{x:α}(h:l[i]?=some x):(l.take (i+1)).map q=(l.take i).map q++[q x]:=by
 rw[List.take_succ,h,N2];rfl
structure TD(P:Program)(w:World)(K:W.Frag)(mg:Str->Option Value)(base:Heap):Prop extends T1 mg K where
 qh:FnAt P w K mg base "is_whole" 1 ["thing"] HL
structure Nw(P:Program)(w:World)(K:W.Frag)(mg:Str->Option Value)(base:Heap):Prop extends T1 mg K where
 eG:FnAt P w K mg base "is_between" 2 ["thing","low","high"] Hi
structure Na(P:Program)(w:World)(K:W.Frag)(mg:Str->Option Value)(base:Heap)(u:Value):Prop extends T1 mg K where
 cn:mg "MOST_EXCHANGES" =some u
 ck:RelV (.int 60) u
 lC:FnAt P w K mg base "is_exchange" 4 ["n","thing"] CD
section
variable{P:Program}{w:World}{K:W.Frag}{mg:Str->Option Value}{base:Heap}
theorem wo:az ["thing"] ["thing"] (ar (top 15)):=⟨rfl,rfl,rfl,by decide+kernel,rfl,by decide+kernel,by decide+kernel⟩
theorem Jq{f:Addr}{fd:FuncData}(F:dh K "is_whole" "is_whole" (top 15) f fd)(T:T1 mg K):aR P w K mg base hZ 1 f fd ["thing"] HL:=by
 refine F.ok wo (fun vs H Q E h=>?_) (fun cdv A outer s H vs Q E hr h=>?_)
 .obtain⟨v,P,d,rfl,_⟩:=h
  rfl
 .obtain⟨v,P,d,rfl,hd,k⟩:=h
  refine⟨_,(ai (aA (y4 (aq (gF (K:=K) rfl) rfl T.aG (by decide+kernel) (aa (pv 0) (aa (i4 (v:= .ty "int") rfl T.qL (by decide+kernel) rfl) af))) (yY (IF (aq (gF (K:=K) rfl) rfl T.aG (by decide+kernel) (aa (pv 0) (aa (i4 (v:= .ty "bool") rfl T.CU (by decide+kernel) rfl) af)))))))),?_⟩
  refine⟨_,rfl,_,_,"int",_,rfl,hd.ty,FT K hd,_,rfl,dQ (fun c=>?_) (fun c=>?_)⟩
  .refine⟨_,rfl,_,_,"bool",_,rfl,hd.ty,CF K hd,_,rfl,?_⟩
   cases hd<;>first|exact k|exact absurd c Bool.false_ne_true
  .cases hd<;>first|exact k|exact absurd rfl c
theorem sg:az ["thing","low","high"] ["thing","low","high"] (ar (top 16)):=⟨rfl,rfl,rfl,by decide+kernel,rfl,by decide+kernel,by decide+kernel⟩
theorem EC{f:Addr}{fd:FuncData}(F:dh K "is_between" "is_between" (top 16) f fd)(T:TD P w K mg base):aR P w K mg base hZ 2 f fd ["thing","low","high"] Hi:=by
 refine F.ok sg (fun vs H Q E h=>?_) (fun cdv A outer s H vs Q E hr h=>?_)
 .obtain⟨v,P,d,lo,hi,rfl,_⟩:=h
  rfl
 .obtain⟨v,P,d,lo,hi,rfl,hd,k⟩:=h
  refine⟨_,(ai (aA (y4 (au T.qh (hr.mono (by first|decide|lia)) rfl (aa (pv 0) af)) (yY (C3 zY zY (pv 1) (pv 0) (pv 2)))))),?_⟩
  refine⟨_,rfl,v,P,d,rfl,hd,_,rfl,?_⟩
  cases hd with
  |int x=>
   refine sk ?_
   refine⟨_,rfl,_,rfl,_,_,rfl,rfl,_,rfl,dQ (fun c=>?_) (fun c=>?_)⟩
   .have c:lo<=x:=of_decide_eq_true c
    have e:yc lo hi (.int x)=decide (x<=hi):=by show decide (lo<=x/\x<=hi)=_;rw[Bool.eq_iff_iff];simp[c]
    rw[e]at k
    exact⟨_,rfl,_,_,rfl,rfl,k⟩
   .have c:¬lo<=x:=of_decide_eq_false (by simpa using c)
    have e:yc lo hi (.int x)=false:=by show decide (lo<=x/\x<=hi)=_;simp[c]
    rw[e]at k
    exact k
  |_=>exact sF k
theorem qT:az ["n","thing"] ["n","thing"] (ar (top 30)):=⟨rfl,rfl,rfl,by decide+kernel,rfl,by decide+kernel,by decide+kernel⟩
theorem FC{f:Addr}{fd:FuncData}(F:dh K "is_exchange" "is_exchange" (top 30) f fd)(T:Nw P w K mg base):aR P w K mg base hZ 4 f fd ["n","thing"] CD:=by
 refine F.ok qT (fun vs H Q E h=>?_) (fun cdv A outer s H vs Q E hr h=>?_)
 .obtain⟨v,P,d,n,rfl,_⟩:=h
  rfl
 .obtain⟨v,P,d,n,rfl,hd,k⟩:=h
  refine⟨_,(ah (bt (PW.pt (lL (dz (cC (aq (gF (K:=K) rfl) rfl T.aG (by decide+kernel) (aa (pv 1) (aa (i4 (v:= .ty "tuple") rfl T.hJ (by decide+kernel) rfl) af))))) (j9 (aI lG (aq (aK (K:=K) rfl) rfl T.bV (by decide+kernel) (aa (pv 1) af)) ak (aL _))))) (ai (aA iK)) aE)
   (ai (aA (y4 (aq (nU (K:=K) rfl rfl) rfl T.zG (by decide+kernel) (aa (bQ (N:=(["number","n"]:List Str)) (ix:=([none,some 0]:List (Option Nat))) (bc rfl rfl) rfl (Ae (K:=K) rfl (pv 1)) (fun _ _ _ _=>(ay (i:=0) (show List.Nodup (["number","n"]:List Str)from by decide+kernel) rfl (Or.inl rfl))) (fun _ _ _ _=>bg) (fun _ _ _ _=>(au T.eG (hr.mono (by first|decide|lia)) rfl (@aa _ _ _ _ _ (pv 0) (@aa _ _ _ _ _ ak (@aa _ _ _ _ _ (pv 1) af du) n6) du)))) af)) (yY (fH Dx (aQ (kP (K:=K) rfl) (pv 1) ak (fun _ _=>rfl)) (aQ (kP (K:=K) rfl) (pv 1) ak (fun _ _=>rfl)) (aL _))))))),?_⟩
  refine⟨_,rfl,_,_,"tuple",_,rfl,hd.ty,kit_tuple K hd,_,rfl,?_⟩
  cases hd with
  | @tup a us ds ha pa rs=>
   refine sF ?_
   have ul:=rs.length
   refine⟨_,rfl,a,_,rfl,.inr (e8.of ha),rfl,_,rfl,dQ (fun c=>?_) (fun c=>?_)⟩
   .have c:ds.length≠2:=by
     intro z
     rw[ul,z]at c
     exact absurd c (by decide)
    have e:sh n (.tuple ds)=false:=by
     match ds,c with
     |[],_=>rfl
     |[_],_=>rfl
     |[_,_],c=>exact absurd rfl c
     |_::_::_::_,_=>rfl
    rw[e]at k
    exact k H (ag.refl H)
   .have c:ds.length=2:=by
     apply Classical.byContradiction
     intro z
     have:decide (V.int (us.length:Int)=V.int 2)=false:=decide_eq_false (by intro q;have:=V.int.inj q;lia)
     rw[this]at c
     exact absurd rfl c
    match ds,us,rs,c with
    |[x,y],[vx,vy],.cons hx (.cons hy .nil),_=>
     refine⟨_,rfl,a,rfl,⟨_,e8.of ha⟩,Ic (K:=K) (a:=a) (xs:=[vx,vy]) (k:=0) (fun i ys σ' H'=>ys=(([x,y].take i).map (yc 1 n)).map V.bl/\(∃v,σ'=[v,some (.int n)])/\H'=H) (by show 2<=1000000;decide) ⟨rfl,⟨none,rfl⟩,rfl⟩ (fun i ys σ' H' _ q=>by rw[q.2.2];exact e8.of ha) (fun i ys σ' H' q=>by rw[q.1,NY,NY,N5];lia) ?_ ?_⟩
     .rintro i ys σ' H' z R hz ⟨rfl,⟨v,rfl⟩,rfl⟩ done
      obtain⟨d,hd,hdz⟩:=(mf.cons hx (mf.cons hy mf.nil)).get hz
      refine⟨_,rfl,_,rfl,z,P,d,1,n,rfl,hdz,done _ _ _ ⟨?_,⟨_,rfl⟩,rfl⟩⟩
      rw[xA hd,N2]
      rfl
     .rintro ys σ' H' q ⟨rfl,⟨v,rfl⟩,rfl⟩ fq
      have s1:ag H' (upd H' q (.lst (([x,y].map (yc 1 n)).map V.bl))):=ag.new fq
      refine⟨q,[x,y].map (yc 1 n),rfl,aC.of ae,_,rfl,dQ (fun c2=>?_) (fun c2=>?_)⟩
      .have c2:yc 1 n x=true/\yc 1 n y=true:=by simpa using c2
       refine⟨_,rfl,a,_,_,_,rfl,rfl,e8.of (s1 _ _ ha),rfl,_,rfl,a,_,_,_,rfl,rfl,e8.of (s1 _ _ ha),rfl,?_⟩
       cases hx with
       |int i=>
        cases hy with
        |int j=>
         have e:sh n (.tuple [.int i,.int j])=decide (i<j):=by show((yc 1 n (.int i)&&yc 1 n (.int j))&&decide (i<j))=_;rw[c2.1,c2.2];rfl
         rw[e]at k
         exact⟨_,_,rfl,rfl,k _ s1⟩
        |_=>exact absurd c2.2 Bool.false_ne_true
       |_=>exact absurd c2.1 Bool.false_ne_true
      .have e:sh n (.tuple [x,y])=false:=by
        show((yc 1 n x&&yc 1 n y)&&Ng x y)=false
        have:(yc 1 n x&&yc 1 n y)=false:=by simpa using c2
        rw[this];rfl
       rw[e]at k
       exact k _ s1
  |_=>exact sk (k H (ag.refl H))
theorem BH:az ["n","thing"] ["n","thing"] (ar (top 31)):=⟨rfl,rfl,rfl,by decide+kernel,rfl,by decide+kernel,by decide+kernel⟩
theorem C8{u:Value}{f:Addr}{fd:FuncData}(F:dh K "is_row" "is_row" (top 31) f fd)(T:Na P w K mg base u):aR P w K mg base hZ 6 f fd ["n","thing"] pN:=by
 refine F.ok BH (fun vs H Q E h=>?_) (fun cdv A outer s H vs Q E hr h=>?_)
 .obtain⟨v,P,d,n,rfl,_⟩:=h
  rfl
 .obtain⟨v,P,d,n,rfl,hd,hlen,k⟩:=h
  refine⟨_,(ah (bt (PW.pt (lL (dz (cC (aq (gF (K:=K) rfl) rfl T.aG (by decide+kernel) (aa (pv 1) (aa (i4 (v:= .ty "list") rfl T.va (by decide+kernel) rfl) af))))) (j9 (aI qB (aq (aK (K:=K) rfl) rfl T.bV (by decide+kernel) (aa (pv 1) af)) (cT rfl T.cn T.ck) (aL _))))) (ai (aA iK)) aE)
   (ai (aA (aq (nU (K:=K) rfl rfl) rfl T.zG (by decide+kernel) (aa (bQ (N:=(["exchange","n"]:List Str)) (ix:=([none,some 0]:List (Option Nat))) (bc rfl rfl) rfl (aT (K:=K) rfl (pv 1)) (fun _ _ _ _=>(ay (i:=0) (show List.Nodup (["exchange","n"]:List Str)from by decide+kernel) rfl (Or.inl rfl))) (fun _ _ _ _=>bg) (fun _ _ _ _=>(au T.lC (hr.mono (by first|decide|lia)) rfl (aa (pv 1) (aa (pv 0) af))))) af))))),?_⟩
  refine⟨_,rfl,_,_,"list",_,rfl,hd.ty,Di K hd,_,rfl,?_⟩
  cases hd with
  | @lst a us ds ha pa rs=>
   refine sF ?_
   have ul:=rs.length
   have dl:=hlen ds rfl
   refine⟨_,rfl,a,_,rfl,.inl (aC.of ha),_,_,rfl,rfl,_,rfl,dQ (fun c=>?_) (fun c=>?_)⟩
   .have c:60<us.length:=by have:=of_decide_eq_true c;lia
    have e:qF n (.list ds)=false:=by
     show(decide (ds.length<=60)&&_)=false
     rw[decide_eq_false (by lia)];rfl
    rw[e]at k
    exact k H (ag.refl H)
   .have c:us.length<=60:=by
     apply Classical.byContradiction
     intro z
     have:decide ((60:Int)<(us.length:Int))=true:=decide_eq_true (by lia)
     exact c this
    refine⟨_,rfl,a,rfl,⟨_,aC.of ha⟩,eF (K:=K) (a:=a) (xs:=us) (k:=0) (fun i ys σ' H'=>ys=((ds.take i).map (sh n)).map V.bl/\(∃v,σ'=[v,some (.int n)])/\ag H H') (by lia) ⟨rfl,⟨none,rfl⟩,ag.refl _⟩ (fun i ys σ' H' _ q=>aC.of (q.2.2 _ _ ha)) (fun i ys σ' H' q=>by rw[q.1,NY,NY,N5];lia) ?_ ?_⟩
    .rintro i ys σ' H' z R hz ⟨rfl,⟨v,rfl⟩,s1⟩ done
     obtain⟨d,hd,hdz⟩:=rs.get hz
     refine⟨_,rfl,_,rfl,z,P,d,n,rfl,DT.same hdz s1,fun H2 s2=>done _ _ _ ⟨?_,⟨_,rfl⟩,s1.trans s2⟩⟩
     rw[xA hd,N2]
     rfl
    .rintro ys σ' H' q ⟨rfl,⟨v,rfl⟩,s1⟩ fq
     rw[List.take_of_length_le (by lia)]
     refine⟨q,ds.map (sh n),rfl,aC.of ae,?_⟩
     have e:qF n (.list ds)=(ds.map (sh n)).all id:=by
      show(decide (ds.length<=60)&&ds.all (sh n))=_
      rw[decide_eq_true (by lia),List.all_map];rfl
     rw[e]at k
     exact k _ (s1.trans (ag.new fq))
  |_=>exact sk (k H (ag.refl H))
end
def Kt(r:List Int):List (Int×Int):=r.tail.map fun y=>(r.headD 0,y)
def Ep(n:Int)(xs:List Int):List (Int×Int):=((aU n xs).map Kt).flatten
end Sw
namespace L2
open PySem PySem.Spec PyProof.Rows PySem.SeqAt
inductive pj(pr:Params):List DictEntry->List (Str×Str)->Prop
 |nil:pj pr [] []
 |cons {x y:Str} {t u:Tok} {es:List DictEntry} {ps:List (Str×Str)}:pj pr es ps->pj pr ({hash:=PyData.keyHash pr x,key:= .str x t,val:= .str y u}::es) ((x,y)::ps)
structure Dh(K:W.Frag)(pr:Params)(a:Addr)(ps:List (Str×Str)):Prop where
 sys:(a==sysModules)=false
 nd:(ps.map (·.1)).Nodup
 ex:∃(es:List DictEntry)(ep:Nat),K.lookup a=some {cls:= .type "dict",data:= .dict es.toArray ep}/\pj pr es ps
def F0(ps:List (Str×Str)):List (Key×V):=ps.map fun p=>(Sum.inr p.1,V.str p.2)
section
variable{X:Cx}{K:W.Frag}
theorem pj.go {pr:Params}{P:Program}{w:World}(hp:w.params=pr):∀{es:List DictEntry}{ps:List (Str×Str)},pj pr es ps->∃vs:List (Key×Value),KV (F0 ps) vs/\(∀e∈es,∃k,(aV P w).is k e.key=true/\e.hash=(aV P w).hash k)/\Pairs (aV P w) es vs/\vs.map (·.1)=ps.map fun p=>Sum.inr p.1
 |_,_,.nil=>⟨[],.nil,by simp,.nil,rfl⟩
 |_,_,.cons (x:=x) (y:=y) (t:=t) (u:=u) r=>by
  obtain⟨vs,h1,h2,h3,h4⟩:=pj.go (P:=P) hp r
  have hi:(aV P w).is (Sum.inr x) (Value.str x t)=true:=by
   show Value.isStrOf x (Value.str x t)=true
   simp[Value.isStrOf]
  refine⟨(Sum.inr x,.str y u)::vs,?_,?_,.cons hi rfl h3,by rw[N4,h4];rfl⟩
  .exact Paired.cons ⟨rfl,⟨u,rfl⟩⟩ h1
  .intro e he
   rcases List.mem_cons.mp he with rfl|he
   .refine⟨Sum.inr x,hi,?_⟩
    subst hp
    rfl
   .exact h2 e he
theorem Dh.dict {pins:List (Addr×Obj)}{σ:St}{H:Hp}{s:Shared}{a:Addr}{ps:List (Str×Str)}(k:Dh X.K X.w.params a ps)(I:Inv X pins σ H s):∃vs:List (Key×Value),KV (F0 ps) vs/\s.heap.DictOf (aV X.prog X.w) a vs:=by
 obtain⟨es,ep,hl,ht⟩:=k.ex
 obtain⟨vs,h1,h2,h3,h4⟩:=pj.go (P:=X.prog) (w:=X.w) rfl ht
 refine⟨vs,h1,_,es.toArray,ep,I.kU a _ hl,⟨rfl,rfl,rfl⟩,rfl,fun e he=>h2 e (by simpa using he),by simpa using h3,?_⟩
 rw[h4]
 have:=k.nd
 rw[show(ps.map fun p=>(Sum.inr p.1:Key))=(ps.map (·.1)).map Sum.inr by rw[N7];rfl]
 exact this.map _ fun x y h e=>h (Sum.inr.inj e)
theorem Gn(ps:List (Str×Str))(k:Str):(bZ (F0 ps) (Sum.inr k:Key)).isSome=decide (k∈ps.map (·.1)):=by
 unfold F0 bZ
 induction ps with
 |nil=>rfl
 |cons p t ih=>
  rw[N4,List.find?_cons]
  by_cases h:p.1=k
  .have:decide ((Sum.inr p.1:Key)=Sum.inr k)=true:=decide_eq_true (by rw[h])
   simp only[this]
   simp[h]
  .have:decide ((Sum.inr p.1:Key)=Sum.inr k)=false:=decide_eq_false fun z=>h (Sum.inr.inj z)
   simp only[this]
   rw[ih,N4,Bool.eq_iff_iff,decide_eq_true_eq,decide_eq_true_eq,N6]
   exact⟨.inr,fun z=>z.resolve_left fun z=>h z.symm⟩
def Fq(a:Addr)(ps:List (Str×Str))(ty td:TE):TE:=fun σ H Q=>ty σ H fun y H1=>td σ H1 fun x H2=>∃k,x= .ref a/\y= .str k/\Q (.bl (!decide (k∈ps.map (·.1)))) H2
theorem Bv{i o:Expr}{ty td:TE}{a:Addr}{ps:List (Str×Str)}(kt:Dh X.K X.w.params a ps)(hi:PE X i ty)(ho:PE X o td):PC X .NotIn i o (Fq a ps ty td):=by
 intro pins s σ H Q I h
 refine aW (hi pins s σ H _ I h) fun iv s1 ⟨y,H1,I1,ry,q1⟩=>aW (ho pins s1 σ H1 _ I1 q1) fun u s2 ⟨x,H2,I2,rx,k,ex,ey,q2⟩=>?_
 subst ex
 subst ey
 obtain rfl:u=Value.ref a:=rx
 obtain⟨vs,rel,dd⟩:=kt.dict I2
 refine wpAny_notIn_of (iC (k:=Sum.inr k) ry) kt.sys dd.mapOf ?_
 rw[←(rel.val (Sum.inr k)).cV,Gn]
 exact⟨.bl _,H2,I2.tok _,rfl,q2⟩
end
section
variable{X:Cx}{K:W.Frag}
def Ib(f:Str->Bool):V->List V->Hp->VK->Prop:=fun x vs H Q=>∃z,x= .str z/\vs=[]/\Q (.bl (f z)) H
theorem qw:Bm X "str.isascii" (Ib Txt.isascii):=by
 intro pins s σ H x vs v us Q I rx rv h
 obtain⟨z,rfl,rfl,q⟩:=h
 obtain⟨t,rfl⟩:=rx
 cases rv
 exact SC.isascii ⟨.bl _,H,I,rfl,q⟩
theorem qy:Bm X "str.isdigit" (Ib Txt.isdigit):=by
 intro pins s σ H x vs v us Q I rx rv h
 obtain⟨z,rfl,rfl,q⟩:=h
 obtain⟨t,rfl⟩:=rx
 cases rv
 exact SC.isdigit ⟨.bl _,H,I,rfl,q⟩
def Fi:V->List V->Hp->VK->Prop:=fun x vs H Q=>∃z y,x= .str z/\vs=[.str y]/\Q (.bl (Txt.startswith z y)) H
theorem tH:Bm X "str.startswith" Fi:=by
 intro pins s σ H x vs v us Q I rx rv h
 obtain⟨z,y,rfl,rfl,q⟩:=h
 obtain⟨t,rfl⟩:=rx
 obtain⟨u,rfl,t',rfl⟩:=rv.one
 exact SC.startswith ⟨.bl _,H,I,rfl,q⟩
theorem tN:∀{ts:List Str}{us:List Value},Vals (ts.map V.str) us->∃l:List (Str×Tok),us=strValues l/\l.map (·.1)=ts
 |[],_,.nil=>⟨[],rfl,rfl⟩
 |x::r,_,.cons h t=>by
  obtain⟨tk,rfl⟩:=h
  obtain⟨l,e1,e2⟩:=tN t
  exact⟨(x,tk)::l,by rw[e1];rfl,by rw[N4,e2]⟩
theorem t7:∀(l:List (Str×Tok)),Vals ((l.map (·.1)).map V.str) (strValues l)
 |[]=> .nil
 |(x,t)::l=> .cons ⟨t,rfl⟩ (t7 l)
def rJoin(K:W.Frag):V->List V->Hp->VK->Prop:=fun x vs H Q=>∃(z:Str)(p:Addr)(ts:List Str),x= .str z/\vs=[.ref p]/\aC K H p (ts.map V.str)/\JoinOk z ts=true/\Q (.str (Str.join z ts)) H
theorem fL(hK:X.K=K):Bm X "str.join" (rJoin K):=by
 subst hK
 intro pins s σ H x vs v us Q I rx rv h
 obtain⟨z,p,ts,rfl,rfl,hp,hj,q⟩:=h
 obtain⟨t,rfl⟩:=rx
 obtain⟨u,rfl,ru⟩:=rv.one
 cases ru
 obtain⟨its,r,pl,_⟩:=I.list hp
 obtain⟨l,rfl,e⟩:=tN r
 refine SC.join pl.isList e hj fun t' k=>⟨.str _,H,I.tok _,⟨t',rfl⟩,?_⟩
 rw[show Txt.join z ts=Str.join z ts from StrLaws.glued_eq_join z ts]
 exact q
theorem Bk(x y:Str):(Builtin.Str.partsBetween x (Builtin.Str.occurrences x y 0 x.length (x.length+1)) y.length).length<=x.length+2:=by
 have h:=StrLaws.occ_length_le x y 0 x.length (x.length+1)
 unfold Builtin.Str.partsBetween
 rw[NY,List.length_zip,N3,NY,N0,List.length_singleton]
 lia
def Iw:V->List V->Hp->VK->Prop:=fun x vs H Q=>∃(z y:Str),x= .str z/\vs=[.str y]/\(y.length==0)=false/\z.length<=1000000/\∀l,H l=none->Q (.ref l) (upd H l (.lst ((Txt.split z y).map V.str)))
theorem jT:Bm X "str.split" Iw:=by
 intro pins s σ H x vs v us Q I rx rv h
 obtain⟨z,y,rfl,rfl,hy,hz,q⟩:=h
 obtain⟨t,rfl⟩:=rx
 obtain⟨u,rfl,t',rfl⟩:=rv.one
 have big:(10000000:Nat)<=sizeLine:=by decide
 have one:1<=sizeLine:=by decide
 have key:∀(l:List (Str×Tok))(tk:Nat),l.map (·.1)=Txt.split z y->l.length<=sizeLine->EP X pins σ Q (.ref s.heap.objs.size) {s with toks:=tk,heap:=s.heap.push {cls:= .type "list",data:= .seq (strValues l).toArray}}:=fun l tk e hl=>by
  have v:=t7 l
  rw[e]at v
  have vl:=v.length
  refine⟨.ref s.heap.objs.size,_,I.laid (o:= .lst ((Txt.split z y).map V.str)) (fun b o e=>Heap.get?_push_of_some _ e) (Nat.le_refl _) ⟨?_,strValues l,0,v,Heap.get?_push_size _ rfl⟩,rfl,q _ (I.aY.fresh (Nat.le_refl _))⟩
  rw[vl]
  unfold strValues
  rw[NY]
  exact hl
 cases h1:(decide (z.length<y.length)||decide (Builtin.Str.strKind z<Builtin.Str.strKind y))with
 |true=>
  refine call_meets F.slot_str_split (typeIs_str _ _ _) F.entry_str_split (F.args_str_split_2 _ _) (meets_str_split_cannot_occur z y t t' h1) ?_
  exact key [(z,t)] s.toks (by unfold Txt.split;rw[if_pos h1];rfl) one
 |false=>
  cases hf:(Builtin.Str.occurrences z y 0 z.length (z.length+1)).isEmpty with
  |true=>
   refine call_meets F.slot_str_split (typeIs_str _ _ _) F.entry_str_split (F.args_str_split_2 _ _) (meets_str_split_not_found z y t t' h1 hy hf) ?_
   exact key [(z,t)] s.toks (by unfold Txt.split;rw[if_neg (by rw[h1];exact Bool.false_ne_true),if_pos hf];rfl) one
  |false=>
   have MU:=Bk z y
   refine call_meets F.slot_str_split (typeIs_str _ _ _) F.entry_str_split (F.args_str_split_2 _ _) (meets_str_split_sep z y t t' h1 hy hf (by lia) (by lia)) ?_
   have k:=key (numbered s.toks (Builtin.Str.partsBetween z (Builtin.Str.occurrences z y 0 z.length (z.length+1)) y.length)) (s.toks+(Builtin.Str.partsBetween z (Builtin.Str.occurrences z y 0 z.length (z.length+1)) y.length).length)
    ((numbered_texts _ _).trans (by unfold Txt.split;rw[if_neg (by rw[h1];exact Bool.false_ne_true),if_neg (by rw[hf];exact Bool.false_ne_true)])) (by
     have:=congrArg List.length (numbered_texts s.toks (Builtin.Str.partsBetween z (Builtin.Str.occurrences z y 0 z.length (z.length+1)) y.length))
     rw[NY]at this
     lia)
   rw[←strsFrom_eq]at k
   exact k
def Hv:List V->Hp->VK->Prop:=fun xs H Q=>∃z n,xs=[.str z]/\PySem.intText? z=some n/\z.length<=640/\Q (.int n) H
theorem lI:cq X (.type "int") Hv:=by
 intro pins s σ H xs us Q I r h
 obtain⟨z,n,rfl,hn,hl,q⟩:=h
 obtain⟨u,rfl,t,rfl⟩:=vals1 r
 exact W.KIN.call_text hn hl ⟨.int n,H,I.tok _,⟨_,rfl⟩,q⟩
end
end L2
namespace Sw
open PySem L2
def Ga(e o:Int×Int):Int×Int:=(min (bK e.1 o) (bK e.2 o),max (bK e.1 o) (bK e.2 o))
theorem DE{x y:Int}{e:Int×Int}(h:bK x e=bK y e):x=y:=by rw[←pW x e,h,pW]
theorem wu{n:Int}{s t:Int×Int}(hs:1<=s.1/\s.1<s.2/\s.2<=n)(ht:1<=t.1/\t.1<t.2/\t.2<=n):1<=(Ga s t).1/\(Ga s t).1<(Ga s t).2/\(Ga s t).2<=n:=by
 have a:=yG ht (x:=s.1) (by lia) (by lia)
 have b:=yG ht (x:=s.2) (by lia) (by lia)
 have ne:bK s.1 t≠bK s.2 t:=fun z=>by have:=DE z;lia
 unfold Ga
 simp only
 lia
def FY(s t:Int×Int)(f:Bool):List (Int×Int):=if f=true then [t,Ga s t]else [Ga t s,s]
theorem GL(s t:Int×Int)(f:Bool):(FY s t f).length=2:=by unfold FY;split<;>rfl
def x9(row:List (Int×Int))(i:Nat)(f:Bool):List (Int×Int):=row.take i++FY (row.getD i (0,0)) (row.getD (i+1) (0,0)) f++row.drop (i+2)
theorem tq{row:List (Int×Int)}{i:Nat}(h:i+1<row.length):∃A s t B,row=A++s::t::B/\A.length=i:=by
 refine⟨row.take i,row[i],row[i+1],row.drop (i+2),?_,by rw[N5];lia⟩
 rw[List.getElem_cons_drop,List.getElem_cons_drop,List.take_append_drop]
theorem Hy(A B:List (Int×Int))(s t:Int×Int)(f:Bool):x9 (A++s::t::B) A.length f=A++FY s t f++B:=by
 unfold x9
 rw[List.take_left]
 have e1:(A++s::t::B).getD A.length (0,0)=s:=by
  rw[N8,List.getElem?_append_right (Nat.le_refl _),Nat.sub_self]
  rfl
 have e2:(A++s::t::B).getD (A.length+1) (0,0)=t:=by
  rw[N8,List.getElem?_append_right (by lia),show A.length+1-A.length=1 by lia]
  rfl
 have e3:(A++s::t::B).drop (A.length+2)=B:=by
  rw[List.drop_append,List.drop_eq_nil_of_le (by lia),show A.length+2-A.length=2 by lia]
  rfl
 rw[e1,e2,e3]
theorem Jl{row:List (Int×Int)}{i:Nat}(h:i+1<row.length)(f:Bool):(x9 row i f).length=row.length:=by
 obtain⟨A,s,t,B,rfl,rfl⟩:=tq h
 rw[Hy,N0,N0,GL,N0,N3,N3]
 lia
theorem FV{n:Int}{row:List (Int×Int)}{i:Nat}(g:Good n row)(h:i+1<row.length)(f:Bool):Good n (x9 row i f):=by
 obtain⟨A,s,t,B,rfl,rfl⟩:=tq h
 have gs:=g s (by simp)
 have gt:=g t (by simp)
 rw[Hy]
 intro e he
 rcases List.mem_append.mp he with he|he
 .rcases List.mem_append.mp he with he|he
  .exact g e (by simp[he])
  .unfold FY at he
   split at he
   .rcases List.mem_cons.mp he with rfl|he
    .exact gt
    .rw[List.mem_singleton.mp he];exact wu gs gt
   .rcases List.mem_cons.mp he with rfl|he
    .exact wu gt gs
    .rw[List.mem_singleton.mp he];exact gs
 .exact g e (by simp[he])
def eX(f:Bool):Str:=if f=true then NX "forth"else NX "back"
theorem CH{f g:Bool}(h:eX f=eX g):f=g:=by
 cases f<;>cases g<;>first|rfl|exact absurd h (by decide)
def signs(x:Str):List Nat:=x.cps.toList
theorem bT{x y:Str}(h:signs x=signs y):x=y:=Str.ext' (Array.toList_inj.mp h)
theorem bq(x y:Str):signs (x++y)=signs x++signs y:=by
 show(x.cps++y.cps).toList=_
 rw[Array.toList_append];rfl
theorem bA(x:Str):(signs x).length=x.length:=Array.length_toList
def glue(c:Nat):List (List Nat)->List Nat
 |[]=>[]
 |[x]=>x
 |x::y::r=>x++c::glue c (y::r)
theorem bU(c:Nat):∀ts:List Str,signs (Str.join ⟨#[c]⟩ ts)=glue c (ts.map signs)
 |[]=>rfl
 |[x]=>rfl
 |x::y::r=>by
  show signs (x++(⟨#[c]⟩:Str)++Str.join ⟨#[c]⟩ (y::r))=signs x++c::glue c ((y::r).map signs)
  rw[bq,bq,bU c (y::r),List.append_assoc]
  rfl
theorem um{c:Nat}:∀{p q r s:List Nat},c∉p->c∉q->p++c::r=q++c::s->p=q/\r=s
 |[],[],r,s,_,_,h=>by
  injection h with _ h
  exact⟨rfl,h⟩
 |[],b::q,r,s,_,hq,h=>by
  injection h with h _
  exact absurd List.mem_cons_self (h▸hq)
 |a::p,[],r,s,hp,_,h=>by
  injection h with h _
  exact absurd List.mem_cons_self (h▸hp)
 |a::p,b::q,r,s,hp,hq,h=>by
  injection h with h1 h2
  obtain⟨e1,e2⟩:=um (fun z=>hp (List.mem_cons_of_mem _ z)) (fun z=>hq (List.mem_cons_of_mem _ z)) h2
  exact⟨by rw[h1,e1],e2⟩
theorem xD{c:Nat}:∀{ps qs:List (List Nat)},ps≠[]->qs≠[]->(∀p∈ps,c∉p)->(∀q∈qs,c∉q)->glue c ps=glue c qs->ps=qs
 |[],_,h,_,_,_,_=>absurd rfl h
 |_,[],_,h,_,_,_=>absurd rfl h
 |[x],[y],_,_,_,_,h=>by rw[show x=y from h]
 |[x],y::z::r,_,_,h1,_,h=>by
  have h:x=y++c::glue c (z::r):=h
  exact absurd (by rw[h];exact List.mem_append_right _ List.mem_cons_self) (h1 x List.mem_cons_self)
 |x::z::r,[y],_,_,_,h2,h=>by
  have h:x++c::glue c (z::r)=y:=h
  exact absurd (by rw[←h];exact List.mem_append_right _ List.mem_cons_self) (h2 y List.mem_cons_self)
 |x::y::r,z::w::s,_,_,h1,h2,h=>by
  obtain⟨e1,e2⟩:=um (h1 x List.mem_cons_self) (h2 z List.mem_cons_self) (show x++c::glue c (y::r)=z++c::glue c (w::s)from h)
  rw[e1,xD (by simp) (by simp) (fun p hp=>h1 p (List.mem_cons_of_mem _ hp)) (fun p hp=>h2 p (List.mem_cons_of_mem _ hp)) e2]
theorem nD(x y:Str):Txt.split x y≠[]:=by
 unfold Txt.split
 split
 .simp
 .split
  .simp
  .rw[StrLaws.partsBetween_eq]
   obtain⟨p,r,e⟩:=StrLaws.partsFrom_ne x y.length 0 (Builtin.Str.occurrences x y 0 x.length (x.length+1))
   rw[e];simp
theorem ip:∀{a b:List Str},a.map signs=b.map signs->a=b
 |[],[],_=>rfl
 |[],_::_,h=>by simp at h
 |_::_,[],h=>by simp at h
 |x::a,y::b,h=>by
  rw[N4,N4]at h
  injection h with h1 h2
  rw[bT h1,ip h2]
theorem fQ{c:Nat}{ts:List Str}(ne:ts≠[])(free:∀p∈ts,c∉signs p):Txt.split (Str.join ⟨#[c]⟩ ts) ⟨#[c]⟩=ts:=by
 have e:=StrLaws.join_split (Str.join ⟨#[c]⟩ ts) ⟨#[c]⟩
 have f:=StrLaws.split_free (Str.join ⟨#[c]⟩ ts) c
 have e2:glue c ((Txt.split (Str.join ⟨#[c]⟩ ts) ⟨#[c]⟩).map signs)=glue c (ts.map signs):=by
  rw[←bU,←bU,e]
 refine ip (xD (by simpa using nD _ _) (by simpa using ne) ?_ ?_ e2)
 .intro p hp
  obtain⟨q,hq,rfl⟩:=List.mem_map.mp hp
  exact f q hq
 .intro p hp
  obtain⟨q,hq,rfl⟩:=List.mem_map.mp hp
  exact free q hq
def aF(i:Int):Str:=NX (toString i)
theorem kL(m:Nat):signs (aF (m:Int))=(Nat.toDigits 10 m).map Char.toNat:=W.KIN.signs_num m
theorem fe{i:Int}(h:0<=i):∀c∈signs (aF i),48<=c/\c<=57:=by
 obtain⟨m,rfl⟩:=Int.eq_ofNat_of_zero_le h
 intro c hc
 rw[kL]at hc
 obtain⟨ch,hch,e⟩:=List.mem_map.mp hc
 rw[←e]
 exact PyProof.Rows.digit_range (Nat.isDigit_of_mem_toDigits (by decide) (by decide) hch)
theorem iN{i:Int}(h:0<=i){c:Nat}(hc:c<48\/57<c):c∉signs (aF i):=fun z=>by
 have:=fe h c z
 lia
theorem z7{i:Int}(h:0<=i):0<(aF i).length:=by
 obtain⟨m,rfl⟩:=Int.eq_ofNat_of_zero_le h
 rw[←bA,kL,NY]
 exact PySem.toDigits_len_ge 10 m
theorem BK{i:Int}(h:0<=i):Txt.isascii (aF i)=true:=by
 unfold Txt.isascii
 rw[Array.all_eq_true']
 intro c hc
 have:=fe h c (by simpa [signs]using hc)
 exact decide_eq_true (by lia)
theorem FW:∀c,48<=c->c<=57->Unicode.isDigit c=true:=by
 intro c h1 h2
 have:c=48\/c=49\/c=50\/c=51\/c=52\/c=53\/c=54\/c=55\/c=56\/c=57:=by lia
 rcases this with rfl|rfl|rfl|rfl|rfl|rfl|rfl|rfl|rfl|rfl<;>decide+kernel
theorem wA{i:Int}(h:0<=i):Txt.isdigit (aF i)=true:=by
 unfold Txt.isdigit
 rw[Bool.and_eq_true]
 refine⟨decide_eq_true (z7 h),?_⟩
 rw[Array.all_eq_true']
 intro c hc
 have:=fe h c (by simpa [signs]using hc)
 exact FW c this.1 this.2
theorem dv{i:Int}(h:0<=i)(h9:i<10^9):(aF i).length<=9:=PyProof.Rows.toString_length_le h (by decide) h9
theorem uR{i:Int}(h:0<=i)(h9:i<10^10):PySem.intText? (aF i)=some i:=W.KIN.num_reads h h9
theorem Ey(m:Nat)(hm:0<m):∃d r,(Nat.toDigits 10 m).map Char.toNat=d::r/\d≠48:=by
 induction m using Nat.strongRecOn with
 |_ m ih=>
  by_cases h:m<10
  .rw[Nat.toDigits_of_lt_base h]
   have:m=1\/m=2\/m=3\/m=4\/m=5\/m=6\/m=7\/m=8\/m=9:=by lia
   rcases this with rfl|rfl|rfl|rfl|rfl|rfl|rfl|rfl|rfl<;>exact⟨_,_,rfl,by decide⟩
  .have hm:m%10<10:=Nat.mod_lt m (by decide)
   have t:Nat.toDigits 10 (m/10)++Nat.toDigits 10 (m%10)=Nat.toDigits 10 (10*(m/10)+m%10):=Nat.toDigits_append_toDigits (by decide) (by lia) hm
   rw[Nat.div_add_mod]at t
   obtain⟨d,r,e,hd⟩:=ih (m/10) (by lia) (by lia)
   rw[←t,N2,e]
   exact⟨d,_,rfl,hd⟩
theorem qD(x:Str)(c:Nat):Txt.startswith x ⟨#[c]⟩=true↔∃r,signs x=c::r:=by
 have h:=StrLaws.subAt_one x c 0
 unfold Txt.startswith
 rw[Bool.and_eq_true,decide_eq_true_eq]
 rw[h]
 show(signs x)[0]?=some c↔_
 cases e:signs x with
 |nil=>simp
 |cons a r=>simp[eq_comm]
theorem yF{i:Int}(h:0<i):Txt.startswith (aF i) ⟨#[48]⟩=false:=by
 rw[Bool.eq_false_iff]
 intro z
 obtain⟨r,e⟩:=(qD _ _).mp z
 obtain⟨m,rfl⟩:=Int.eq_ofNat_of_zero_le (Int.le_of_lt h)
 obtain⟨d,r',e',hd⟩:=Ey m (by lia)
 rw[kL,e']at e
 injection e with e _
 exact hd e
def i6(e:Int×Int):Str:=aF e.1++NX "-" ++aF e.2
def lA(row:List (Int×Int)):Str:=if row.length=0 then NX "none"else Str.join (NX " ") (row.map i6)
theorem vO(a b:Int):i6 (a,b)=Str.join ⟨#[45]⟩ [aF a,aF b]:=rfl
theorem DI{a b:Int}(ha:0<=a)(hb:0<=b):Txt.split (i6 (a,b)) (NX "-")=[aF a,aF b]:=by
 rw[vO]
 refine fQ (c:=45) (by simp) fun p hp=>?_
 rcases List.mem_cons.mp hp with rfl|hp
 .exact iN ha (by lia)
 .rw[List.mem_singleton.mp hp]
  exact iN hb (by lia)
theorem ex_free{a b:Int}(ha:0<=a)(hb:0<=b):∀c∈signs (i6 (a,b)),c=45\/(48<=c/\c<=57):=by
 intro c hc
 unfold i6 at hc
 rw[bq,bq]at hc
 rcases List.mem_append.mp hc with hc|hc
 .rcases List.mem_append.mp hc with hc|hc
  .exact .inr (fe ha c hc)
  .left
   have:signs (NX "-")=[45]:=by decide+kernel
   rw[this]at hc
   exact List.mem_singleton.mp hc
 .exact .inr (fe hb c hc)
theorem jd{row:List (Int×Int)}(ne:row≠[])(h:∀e∈row,0<=e.1/\0<=e.2):Txt.split (lA row) (NX " ")=row.map i6:=by
 unfold lA
 rw[if_neg (by intro z;exact ne (List.length_eq_zero_iff.mp z))]
 refine fQ (c:=32) (by simpa using ne) fun p hp=>?_
 obtain⟨e,he,rfl⟩:=List.mem_map.mp hp
 obtain⟨a,b⟩:=e
 have:=h _ he
 intro z
 have:=ex_free this.1 this.2 32 z
 lia
theorem jN{row:List (Int×Int)}(ne:row≠[])(h:∀e∈row,0<=e.1/\0<=e.2):lA row≠NX "none" :=by
 intro z
 have s:=jd ne h
 rw[z]at s
 have e1:Txt.split (NX "none") (NX " ")=[NX "none"]:=by
  have:=fQ (c:=32) (ts:=[NX "none"]) (by simp) (by decide+kernel)
  exact this
 rw[e1]at s
 cases row with
 |nil=>exact ne rfl
 |cons e r=>
  rw[N4]at s
  injection s with s _
  have:=ex_free (h e List.mem_cons_self).1 (h e List.mem_cons_self).2 110 (by rw[←s];decide+kernel)
  lia
theorem uv{a b:Int}(ha:0<=a)(hb:0<=b)(ha9:a<10^9)(hb9:b<10^9):(i6 (a,b)).length<=19:=by
 unfold i6
 rw[Str.length_append,Str.length_append]
 have:=dv ha ha9
 have:=dv hb hb9
 show(aF a).length+(NX "-").length+(aF b).length<=19
 have:(NX "-").length=1:=by decide+kernel
 lia
theorem bF{z:Str}{ts:List Str}{B:Nat}(hz:z.length<=10)(hB:∀y∈ts,y.length<=B)(hb:B<=10000)(h:ts.length<=100):JoinOk z ts=true:=by
 unfold JoinOk
 rw[Bool.not_eq_true']
 refine StrLaws.joinFits hB ?_
 have h1:ts.length*B<=100*10000:=Nat.mul_le_mul h hb
 have h2:ts.length*z.length<=100*10:=Nat.mul_le_mul h hz
 lia
theorem CP{row:List (Int×Int)}(h60:row.length<=60)(h:∀e∈row,0<=e.1/\0<=e.2/\e.1<10^9/\e.2<10^9):(lA row).length<=2000:=by
 unfold lA
 split
 .decide+kernel
 .have h1:=StrLaws.join_length_le (NX " ") (row.map i6)
  have h2:=StrLaws.sumLen_le (B:=19) (row.map i6) (fun y hy=>by
   obtain⟨⟨a,b⟩,he,rfl⟩:=List.mem_map.mp hy
   obtain⟨a0,b0,a9,b9⟩:=h _ he
   exact uv a0 b0 a9 b9)
  have h3:(NX " ").length=1:=by decide+kernel
  rw[NY]at h1 h2
  rw[h3]at h1
  lia
end Sw
namespace L2
open PySem PySem.Spec PyProof.Rows
theorem IK{K:W.Frag}{ix:List (Option Nat)}{g:TG}{te:TE}{σ:St}{Q:VK}{H:Hp}{a:Addr}{xs:List V}(Pv:Nat->List V->St->Hp->Prop)(hn:xs.length<=1000000)(h0:Pv 0 [] (dC ix σ) H)
  (hl:∀i ys σ H,i<=xs.length->Pv i ys σ H->aC K H a xs) (hlen:∀i ys σ H,Pv i ys σ H->ys.length<=i)
  (hs:∀i ys σ H x(R:St->List V->Hp->Prop),xs[i]?=some x->Pv i ys σ H->(∀σ2 ys2 H5,Pv (i+1) ys2 σ2 H5->R σ2 ys2 H5)->g x σ H fun σ2 H3=>te σ2 H3 fun v H5=>R σ2 (ys++[v]) H5)
  (hd:∀ys σ' H' p,Pv xs.length ys σ' H'->H' p=none->Q (.ref p) (upd H' p (.lst ys))):hW ix g gT te σ Q (Fb K a) H:=by
 refine iY Pv hn h0 (fun i ys σ H hi p=>⟨xs,xs[i],hl i ys σ H (Nat.le_of_lt hi) p,by simp[hi]⟩) (fun ys σ H p=>⟨xs,hl _ ys σ H (Nat.le_refl _) p,Nat.le_refl _⟩) hlen (fun i ys σ H x H2 R hi p y r=>?_) hd
 obtain⟨rfl,y⟩:=y
 unfold gT
 simp only[if_true]
 exact hs i ys σ _ x R (y xs (hl i ys σ _ (Nat.le_of_lt hi) p)) p r
end L2
namespace Sw
open PySem L2
theorem fi{i:Int}(h0:0<=i)(h9:i<10^9):i.natAbs.log2<1920:=by
 by_cases hz:i.natAbs=0
 .rw[hz];decide
 .rw[Nat.log2_lt hz]
  have h1:i.natAbs<2^30:=by lia
  exact Nat.lt_of_lt_of_le h1 (Nat.pow_le_pow_right (by decide) (by decide))
theorem dB.Lr {H:Hp}:∀{vs:List V}{r:List (Int×Int)},dB H vs r->mf H (fun _=>True) vs (r.map fun e=>PyData.tuple [.int e.1,.int e.2])
 |_,_,.nil=> .nil
 |_,_,.cons h x=> .cons (.tup h trivial (.cons (.int _) (.cons (.int _) .nil))) x.Lr
theorem za{n:Int}{row:List (Int×Int)}(hg:Good n row)(h60:row.length<=60):qF n (.list (row.map fun e=>PyData.tuple [.int e.1,.int e.2]))=true:=by
 unfold qF
 rw[Bool.and_eq_true,NY,List.all_map,List.all_eq_true]
 refine⟨decide_eq_true h60,fun e he=>?_⟩
 have g:=hg e he
 show((decide (1<=e.1/\e.1<=n)&&decide (1<=e.2/\e.2<=n))&&decide (e.1<e.2))=true
 rw[decide_eq_true (by lia),decide_eq_true (by lia),decide_eq_true (by lia)]
 rfl
def zc:Sp:=fun vs H Q _=>∃(i:Int),vs=[.str (aF i)]/\0<=i/\i<10^9/\Q (.int i) H
def yi:Sp:=fun vs H Q _=>∃(x:Str),vs=[.str x]/\Q .cP H
structure KN(mg:Str->Option Value)(K:W.Frag)(u:Value):Prop extends T1 mg K where
 cI:mg "str" =none
 gO:mg "MOST_FIGURES" =some u
 gI:RelV (.int 9) u
section
variable{P:Program}{w:World}{K:W.Frag}{mg:Str->Option Value}{base:Heap}{u:Value}
theorem jO:az ["word"] ["word"] (ar (top 81)):=⟨rfl,rfl,rfl,by decide+kernel,rfl,by decide+kernel,by decide+kernel⟩
theorem Ew{f:Addr}{fd:FuncData}(F:dh K "read_number" "read_number" (top 81) f fd)(T:KN mg K u):aR P w K mg base hZ 1 f fd ["word"] zc:=by
 refine F.ok jO (fun vs H Q E h=>?_) (fun cdv A outer s H vs Q E hr h=>?_)
 .obtain⟨i,rfl,_⟩:=h
  rfl
 .obtain⟨i,rfl,i0,i9,k⟩:=h
  refine⟨_,(ah (bt (PW.pt (lL (dz (cC (pT (K:=K) rfl PySem.F.plainAttrs_str PySem.F.slot_str_isascii PySem.F.type_str_isascii qw (pv 0)))) (lL (dz (cC (pT (K:=K) rfl PySem.F.plainAttrs_str PySem.F.slot_str_isdigit PySem.F.type_str_isdigit qy (pv 0)))) (j9 (aI qB (aq jg rfl T.bV (by decide+kernel) (aa (pv 0) af)) (cT rfl T.gO T.gI) (aL _)))))) (ai nA) aE)
   (ah (bt (PW.pt (y2 (aI lG (pv 0) aw (aL _)) (uo (cC (br (K:=K) rfl PySem.F.plainAttrs_str PySem.F.slot_str_startswith PySem.F.type_str_startswith tH (pv 0) (aa aw af)))))) (ai nA) aE)
   (ai (aA (aO lI rfl T.qL (by decide+kernel) (aa (pv 0) af)))))),?_⟩
  have big:(10000000:Nat)<=sizeLine:=by decide
  have nl:=dv i0 i9
  refine⟨_,rfl,rfl,_,rfl,rfl,_,rfl,lW (by rw[BK i0];rfl) ?_⟩
  refine⟨_,rfl,rfl,_,rfl,rfl,_,rfl,lW (by rw[wA i0];rfl) ?_⟩
  refine⟨_,rfl,_,rfl,by lia,_,_,rfl,rfl,_,rfl,lW (decide_eq_false (by lia)) ?_⟩
  refine⟨_,rfl,rfl,_,rfl,?_⟩
  have fin:FH (MH Hv (kj (lj 0) u6)) {nx:=fun x H'=>Q V.cP H',rt:=Q} (L2.start [NX "word"] [V.str (aF i)]) H:=⟨_,rfl,_,i,rfl,uR i0 (by lia),by lia,k⟩
  by_cases hz:i=0
  .subst hz
   refine lW (by decide+kernel) ?_
   exact fin
  .have nz:Txt.startswith (aF i) (NX "0")=false:=yF (by lia)
   refine dQ (fun _=>?_) (fun _=>?_)
   .exact⟨_,rfl,rfl,_,_,rfl,rfl,_,rfl,lW nz fin⟩
   .exact fin
theorem lM:az ["thing"] ["thing"] (ar (top 80)):=⟨rfl,rfl,rfl,by decide+kernel,rfl,by decide+kernel,by decide+kernel⟩
theorem Ad{f:Addr}{fd:FuncData}(F:dh K "check_text" "check_text" (top 80) f fd)(T:KN mg K u):aR P w K mg base hZ 1 f fd ["thing"] yi:=by
 refine F.ok lM (fun vs H Q E h=>?_) (fun cdv A outer s H vs Q E hr h=>?_)
 .obtain⟨x,rfl,_⟩:=h
  rfl
 .obtain⟨x,rfl,k⟩:=h
  refine⟨_,(ai (bt (dz (cC (aq (gF (K:=K) rfl) rfl T.aG (by decide+kernel) (aa (pv 0) (aa (i4 (v:= .ty "str") rfl T.cI (by decide+kernel) rfl) af))))) (ai nA) aE)),?_⟩
  refine⟨_,rfl,_,_,"str",_,rfl,lY.str x,Ct _ _,true,rfl,sF ?_⟩
  exact k
def ui:Sp:=fun vs H Q _=>∃(n:Int)(row:List (Int×Int)),vs=[.int n,.str (lA row)]/\Good n row/\n<10^9/\row.length<=60/\∀l es H',H l=none->H' l=some (.lst es)->dB H' es row->ag H H'->Q (.ref l) H'
structure Np(P:Program)(w:World)(K:W.Frag)(mg:Str->Option Value)(base:Heap):Prop extends T1 mg K where
 eE:FnAt P w K mg base "check_text" 1 ["thing"] yi
 bS:FnAt P w K mg base "read_number" 1 ["word"] zc
 ke:FnAt P w K mg base "is_row" 6 ["n","thing"] pN
theorem ie:az ["n","text","row"] ["n","text"] (ar (top 85)):=⟨rfl,rfl,rfl,by decide+kernel,rfl,by decide+kernel,by decide+kernel⟩
theorem yH{f:Addr}{fd:FuncData}(F:dh K "read_row" "read_row" (top 85) f fd)(T:Np P w K mg base):aR P w K mg base hZ 7 f fd ["n","text"] ui:=by
 refine F.ok ie (fun vs H Q E h=>?_) (fun cdv A outer s H vs Q E hr h=>?_)
 .obtain⟨n,row,rfl,_⟩:=h
  rfl
 .obtain⟨n,row,rfl,hg,n9,h60,k⟩:=h
  refine⟨_,(ah (cB (au T.eE (hr.mono (by first|decide|lia)) rfl (aa (pv 1) af)))
   (ah (bt (aI cG (pv 1) aw (aL _)) (ai (aA (aZ af))) aE)
   (ah (mL (i:=2) ie.nd rfl rfl (N:=(["pair"]:List Str)) (ix:=([none]:List (Option Nat))) (bc rfl rfl) rfl (aT (K:=K) rfl (br (K:=K) rfl PySem.F.plainAttrs_str PySem.F.slot_str_split PySem.F.type_str_split jT (pv 1) (aa aw af))) (fun _ _ _ _=>(ay (i:=0) (show List.Nodup (["pair"]:List Str)from by decide+kernel) rfl (Or.inl rfl))) (fun _ _ _ _=>bg) (fun _ _ _ _=>(aO (cN (K:=K) rfl) rfl T.hJ (by decide+kernel) (aa (bQ (N:=(["word"]:List Str)) (ix:=([none]:List (Option Nat))) (bc rfl rfl) rfl (aT (K:=K) rfl (br (K:=K) rfl PySem.F.plainAttrs_str PySem.F.slot_str_split PySem.F.type_str_split jT (pv 0) (aa aw af))) (fun _ _ _ _=>(ay (i:=0) (show List.Nodup (["word"]:List Str)from by decide+kernel) rfl (Or.inl rfl))) (fun _ _ _ _=>bg) (fun _ _ _ _=>(au T.bS (hr.mono (by first|decide|lia)) rfl (aa (pv 0) af)))) af))))
   (ah (bt (dz (cC (au T.ke (hr.mono (by first|decide|lia)) rfl (aa (pv 0) (aa (pv 2) af))))) (ai nA) aE)
   (ai (aA (pv 2))))))),?_⟩
  have big:(10000000:Nat)<=sizeLine:=by decide
  have hs:∀e∈row,0<=e.1/\0<=e.2:=fun e he=>by have:=hg e he;lia
  refine⟨_,rfl,_,rfl,?_⟩
  refine⟨_,rfl,rfl,_,rfl,?_⟩
  by_cases hz:row=[]
  .subst hz
   refine BV (by decide+kernel) ?_
   exact⟨Nat.zero_le _,fun l hl=>k l [] _ hl ae .nil (ag.new hl)⟩
  .have ne:=jN hz hs
   refine lW (decide_eq_false (by intro z;injection z with z;exact ne z)) ?_
   have rl:=CP h60 fun e he=>by have:=hg e he;lia
   refine⟨_,rfl,rfl,_,_,rfl,rfl,by decide+kernel,by lia,fun l1 f1=>⟨l1,rfl,⟨_,aC.of ae⟩,?_⟩⟩
   rw[jd hz hs]
   have s1:ag H (upd H l1 (.lst ((row.map i6).map V.str))):=ag.new f1
   have h1:upd H l1 (.lst ((row.map i6).map V.str)) l1=some (.lst ((row.map i6).map V.str)):=ae
   generalize upd H l1 (.lst ((row.map i6).map V.str))=H1 at s1 h1⊢
   have ll:((row.map i6).map V.str).length=row.length:=by rw[NY,NY]
   refine eF (K:=K) (a:=l1) (xs:=(row.map i6).map V.str) (k:=0) (fun i ys σ' H'=>(∃v0,σ'=[v0])/\ag H1 H'/\dB H' ys (row.take i)) (by lia) ⟨⟨none,rfl⟩,ag.refl _,.nil⟩ (fun i ys σ' H' _ q=>aC.of (q.2.1 _ _ h1)) (fun i ys σ' H' q=>by have:=q.2.2.length;rw[N5]at this;lia) ?_ ?_
   .rintro i ys σ' H2 x R hx ⟨⟨v0,rfl⟩,s2,x2⟩ done
    obtain⟨⟨a,b⟩,hab,rfl⟩:∃e,row[i]?=some e/\V.str (i6 e)=x:=by
     rw[NZ,NZ]at hx
     cases e:row[i]? with
     |none=>rw[e]at hx;cases hx
     |some e'=>rw[e]at hx;exact⟨e',rfl,Option.some.inj hx⟩
    have g:=hg (a,b) (N9 hab)
    dsimp only at g
    have el:=uv (a:=a) (b:=b) (by lia) (by lia) (by lia) (by lia)
    refine⟨_,rfl,rfl,_,_,rfl,rfl,by decide+kernel,by lia,fun l2 f2=>⟨l2,rfl,⟨_,aC.of ae⟩,?_⟩⟩
    rw[DI (by lia) (by lia)]
    have s3:ag H2 (upd H2 l2 (.lst ([aF a,aF b].map V.str))):=ag.new f2
    have h3:upd H2 l2 (.lst ([aF a,aF b].map V.str)) l2=some (.lst ([aF a,aF b].map V.str)):=ae
    generalize upd H2 l2 (.lst ([aF a,aF b].map V.str))=H3 at s3 h3⊢
    refine eF (K:=K) (a:=l2) (xs:=[aF a,aF b].map V.str) (k:=0) (fun j ys' σ'' H'=>(∃v0,σ''=[v0])/\H'=H3/\ys'=([a,b].take j).map V.int) (by show 2<=1000000;decide) ⟨⟨none,rfl⟩,rfl,rfl⟩ (fun j ys' σ'' H' _ q=>by rw[q.2.1];exact aC.of h3) (fun j ys' σ'' H' q=>by rw[q.2.2,NY,N5];lia) ?_ ?_
    .rintro j ys' σ'' H' x' R' hx' ⟨⟨v0,rfl⟩,rfl,rfl⟩ done'
     obtain⟨z,hz',rfl⟩:∃z,[a,b][j]?=some z/\V.str (aF z)=x':=by
      match j,hx' with
      |0,h=>exact⟨a,rfl,Option.some.inj h⟩
      |1,h=>exact⟨b,rfl,Option.some.inj h⟩
      |j+2,h=>simp at h
     have zb:0<=z/\z<10^9:=by
      have:z∈[a,b]:=N9 hz'
      rcases List.mem_cons.mp this with rfl|this
      .lia
      .rw[List.mem_singleton.mp this];lia
     refine⟨_,rfl,z,rfl,zb.1,zb.2,done' _ _ _ ⟨⟨_,rfl⟩,rfl,?_⟩⟩
     rw[aH V.int hz']
    .rintro ys' σ'' H' q ⟨⟨v0,rfl⟩,e0,rfl⟩ fq
     have e0:=e0.symm
     subst e0
     refine⟨q,_,rfl,.inl ⟨aC.of ae,fun t ft=>?_⟩⟩
     have s4:ag H3 (upd H3 q (.lst [V.int a,V.int b])):=ag.new fq
     have s5:ag (upd H3 q (.lst [V.int a,V.int b])) (upd (upd H3 q (.lst [V.int a,V.int b])) t (.tup [V.int a,V.int b])):=ag.new ft
     have s6:=s3.trans (s4.trans s5)
     refine done _ _ _ ⟨⟨_,rfl⟩,s2.trans s6,?_⟩
     rw[List.take_succ,hab]
     exact(x2.keep (ag.cy s6)).snoc ae
   .rintro ys σ' H2 q ⟨⟨v0,rfl⟩,s2,x2⟩ fq
    rw[List.take_of_length_le (by lia)]at x2
    have s3:ag H2 (upd H2 q (.lst ys)):=ag.new fq
    have x3:=x2.keep (ag.cy s3)
    have s13:=s1.trans (s2.trans s3)
    have h3:upd H2 q (.lst ys) q=some (.lst ys):=ae
    have fq0:H q=none:=(s1.trans s2).free fq
    generalize upd H2 q (.lst ys)=H3 at s3 x3 s13 h3⊢
    refine⟨_,rfl,_,rfl,.ref q,(fun _=>True),.list (row.map fun e=>PyData.tuple [.int e.1,.int e.2]),n,rfl,.lst h3 trivial x3.Lr,fun ds e=>?_,fun H4 s4=>⟨_,rfl,lW ?_ ?_⟩⟩
    .injection e with e
     rw[←e,NY];lia
    .rw[za hg h60];rfl
    .exact⟨_,rfl,k q ys H4 fq0 (s4 _ _ h3) (x3.keep (ag.cy s4)) (s13.trans s4)⟩
end
end Sw
namespace L2
open PySem PySem.Spec PyProof.Rows
section
variable{X:Cx}{K:W.Frag}
theorem xu{x:Str}(h:2<=x.length):Txt.slice x (some 1) (some (-1))=⟨((x.cps.toList.drop 1).take (x.length-2)).toArray⟩:=by
 show StrLaws.sliceText x (some 1) (some (-1))=_
 rw[StrLaws.sliceText_neg_hi x (some 1) (by decide) (by lia)]
 have:=StrLaws.sliceText_nat x (a:=1) (b:=x.length-1) (by lia) (by lia)
 rw[show((-1:Int)+x.length)=((x.length-1:Nat):Int) by lia]
 rw[show x.length-1-1=x.length-2 by lia]at this
 exact this
end
end L2
namespace Sw
open PySem L2
def oh(r:List Int):Str:=Str.join (NX " ") (r.map aF)
def FK(r:List Int):Str:=NX "(" ++oh r++NX ")"
def om(rs:List (List Int)):Str:=Str.join (NX "") (rs.map FK)
theorem lb:∀ts:List Str,signs (Str.join (NX "") ts)=(ts.map signs).flatten
 |[]=>rfl
 |[x]=>by show signs x=(signs x::[]).flatten;simp
 |x::y::r=>by
  show signs (x++NX "" ++Str.join (NX "") (y::r))=(signs x::(y::r).map signs).flatten
  rw[bq,bq,lb (y::r),List.flatten_cons]
  rw[show signs (NX "")=[] by decide+kernel,List.append_nil]
def cX(c d:Nat):List (List Nat)->List Nat
 |[]=>[]
 |[x]=>x
 |x::y::r=>x++c::d::cX c d (y::r)
theorem dO(c d:Nat):∀ts:List Str,signs (Str.join ⟨#[c,d]⟩ ts)=cX c d (ts.map signs)
 |[]=>rfl
 |[x]=>rfl
 |x::y::r=>by
  show signs (x++(⟨#[c,d]⟩:Str)++Str.join ⟨#[c,d]⟩ (y::r))=signs x++c::d::cX c d ((y::r).map signs)
  rw[bq,bq,dO c d (y::r),List.append_assoc]
  rfl
theorem tP{c d:Nat}:∀{ps qs:List (List Nat)},ps≠[]->qs≠[]->(∀p∈ps,c∉p)->(∀q∈qs,c∉q)->cX c d ps=cX c d qs->ps=qs
 |[],_,h,_,_,_,_=>absurd rfl h
 |_,[],_,h,_,_,_=>absurd rfl h
 |[x],[y],_,_,_,_,h=>by rw[show x=y from h]
 |[x],y::z::r,_,_,h1,_,h=>by
  have h:x=y++c::d::cX c d (z::r):=h
  exact absurd (by rw[h];exact List.mem_append_right _ List.mem_cons_self) (h1 x List.mem_cons_self)
 |x::z::r,[y],_,_,_,h2,h=>by
  have h:x++c::d::cX c d (z::r)=y:=h
  exact absurd (by rw[←h];exact List.mem_append_right _ List.mem_cons_self) (h2 y List.mem_cons_self)
 |x::y::r,z::w::s,_,_,h1,h2,h=>by
  obtain⟨e1,e2⟩:=um (h1 x List.mem_cons_self) (h2 z List.mem_cons_self) (show x++c::(d::cX c d (y::r))=z++c::(d::cX c d (w::s))from h)
  injection e2 with _ e2
  rw[e1,tP (by simp) (by simp) (fun p hp=>h1 p (List.mem_cons_of_mem _ hp)) (fun p hp=>h2 p (List.mem_cons_of_mem _ hp)) e2]
theorem rH{c d:Nat}:∀{ts:List (List Nat)},(∀t∈ts,c∉t)->∀k,(cX c d ts)[k]?=some c->c≠d->(cX c d ts)[k+1]?=some d
 |[],_,k,h,_=>by simp[cX]at h
 |[x],hf,k,h,_=>absurd (N9 (show x[k]?=some c from h)) (hf x List.mem_cons_self)
 |x::y::r,hf,k,h,hcd=>by
  have h:(x++c::d::cX c d (y::r))[k]?=some c:=h
  show(x++c::d::cX c d (y::r))[k+1]?=some d
  by_cases h1:k<x.length
  .rw[List.getElem?_append_left h1]at h
   exact absurd (N9 h) (hf x List.mem_cons_self)
  .rw[List.getElem?_append_right (by lia)]at h⊢
   rcases Nat.lt_or_ge k (x.length+2)with h2|h2
   .rcases Nat.lt_or_ge k (x.length+1)with h3|h3
    .rw[show k+1-x.length=1 by lia];rfl
    .rw[show k-x.length=1 by lia]at h
     have h:some d=some c:=h
     exact absurd (Option.some.inj h).symm hcd
   .obtain⟨j,hj⟩:∃j,k-x.length=j+2:=⟨k-x.length-2,by lia⟩
    rw[hj]at h
    rw[show k+1-x.length=(j+1)+2 by lia]
    exact rH (fun t ht=>hf t (List.mem_cons_of_mem _ ht)) j h hcd
theorem tw{x y:Str}{c a b:Nat}(hb:b<=x.length)(hf:∀k,(signs x)[k]?=some c->StrLaws.At x y x.length k)(hn:∀k,a<=k->k<b->¬StrLaws.At x y x.length k):c∉signs (Builtin.Str.strSub x a b):=by
 intro hm
 unfold signs at hm
 rw[StrLaws.strSub_toList]at hm
 obtain⟨j,hj⟩:=List.getElem?_of_mem hm
 have hlt:j<b-a:=by
  have h1:=(List.getElem?_eq_some_iff.mp hj).1
  rw[N5]at h1
  lia
 rw[List.getElem?_take_of_lt hlt,List.getElem?_drop]at hj
 exact hn (a+j) (by lia) (by lia) (hf _ hj)
theorem qN{x y:Str}{c:Nat}(hf:∀k,(signs x)[k]?=some c->StrLaws.At x y x.length k):∀(cuts:List Nat)(a f:Nat),StrLaws.ChainG x y x.length a cuts f->(∀k,f<=k->¬StrLaws.At x y x.length k)->∀p∈StrLaws.partsFrom x y.length a cuts,c∉signs p
 |[],a,f,h,hn,p,hp=>by
  have e:f=a:=h
  subst e
  rw[List.mem_singleton.mp hp]
  exact tw (Nat.le_refl _) hf fun k h1 _=>hn k h1
 |d::r,a,f,h,hn,p,hp=>by
  rcases List.mem_cons.mp hp with rfl|hp'
  .exact tw (by have:=h.2.1.1;lia) hf h.2.2.1
  .exact qN hf r _ f h.2.2.2 hn p hp'
theorem ym{x y:Str}{c:Nat}(hw:1<=y.length)(hy:Builtin.Str.strKind y=1)(hf:∀k,(signs x)[k]?=some c->StrLaws.At x y x.length k):∀p∈Txt.split x y,c∉signs p:=by
 obtain⟨f,hG,hn⟩:=StrLaws.occ_tight x y hw
 have whole:(∀k,¬StrLaws.At x y x.length k)->c∉signs x:=fun h hm=>by
  obtain⟨j,hj⟩:=List.getElem?_of_mem hm
  exact h j (hf j hj)
 unfold Txt.split
 split
 .rename_i hc
  intro p hp
  rw[List.mem_singleton.mp hp]
  refine whole fun k hA=>?_
  rw[Bool.or_eq_true,decide_eq_true_eq,decide_eq_true_eq]at hc
  rcases hc with h|h
  .have:=hA.1;lia
  .rw[hy]at h
   unfold Builtin.Str.strKind at h
   split at h
   .lia
   .split at h<;>lia
 .split
  .rename_i he
   intro p hp
   rw[List.mem_singleton.mp hp]
   rw[List.isEmpty_iff.mp he]at hG
   have e:f=0:=hG
   exact whole fun k=>hn k (by lia)
  .rw[StrLaws.partsBetween_eq]
   exact qN hf _ 0 f hG hn
theorem ur{ts:List Str}(ne:ts≠[])(free:∀p∈ts,41∉signs p):Txt.split (Str.join ⟨#[41,40]⟩ ts) ⟨#[41,40]⟩=ts:=by
 have e:=StrLaws.join_split (Str.join ⟨#[41,40]⟩ ts) ⟨#[41,40]⟩
 have fr:∀q∈ts.map signs,41∉q:=fun p hp=>by
  obtain⟨q,hq,rfl⟩:=List.mem_map.mp hp
  exact free q hq
 have f:=ym (x:=Str.join ⟨#[41,40]⟩ ts) (y:=⟨#[41,40]⟩) (c:=41) (by decide) (by decide+kernel) fun k hk=>by
  rw[dO]at hk
  have hk2:=rH fr k hk (by decide)
  rw[←dO]at hk hk2
  have l2:=(List.getElem?_eq_some_iff.mp hk2).1
  rw[bA]at l2
  refine⟨by show k+2<=_;lia,?_⟩
  rw[StrLaws.subAt_eq]
  show(((signs (Str.join ⟨#[41,40]⟩ ts)).drop k).take 2==[41,40])=true
  have d1:(signs (Str.join ⟨#[41,40]⟩ ts)).drop k=41::(signs (Str.join ⟨#[41,40]⟩ ts)).drop (k+1):=by
   obtain⟨h1,h2⟩:=List.getElem?_eq_some_iff.mp hk
   rw[List.drop_eq_getElem_cons h1,h2]
  have d2:(signs (Str.join ⟨#[41,40]⟩ ts)).drop (k+1)=40::(signs (Str.join ⟨#[41,40]⟩ ts)).drop (k+2):=by
   obtain⟨h1,h2⟩:=List.getElem?_eq_some_iff.mp hk2
   rw[List.drop_eq_getElem_cons h1,h2]
  rw[d1,d2]
  rfl
 have e2:cX 41 40 ((Txt.split (Str.join ⟨#[41,40]⟩ ts) ⟨#[41,40]⟩).map signs)=cX 41 40 (ts.map signs):=by
  rw[←dO,←dO,e]
 refine ip (tP (by simpa using nD _ _) (by simpa using ne) ?_ fr e2)
 intro p hp
 obtain⟨q,hq,rfl⟩:=List.mem_map.mp hp
 exact f q hq
theorem tK:∀{ts:List (List Nat)},ts≠[]->(ts.map fun t=>40::(t++[41])).flatten=40::(cX 41 40 ts++[41])
 |[],h=>absurd rfl h
 |[x],_=>by simp[cX]
 |x::y::r,_=>by
  rw[N4,List.flatten_cons,tK (ts:=y::r) (by simp)]
  show 40::(x++[41])++40::(cX 41 40 (y::r)++[41])=40::(x++41::40::cX 41 40 (y::r)++[41])
  simp
theorem qK(r:List Int):signs (FK r)=40::(signs (oh r)++[41]):=by
 unfold FK
 rw[bq,bq]
 rw[show signs (NX "(")=[40] by decide+kernel,show signs (NX ")")=[41] by decide+kernel]
 rfl
theorem BD{rs:List (List Int)}(h:rs≠[]):signs (om rs)=40::(cX 41 40 ((rs.map oh).map signs)++[41]):=by
 unfold om
 rw[lb,N7]
 rw[show(signs∘FK)=(fun r=>40::(signs (oh r)++[41]))from funext qK]
 rw[←tK (by simpa using h),N7,N7]
 rfl
theorem AM{rs:List (List Int)}(h:rs≠[]):Txt.slice (om rs) (some 1) (some (-1))=Str.join ⟨#[41,40]⟩ (rs.map oh):=by
 have e:=BD h
 have l:(om rs).length=(cX 41 40 ((rs.map oh).map signs)).length+2:=by rw[←bA,e];simp
 rw[xu (by lia)]
 apply bT
 show(((signs (om rs)).drop 1).take ((om rs).length-2)).toArray.toList=_
 rw[dO,e,l]
 simp
theorem Gu{r:List Int}(h:∀x∈r,0<=x):∀c∈signs (oh r),c=32\/(48<=c/\c<=57):=by
 unfold oh
 rw[show(NX " ")=(⟨#[32]⟩:Str)from rfl,bU]
 induction r with
 |nil=>intro c hc;simp[glue]at hc
 |cons x r ih=>
  intro c hc
  cases r with
  |nil=>exact .inr (fe (h x List.mem_cons_self) c hc)
  |cons y r=>
   have hc:c∈signs (aF x)++32::glue 32 (((y::r).map aF).map signs):=hc
   rcases List.mem_append.mp hc with hc|hc
   .exact .inr (fe (h x List.mem_cons_self) c hc)
   .rcases List.mem_cons.mp hc with rfl|hc
    .exact .inl rfl
    .exact ih (fun z hz=>h z (List.mem_cons_of_mem _ hz)) c hc
theorem Br{rs:List (List Int)}(h:rs≠[])(hp:∀r∈rs,∀x∈r,0<=x):Txt.split (Txt.slice (om rs) (some 1) (some (-1))) (NX ")(")=rs.map oh:=by
 rw[AM h]
 refine ur (by simpa using h) fun p hpm=>?_
 obtain⟨r,hr,rfl⟩:=List.mem_map.mp hpm
 intro z
 have:=Gu (hp r hr) 41 z
 lia
theorem C7{r:List Int}(h:r≠[])(hp:∀x∈r,0<=x):Txt.split (oh r) (NX " ")=r.map aF:=by
 refine fQ (c:=32) (by simpa using h) fun p hpm=>?_
 obtain⟨x,hx,rfl⟩:=List.mem_map.mp hpm
 exact iN (hp x hx) (by lia)
theorem mQ{r:List Int}(hp:∀x∈r,0<=x/\x<10^9):(oh r).length<=r.length*10:=by
 have h1:=StrLaws.join_length_le (NX " ") (r.map aF)
 have h2:=StrLaws.sumLen_le (B:=9) (r.map aF) (fun y hy=>by
  obtain⟨x,hx,rfl⟩:=List.mem_map.mp hy
  exact dv (hp x hx).1 (hp x hx).2)
 rw[NY]at h1 h2
 have h3:(NX " ").length=1:=by decide+kernel
 rw[h3]at h1
 unfold oh
 lia
theorem C1{rs:List (List Int)}(hp:∀r∈rs,r.length<=20/\∀x∈r,0<=x/\x<10^9):(om rs).length<=rs.length*202:=by
 have h1:=StrLaws.join_length_le (NX "") (rs.map FK)
 have h2:=StrLaws.sumLen_le (B:=202) (rs.map FK) (fun y hy=>by
  obtain⟨r,hr,rfl⟩:=List.mem_map.mp hy
  have:=mQ (hp r hr).2
  have:=(hp r hr).1
  rw[←bA,qK,N3,N0,bA,List.length_singleton]
  lia)
 rw[NY]at h1 h2
 have h3:(NX "").length=0:=by decide+kernel
 rw[h3]at h1
 unfold om
 lia
theorem jQ{rs:List (List Int)}{r:List Int}(h:r∈rs):r.length<=rs.flatten.length:=by
 induction rs with
 |nil=>cases h
 |cons a rs ih=>
  rw[List.flatten_cons,N0]
  rcases List.mem_cons.mp h with rfl|h
  .lia
  .have:=ih h;lia
theorem ic{rs:List (List Int)}(h:∀r∈rs,r≠[]):rs.length<=rs.flatten.length:=by
 induction rs with
 |nil=>exact Nat.le_refl _
 |cons a rs ih=>
  rw[List.flatten_cons,N0,N3]
  have:=ih fun r hr=>h r (List.mem_cons_of_mem _ hr)
  have:=List.length_pos_iff.mpr (h a List.mem_cons_self)
  lia
theorem kS{n:Int}{xs:List Int}(o:Ord n xs):(aU n xs).flatten.length=n.toNat/\(∀r∈aU n xs,r≠[]/\r.length<=n.toNat/\∀x∈r,1<=x/\x<=n)/\(aU n xs).length<=n.toNat:=by
 have c:∀r∈aU n xs,r≠[]/\∀x∈r,1<=x/\x<=n:=fun r hr=>by
  obtain⟨c1,c2⟩:=As o hr
  refine⟨c1,fun x hx=>?_⟩
  obtain⟨i,hi⟩:=List.getElem?_of_mem hx
  obtain⟨a,b,_⟩:=c2 i x hi
  exact⟨a,b⟩
 have fl:(aU n xs).flatten.length=n.toNat:=by
  have pm:(aU n xs).flatten.Perm (bP 1 (n+1)):=by
   refine(List.perm_ext_iff_of_nodup (tu o) (fg _ _)).mpr fun x=>?_
   rw[cg]
   constructor
   .intro h
    obtain⟨r,hr,hx⟩:=List.mem_flatten.mp h
    have:=(c r hr).2 x hx
    lia
   .intro h
    exact uw o (by lia) (by lia)
  rw[pm.length_eq,aJ]
  congr 1
  lia
 refine⟨fl,fun r hr=>⟨(c r hr).1,?_,(c r hr).2⟩,?_⟩
 .rw[←fl];exact jQ hr
 .rw[←fl];exact ic fun r hr=>(c r hr).1
open PySem L2 PyProof.Rows
theorem Eu:∀(n:Nat)(ds:List Nat),ds.length=n->ds≠[]->(∀c∈ds,48<=c/\c<=57)->(ds=[48]\/ds.head?≠some 48)->∃m:Nat,(Nat.toDigits 10 m).map Char.toNat=ds/\m<10^n/\(ds≠[48]->0<m):=by
 intro n
 induction n with
 |zero=>intro ds hl ne;exact absurd (List.length_eq_zero_iff.mp hl) ne
 |succ n ih=>
  intro ds hl ne hb hz
  obtain⟨init,d,rfl⟩:∃init d,ds=init++[d]:=⟨ds.dropLast,ds.getLast ne,(List.dropLast_concat_getLast ne).symm⟩
  have hd:=hb d (by simp)
  have one:∀c,48<=c->c<=57->(Nat.toDigits 10 (c-48)).map Char.toNat=[c]:=by
   intro c h1 h2
   have:c=48\/c=49\/c=50\/c=51\/c=52\/c=53\/c=54\/c=55\/c=56\/c=57:=by lia
   rcases this with rfl|rfl|rfl|rfl|rfl|rfl|rfl|rfl|rfl|rfl<;>decide+kernel
  rw[N0,List.length_singleton]at hl
  have hl':init.length=n:=by lia
  by_cases hi:init=[]
  .subst hi
   have:n=0:=by simpa using hl'.symm
   subst this
   refine⟨d-48,one d hd.1 hd.2,by lia,fun z=>?_⟩
   have:d≠48:=fun q=>z (by rw[q];rfl)
   lia
  .have hz2:(init++[d]).head?≠some 48:=by
    rcases hz with z|z
    .exfalso
     have:=congrArg List.length z
     rw[N0,List.length_singleton,List.length_singleton]at this
     exact hi (List.length_eq_zero_iff.mp (by lia))
    .exact z
   have hz2:init.head?≠some 48:=by
    cases init with
    |nil=>exact absurd rfl hi
    |cons a r=>exact hz2
   have ni:init≠[48]:=fun z=>hz2 (by rw[z];rfl)
   obtain⟨m,hm,ml,mp⟩:=ih init hl' hi (fun c hc=>hb c (List.mem_append_left _ hc)) (.inr hz2)
   have mp:=mp ni
   have t:Nat.toDigits 10 m++Nat.toDigits 10 (d-48)=Nat.toDigits 10 (10*m+(d-48)):=Nat.toDigits_append_toDigits (by decide) mp (by lia)
   refine⟨10*m+(d-48),?_,by rw[Nat.pow_succ];lia,fun _=>by lia⟩
   rw[←t,N2,hm,one d hd.1 hd.2]
theorem Ba:∀c,c<128->Unicode.isDigit c=true->48<=c/\c<=57:=by decide+kernel
def vN(x:Str):Prop:=∃i:Int,x=aF i/\0<=i/\i<10^9
theorem Cw{x:Str}(ha:Txt.isascii x=true)(hd:Txt.isdigit x=true)(hl:x.length<=9)(hz:x=NX "0"\/Txt.startswith x (NX "0")=false):vN x:=by
 unfold Txt.isdigit at hd
 rw[Bool.and_eq_true]at hd
 obtain⟨hp,hd⟩:=hd
 have hp:0<x.length:=of_decide_eq_true hp
 unfold Txt.isascii at ha
 rw[Array.all_eq_true']at ha hd
 have bd:∀c∈signs x,48<=c/\c<=57:=fun c hc=>by
  have hc':c∈x.cps:=by simpa [signs]using hc
  exact Ba c (of_decide_eq_true (ha c hc')) (hd c hc')
 have ne:signs x≠[]:=fun z=>by
  have:=bA x
  rw[z]at this
  simp at this
  lia
 have hh:signs x=[48]\/(signs x).head?≠some 48:=by
  rcases hz with z|z
  .exact .inl (by rw[z];decide+kernel)
  .right
   intro q
   have:Txt.startswith x ⟨#[48]⟩=true:=by
    rw[qD]
    cases e:signs x with
    |nil=>rw[e]at q;cases q
    |cons a r=>rw[e]at q;injection q with q;exact⟨r,by rw[q]⟩
   rw[show(⟨#[48]⟩:Str)=NX "0"from by decide+kernel,z]at this
   cases this
 obtain⟨m,hm,ml,_⟩:=Eu (signs x).length (signs x) rfl ne bd hh
 refine⟨(m:Int),bT (by rw[kL,hm]),by lia,?_⟩
 rw[bA]at ml
 have:10^x.length<=10^9:=Nat.pow_le_pow_right (by decide) hl
 have:m<10^9:=Nat.lt_of_lt_of_le ml this
 lia
theorem qc{a b:Int}(ha:0<=a)(hb:0<=b)(ha9:a<10^10)(hb9:b<10^10)(h:aF a=aF b):a=b:=by
 have h1:=uR ha ha9
 rw[h,uR hb hb9]at h1
 injection h1 with h1
 exact h1.symm
theorem uH{x:Str}{ps:List (Int×Int)}(h:Txt.split x (NX " ")=ps.map i6):x=lA ps:=by
 have e:=StrLaws.join_split x (NX " ")
 have ne:=nD x (NX " ")
 rw[h]at e ne
 unfold lA
 rw[if_neg (by intro z;rw[List.length_eq_zero_iff.mp z]at ne;exact ne rfl)]
 exact e.symm
theorem xF{x:Str}{a b:Int}(h:Txt.split x (NX "-")=[aF a,aF b]):x=i6 (a,b):=by
 have e:=StrLaws.join_split x (NX "-")
 rw[h]at e
 rw[vO]
 exact e.symm
theorem split_le(x y:Str):(Txt.split x y).length<=x.length+2:=by
 unfold Txt.split
 split
 .simp
 .split
  .simp
  .have h:=StrLaws.occ_length_le x y 0 x.length (x.length+1)
   unfold Builtin.Str.partsBetween
   rw[NY,List.length_zip,N3,NY,N0,List.length_singleton]
   lia
theorem u3{z:Str}:∀{ts:List Str}{t:Str},t∈ts->t.length<=(Str.join z ts).length:=by
 intro ts t h
 have key:∀{ts:List Str},t∈ts->t.length<=(Str.join z ts).length:=by
  intro ts
  induction ts with
  |nil=>intro h;cases h
  |cons a r ih=>
   intro h
   cases r with
   |nil=>
    rcases List.mem_cons.mp h with rfl|h
    .exact Nat.le_refl _
    .cases h
   |cons b r=>
    have e:Str.join z (a::b::r)=a++z++Str.join z (b::r):=rfl
    rw[e,Str.length_append,Str.length_append]
    rcases List.mem_cons.mp h with rfl|h
    .lia
    .have:=ih h;lia
 exact key h
theorem iq{x y t:Str}(h:t∈Txt.split x y):t.length<=x.length:=by
 have:=u3 (z:=y) h
 rwa [StrLaws.join_split]at this
theorem kM(x:Str)(a b:Nat)(hb:b<=x.length):signs (Builtin.Str.strSub x a b)=((signs x).drop a).take (b-a):=by
 unfold Builtin.Str.strSub signs
 rw[Array.toList_extract,List.extract_eq_take_drop]
theorem p5{x:Str}{c i:Nat}:StrLaws.At x ⟨#[c]⟩ x.length i↔(signs x)[i]?=some c:=by
 have h:=StrLaws.subAt_one x c i
 unfold StrLaws.At
 rw[h]
 exact Iff.rfl
theorem Mr{w:Str}{a b:Int}(ha:0<=a)(hb:0<=b)(h1:(Txt.partition w (NX "-")).1=aF a)(h2:(Txt.partition w (NX "-")).2.2=aF b):w=i6 (a,b):=by
 have dash:NX "-" =⟨#[45]⟩:=by decide+kernel
 rw[dash]at h1 h2
 rcases partition_whole w ⟨#[45]⟩with⟨e,_⟩|⟨i,e,hat,_⟩
 .rw[e]at h2
  have:=z7 hb
  rw[←h2]at this
  exact absurd this (Nat.lt_irrefl 0)
 .rw[e]at h1 h2
  have hi:=p5.mp hat
  have il:=(List.getElem?_eq_some_iff.mp hi).1
  have wl:=bA w
  apply bT
  unfold i6
  rw[bq,bq,←h1,←h2,dash]
  dsimp only
  rw[kM w 0 i (by lia),kM w _ w.length (Nat.le_refl _)]
  show signs w=(((signs w).drop 0).take (i-0)++[45])++((signs w).drop (i+1)).take (w.length-(i+1))
  rw[List.drop_zero,Nat.sub_zero,List.take_of_length_le (l:=(signs w).drop (i+1)) (by rw[List.length_drop];lia)]
  have e3:[45]++(signs w).drop (i+1)=(signs w).drop i:=by
   rw[List.drop_eq_getElem_cons il]
   have:=(List.getElem?_eq_some_iff.mp hi).2
   rw[this]
   rfl
  rw[List.append_assoc,e3,List.take_append_drop]
theorem Ar{a b:Int}(ha:0<=a)(hb:0<=b):Txt.partition (i6 (a,b)) (NX "-")=(aF a,NX "-",aF b):=by
 have dash:NX "-" =⟨#[45]⟩:=by decide+kernel
 have se:signs (i6 (a,b))=signs (aF a)++45::signs (aF b):=by
  unfold i6
  rw[bq,bq,dash,List.append_assoc]
  rfl
 have here:(signs (i6 (a,b)))[(signs (aF a)).length]?=some 45:=by rw[se];simp
 have sl:=bA (i6 (a,b))
 rw[dash]
 rcases partition_whole (i6 (a,b)) ⟨#[45]⟩with⟨e,no⟩|⟨i,e,hat,no⟩
 .exact absurd (p5.mpr here) (no _)
 .have hi:=p5.mp hat
  have ii:i=(signs (aF a)).length:=by
   rcases Nat.lt_trichotomy i (signs (aF a)).length with c|c|c
   .exfalso
    rw[se,List.getElem?_append_left c]at hi
    exact iN ha (c:=45) (by lia) (N9 hi)
   .exact c
   .exact absurd (p5.mpr here) (no _ c)
  rw[e]
  refine Prod.ext (bT ?_) (Prod.ext rfl (bT ?_))
  .dsimp only
   rw[kM _ 0 i (by rw[se]at sl;rw[N0,N3]at sl;lia),se,ii]
   simp
  .dsimp only
   rw[kM _ _ _ (Nat.le_refl _),←sl,se,ii]
   have d:(signs (aF a)++45::signs (aF b)).drop ((signs (aF a)).length+1)=signs (aF b):=by
    rw[show signs (aF a)++45::signs (aF b)=(signs (aF a)++[45])++signs (aF b) by simp]
    exact List.drop_left' (by simp)
   show(List.drop ((signs (aF a)).length+1) _).take _=_
   rw[d]
   refine List.take_of_length_le ?_
   rw[N0,N3]
   show _<=_-((signs (aF a)).length+1)
   lia
end Sw
namespace L2
open PySem PySem.Spec PyProof.Rows
section
variable{P:Program}{w:World}{K:W.Frag}{mg:Str->Option Value}{base:Heap}{k:Nat}{f:Addr}{fd:FuncData}{ps:List Str}{sp sp2:Sp}{CX:sf}
theorem aR.lift (F:aR P w K mg base hZ k f fd ps sp):aR P w K mg base (jG P w) k f fd ps sp:=
 ⟨F.len,fun A outer s H args us vs Q E hr e0 b r h=>codeAny_mono (F.run A outer s H args us vs Q E hr e0 b r h) fun r s' z=>by
  cases r with
  |error e=>exact False.elim z
  |ok fl=>cases fl<;>exact z⟩
theorem aR.or (F:aR P w K mg base CX k f fd ps sp)(G:aR P w K mg base CX k f fd ps sp2):aR P w K mg base CX k f fd ps (fun vs H Q E=>sp vs H Q E\/sp2 vs H Q E):=
 ⟨fun vs H Q E h=>h.elim (F.len vs H Q E) (G.len vs H Q E),fun A outer s H args us vs Q E hr e0 b r h=>h.elim (fun h=>F.run A outer s H args us vs Q E hr e0 b r h) (fun h=>G.run A outer s H args us vs Q E hr e0 b r h)⟩
end
structure g0(P:Program)(w:World)(fr:List Env)(ch:List Addr)(H:Hp)(h:Heap)(e:Addr)(cls a0 fl:Value)(B:Heap)(H':Hp)(h':Heap)(bb:Option Addr):Prop where
 un:Un (gQ fr) ch H H' h h'
 aY:lz P w H' h'
 kb:B.StaysIn h'
 en:B.get? e=none
 ff:h'.FunFrames B fr
 tr:h'.TracedAtW B e cls a0 fl
 old:∀b o o',h.get? b=some o->b∉ch->b∉gQ fr->h'.get? b=some o'->B.get? b=some o'
 vM:∀b u o',H' b=some u->h'.get? b=some o'->B.get? b=some o'
 p9:∀b∈gQ fr,H' b=none
 lo:l9 h' e bb
section
variable{P:Program}{w:World}{fr:List Env}{ch:List Addr}{H H':Hp}{h h' h'':Heap}{e:Addr}{cls a0 fl fl':Value}{B:Heap}{bb:Option Addr}
theorem wB.NI (F:wB P w fr H h e cls a0 B H' h' bb):g0 P w fr [] H h e cls a0 .none B H' h' bb:=
 ⟨F.un,F.aY,F.fl.1,F.fl.2.1,F.fl.2.2.1,F.fl.2.2.2,fun b o o' q _=>F.old b o o' q,F.vM,F.p9,F.lo⟩
theorem g0.back (F:g0 P w fr [] H h e cls a0 .none B H' h' bb):wB P w fr H h e cls a0 B H' h' bb:=
 ⟨F.un,F.aY,⟨F.kb,F.en,F.ff,F.tr⟩,fun b o o' q=>F.old b o o' q (by simp),F.vM,F.p9,F.lo⟩
theorem g0.move (F:g0 P w fr ch H h e cls a0 fl B H' h' bb)(kb:B.StaysIn h'')(ff:h''.FunFrames B fr)(tr:h''.TracedAtW B e cls a0 fl')(sm:h'.UpToSlots h'')(lo:l9 h'' e bb):g0 P w fr ch H h e cls a0 fl' B H' h'' bb where
 un:=by
  refine⟨fun b o q n hb hx=>?_,fun b o q n hb hx=>?_,F.un.free,fun b o q hx=>?_,F.un.cy,F.un.iX,F.un.jM⟩
  .have e1:=F.un.keep b o q n hb hx
   exact kb b o (F.old b o o q hx hb e1)
  .obtain⟨sl,e1⟩:=F.un.slot b o q n hb hx
   obtain⟨_,o1,e2,nf⟩:=F.ff.mem hb
   rw[e1]at e2;cases e2
   obtain⟨sl',e3⟩:=sm b _ e1 nf
   exact⟨sl',e3⟩
  .obtain⟨o1,e1⟩:=F.un.there b o q hx
   by_cases hb:b∈gQ fr
   .obtain⟨_,o2,e2,nf⟩:=F.ff.mem hb
    rw[e1]at e2;cases e2
    obtain⟨sl',e3⟩:=sm b _ e1 nf
    exact⟨_,e3⟩
   .exact⟨o1,kb b o1 (F.old b o o1 q hx hb e1)⟩
 aY:=fun a o q=>(F.aY a o q).iF (fun b u hb z=>by
   rcases hb with rfl|hb
   .exact kb b u (F.vM b _ u q z)
   .exact kb b u (F.vM b _ u hb z)) (fun _ z=>z) fun _ _ z=>z
 kb:=kb
 en:=F.en
 ff:=ff
 tr:=tr
 old:=fun b o o' q hx hb z=>by
  obtain⟨o1,e1⟩:=F.un.there b o q hx
  have e2:=F.old b o o1 q hx hb e1
  have e3:=kb b o1 e2
  rw[z]at e3;cases e3
  exact e2
 vM:=fun b u o' q z=>by
  obtain⟨o1,e1⟩:=(F.aY b u q).here
  have e2:=F.vM b u o1 q e1
  have e3:=kb b o1 e2
  rw[z]at e3;cases e3
  exact e2
 p9:=F.p9
 lo:=lo
theorem g0.out {X:Cx}{pins:List (Addr×Obj)}{σ:St}{s:Shared}(I:Inv X pins σ H s)(hch:∀b∈ch,b∈X.ex\/X.s₀.heap.objs.size<=b)(F:g0 P w X.stack ch H s.heap e cls a0 fl B H' h' bb):g0 P w X.outer X.ex X.H₀ X.s₀.heap e cls a0 fl B H' h' bb:=by
 have nch:∀b o,X.s₀.heap.get? b=some o->b∉X.ex->b∉ch:=fun b o q hx hc=>(hch b hc).elim hx fun z=>absurd (Nat.lt_of_lt_of_le (Heap.lt_size q) z) (Nat.lt_irrefl _)
 have ns:∀b o,X.s₀.heap.get? b=some o->b∉gQ X.outer->b∉gQ X.stack:=fun b o q hb z=>by
  rcases List.mem_cons.mp (I.kf b z)with r|r
  .subst r
   exact absurd (Nat.lt_of_lt_of_le (Heap.lt_size q) I.ok.above) (Nat.lt_irrefl _)
  .exact hb r
 have so:∀b∈gQ X.outer,b∈gQ X.stack:=fun b z=>by
  rcases I.ok.Cd with hst|⟨hst,_⟩
  .rw[hst];exact z
  .rw[hst]
   unfold gQ at z⊢
   rw[List.filterMap_cons]
   split
   .exact z
   .exact List.mem_cons_of_mem _ z
 refine⟨⟨fun b o q n hb hx=>?_,fun b o q n hb hx=>?_,fun b o q n hx=>?_,fun b o q hx=>?_,fun b xs q=>F.un.cy b xs (I.base.cy b xs q),fun b o u q=>F.un.iX b o u (I.base.iX b o u q),fun b ps q=>?_⟩,F.aY,F.kb,F.en,?_,F.tr,fun b o o' q hx hb z=>?_,F.vM,fun b hb=>F.p9 b (so b hb),F.lo⟩
 .exact F.un.keep b o (I.base.keep b o q n hb hx) (I.base.free b o q n hx) (ns b o q hb) (nch b o q hx)
 .obtain⟨sl,e1⟩:=I.base.slot b o q n hb hx
  obtain⟨sl',e2⟩:=F.un.any e1 (I.base.free b o q n hx) (nch b o q hx)
  exact⟨sl',e2⟩
 .obtain⟨o1,e1⟩:=I.base.there b o q hx
  exact F.un.free b o1 e1 (I.base.free b o q n hx) (nch b o q hx)
 .obtain⟨o1,e1⟩:=I.base.there b o q hx
  exact F.un.there b o1 e1 (nch b o q hx)
 .obtain⟨m1,e1⟩:=I.base.jM b ps q
  obtain⟨m2,e2⟩:=F.un.jM b _ e1
  exact⟨m1++m2,by rw[e2,Array.append_assoc]⟩
 .have f:=F.ff
  rcases I.ok.Cd with hst|⟨hst,_⟩
  .rw[hst]at f;exact f
  .rw[hst]at f;exact f.2.2
 .obtain⟨o1,e1⟩:=I.base.there b o q hx
  exact F.old b o1 o' e1 (nch b o q hx) (ns b o q hb) z
theorem pk{B':Heap}(k:∀b,B.get? b=none->B'.get? b=none):∀{l:List Env},h.FunFrames B l->h.FunFrames B' l
 |[],_=>trivial
 |env::l,x=>by
  obtain⟨hk,⟨L,o,hf,hn,ho,hd⟩,hr⟩:=x
  exact⟨hk,⟨L,o,hf,k L hn,ho,hd⟩,pk k hr⟩
theorem qI{C:Addr}(gt:∀b,b≠C->h''.get? b=h'.get? b):∀{l:List Env},C∉gQ l->h'.FunFrames B l->h''.FunFrames B l
 |[],_,_=>trivial
 |env::l,nC,x=>by
  obtain⟨hk,⟨L,o,hf,hn,ho,hd⟩,hr⟩:=x
  have nL:L≠C/\C∉gQ l:=by
   unfold gQ at nC⊢
   rw[List.filterMap_cons,hf]at nC
   exact⟨fun z=>nC (by rw[z];exact List.mem_cons_self),fun z=>nC (List.mem_cons_of_mem _ z)⟩
  exact⟨hk,⟨L,o,hf,hn,(gt L nL.1).trans ho,hd⟩,qI gt nL.2 hr⟩
theorem g0.but {C:Addr}(F:g0 P w fr ch H h e cls a0 fl B H' h' bb)(hs:Heap.SameBut C h' h'')(hC:h.objs.size<=C)(hH:H' C=none)(nC:C∉gQ fr)(oC:∃o,h'.get? C=some o/\∀vs,o.data≠.fields vs):g0 P w fr ch H h e cls a0 fl (W.hideAll B [C]) H' h'' bb:=by
 have ne:∀b o,h.get? b=some o->b≠C:=fun b o q z=>by subst z;exact absurd (Nat.lt_of_lt_of_le (Heap.lt_size q) hC) (Nat.lt_irrefl _)
 have nt:∀b u,H' b=some u->b≠C:=fun b u q z=>by rw[z,hH]at q;cases q
 have nn:∀b,B.get? b=none->(W.hideAll B [C]).get? b=none:=fun b z=>by
  cases q:(W.hideAll B [C]).get? b with
  |none=>rfl
  |some o=>rw[W.of_hideAll _ q]at z;cases z
 have nf:∀b o,(∃vs,o.data= .fields vs)->h'.get? b=some o->b≠C:=fun b o ⟨vs,hv⟩ q z=>by
  obtain⟨o',h1,h2⟩:=oC
  rw[z,h1]at q
  cases q
  exact h2 vs hv
 have gt:∀b,b≠C->h''.get? b=h'.get? b:=hs.2
 refine⟨⟨fun b o q n hb hx=>?_,fun b o q n hb hx=>?_,F.un.free,fun b o q hx=>?_,F.un.cy,F.un.iX,F.un.jM⟩,fun a o q=>(F.aY a o q).iF (fun b u hb z=>?_) (fun _ z=>z) fun _ _ z=>z,fun b o q=>?_,nn e F.en,?_,?_,fun b o o' q hx hb z=>?_,fun b u o' q z=>?_,F.p9,?_⟩
 .rw[gt b (ne b o q)];exact F.un.keep b o q n hb hx
 .rw[gt b (ne b o q)];exact F.un.slot b o q n hb hx
 .rw[gt b (ne b o q)];exact F.un.there b o q hx
 .have:b≠C:=by
   rcases hb with rfl|hb
   .exact nt b _ q
   .exact nt b _ hb
  rw[gt b this];exact z
 .have hb:b≠C:=fun z=>by rw[z,W.hideAll_none [C] (List.mem_singleton.mpr rfl)]at q;cases q
  rw[gt b hb];exact F.kb b o (W.of_hideAll _ q)
 .have f1:=qI gt nC F.ff
  exact pk nn f1
 .obtain⟨oe,ws,T,oT,ts,g1,g2,g4,g5,g6,g7,g8,g9,g10⟩:=F.tr
  exact⟨oe,ws,T,oT,ts,(gt e (nf e oe ⟨_,g4⟩ g1)).trans g1,g2,g4,g5,nn T g6,g7,(gt T (nf T oT ⟨_,g9⟩ g8)).trans g8,g9,g10⟩
 .rw[gt b (ne b o q)]at z
  exact W.hideAll_get _ (F.old b o o' q hx hb z) fun hm=>ne b o q (List.mem_singleton.mp hm)
 .rw[gt b (nt b u q)]at z
  exact W.hideAll_get _ (F.vM b u o' q z) fun hm=>nt b u q (List.mem_singleton.mp hm)
 .obtain⟨o,vs,cc,h1,h2,h3,hcb⟩:=F.lo
  exact⟨o,vs,cc,(gt e (nf e o ⟨_,h2⟩ h1)).trans h1,h2,h3,hcb⟩
end
section
variable{M:Model}{A:Around}{E:Value->Shared->Prop}{s:Shared}{P:Program}{w:World}{env:Env}{outer:List Env}{L:Addr}{fr:List Env}{ch:List Addr}{H H':Hp}{h:Heap}{e:Addr}{cls a0 fl:Value}{B:Heap}{bb:Option Addr}
theorem AI{o:Option Addr}{Q:Unit->Shared->Prop}(F:g0 P w fr ch H h e cls a0 fl B H' s.heap bb)
  (k:∀h',g0 P w fr ch H h e cls a0 (o.elim Value.none fun f=>rawInt f) B H' h' bb->s.heap.UpToSlots h'->Q () {s with heap:=h'}):wpAny M A (setFlight (.ref e) o) Q E s:=by
 obtain⟨oo,vs,cc,h1,h2,h3,hcb⟩:=F.lo
 obtain⟨oe,ws,T,oT,ts,g1,g2,g4,g5,g6,g7,g8,g9,g10⟩:=F.tr
 rw[h1]at g1
 cases g1
 rw[h2]at g4
 cases g4
 have sz:3<ts.size:=(Array.getElem?_eq_some_iff.mp g10).1
 have oth:∀b,b≠T->(s.heap.update T (Obj.mapFields (·.setIfInBounds 3 (o.elim Value.none fun f=>rawInt f)))).get? b=s.heap.get? b:=fun b hb=>Heap.get?_update_other _ _ (Ne.symm hb)
 have noT:∀b u,s.heap.get? b=some u->(∀ws,u.data≠.fields ws)->b≠T:=fun b u hb hnf q=>by
  rw[q,g8]at hb
  cases hb
  exact hnf ts g9
 have e':=(oth e (Ne.symm g7)).trans h1
 have sm:s.heap.UpToSlots (s.heap.update T (Obj.mapFields (·.setIfInBounds 3 (o.elim Value.none fun f=>rawInt f)))):=fun b u hb hnf=>⟨u.slots,(oth b (noT b u hb hnf)).trans hb⟩
 unfold setFlight
 refine wpAny_bind (wpAny_field h1 h2 g5 ?_)
 rw[if_pos (by simp)]
 refine wpAny_setField g8 g9 sz (k _ (F.move (fun b u hb=>(oth b fun q=>by rw[q,g6]at hb;cases hb).trans (F.kb b u hb)) (F.ff.of_keeps fun b u hb hnf=>⟨u,(oth b (noT b u hb hnf)).trans hb,rfl⟩) ?_ sm ⟨oo,vs,cc,e',h2,h3,hcb⟩) sm)
 exact⟨oo,vs,T,_,_,e',g2,h2,g5,g6,g7,Heap.get?_update_self _ g8 (Obj.isFreed_of_fields (Obj.data_mapFields g9 _)),Obj.data_mapFields g9 _,by simp[sz]⟩
theorem xB{Q:Unit->Shared->Prop}(fr:A.frames=some (env::outer))(ef:env.frame=some L)(F:g0 P w (env::outer) ch H h e cls a0 fl B H' s.heap bb)
  (k:∀h' fl',g0 P w (env::outer) ch H h e cls a0 fl' B H' h' bb->s.heap.UpToSlots h'->Q () {s with heap:=h'}):wpAny M A (noteFrame (.ref e) env) Q E s:=by
 obtain⟨oo,vs,cc,h1,h2,h3,hcb⟩:=F.lo
 obtain⟨oe,ws,T,oT,ts,g1,⟨g2,g3⟩,g4,g5,g6,g7,g8,g9,g10⟩:=F.tr
 rw[h1]at g1
 cases g1
 rw[h2]at g4
 cases g4
 subst g2
 unfold noteFrame
 simp only[ef]
 refine wpAny_bind (wpAny_field h1 h2 g5 ?_)
 rw[if_pos (by simp)]
 refine wpAny_bind (wpAny_field g8 g9 g10 ?_)
 by_cases c:(fl==rawInt L)=true
 .rw[if_pos c]
  exact wpAny_pure (k s.heap fl F (Heap.UpToSlots.refl _))
 rw[if_neg c]
 refine wpAny_bind (wpAny_setField g8 g9 (Array.getElem?_eq_some_iff.mp g10).1 ?_)
 have oth:∀b,b≠T->(s.heap.update T (Obj.mapFields (·.setIfInBounds 3 Value.none))).get? b=s.heap.get? b:=fun b hb=>Heap.get?_update_other _ _ (Ne.symm hb)
 have noT:∀b u,s.heap.get? b=some u->(∀ws,u.data≠.fields ws)->b≠T:=fun b u hb hnf q=>by
  rw[q,g8]at hb
  cases hb
  exact hnf ts g9
 refine lV fr (F.ff.of_keeps fun b u hb hnf=>⟨u,(oth b (noT b u hb hnf)).trans hb,rfl⟩) ef ((oth e (Ne.symm g7)).trans h1) (fun b u hb=>(oth b fun q=>by rw[q,g6]at hb;cases hb).trans (F.kb b u hb)) F.en h2 g3 h3 hcb fun h' ⟨x1,x2,x3,x4⟩ l'=>?_
 have sm:s.heap.UpToSlots h':=fun b u hb hnf=>x4 b u ((oth b (noT b u hb hnf)).trans hb) hnf
 exact k h' _ (F.move x1 x2 x3 sm l') sm
theorem Cg{α:Type}{what:String}{cenv:Env}{Q:α->Shared->Prop}(F:g0 P w fr ch H h e cls a0 fl B H' s.heap bb)
  (k:∀h' fl',g0 P w fr ch H h e cls a0 fl' B H' h' bb->E (.ref e) {s with heap:=h'}):wpAny M A (PySem.passOn what (.ref e) cenv:Sem α) Q E s:=by
 obtain⟨oo,vs,cc,h1,h2,h3,hcb⟩:=id F.lo
 obtain⟨oe,ws,T,oT,ts,g1,g2,g4,g5,g6,g7,g8,g9,g10⟩:=id F.tr
 rw[h1]at g1
 cases g1
 rw[h2]at g4
 cases g4
 unfold PySem.passOn
 refine wpAny_bind (wpAny_field h1 h2 g5 ?_)
 rw[if_neg (by simp)]
 refine wpAny_bind (AI F fun h' F' _=>?_)
 exact wpAny_throw (k h' _ F')
end
def lH(X:Cx)(E:XK):Prop:=∀(pins:List (Addr×Obj))(σ:St)(H:Hp)(s:Shared)(ch:List Addr)(e:Addr)(cls a0 fl:Value)(B:Heap)(H':Hp)(bb:Option Addr)(s':Shared),Inv X pins σ H s->(∀b∈ch,(b∈X.ex\/X.s₀.heap.objs.size<=b)/\b≠X.env.locals)->
 s'.os=s.os->AllBare s'.gens->g0 X.prog X.w X.stack ch H s.heap e cls a0 fl B H' s'.heap bb->E cls bb H'->X.xe (.ref e) s'
theorem lH.passes {X:Cx}{E:XK}(p:lH X E):Passes (jG X.prog X.w) X E:=fun pins σ H s ev s' I h=>by
 obtain⟨e,cls,a0,B,H',bb,rfl,os,bare,F,q⟩:=h
 exact p pins σ H s [] e cls a0 _ B H' bb s' I (fun b hb=>nomatch hb) os bare F.NI q
section
variable{P:Program}{w:World}{K:W.Frag}{mg:Str->Option Value}{base:Heap}{N:List Str}{qual:Str}{scope:Scope}{f:Addr}{cdv:Value}{A:Around}{outer:List Env}{s:Shared}{H:Hp}{E:XK}
theorem yZ:lH (Bp P w K mg base N qual scope f cdv A outer s H E) E:=by
 intro pins σ H₁ s₁ ch e cls a0 fl B H' bb s' I hch os bare F q
 show wpAny _ _ (leaving _ (.ref e)) _ _ s'
 unfold leaving
 refine wpAny_bind (xB I.ok.frames rfl F fun g fl' F1 _=>?_)
 refine AI (s:={s' with heap:=g}) F1 fun h'' F2 _=>?_
 exact⟨e,cls,a0,B,H',bb,rfl,os.trans I.os,bare,(g0.out I (fun b hb=>(hch b hb).1) F2).back,q⟩
end
def BP(X:Cx):Prop:=∃(pG:Env)(outer0:List Env)(L:Addr),X.stack=pG::outer0/\pG.frame=some L/\X.env.frame=some L
theorem zU{P:Program}{w:World}{K:W.Frag}{mg:Str->Option Value}{base:Heap}{N:List Str}{qual:Str}{scope:Scope}{f:Addr}{cdv:Value}{A:Around}{outer:List Env}{s:Shared}{H:Hp}{E:XK}:BP (Bp P w K mg base N qual scope f cdv A outer s H E):=⟨_,_,_,rfl,rfl,rfl⟩
def nS(E:XK)(X:Cx)(N:List Str)(scope:Scope)(C:Addr)(fp:List Addr)(s:Shared)(H:Hp):Cx:=
 {pY X N scope C fp s H with xe:=fun ev s'=>∃(e:Addr)(cls a0 fl:Value)(B:Heap)(H':Hp)(bb:Option Addr),ev= .ref e/\s'.os=s.os/\AllBare s'.gens/\g0 X.prog X.w X.stack fp H s.heap e cls a0 fl B H' s'.heap bb/\(∃m,s'.heap.Ns C m)/\H' C=none/\C∉gQ X.stack/\E cls bb H'}
section
variable{E:XK}{X:Cx}{N:List Str}{scope:Scope}{C:Addr}{fp:List Addr}{s:Shared}{H:Hp}
theorem uS:lH (nS E X N scope C fp s H) E:=by
 intro pins σ H3 s3 ch e cls a0 fl B H' bb s' I hch os bare F q
 obtain⟨m,hn,_⟩:=id I.loc
 have nC:C∉gQ X.stack:=fun z=>by
  obtain⟨_,o,ho,_⟩:=I.ok.iR.mem z
  exact absurd (Nat.lt_of_lt_of_le (Heap.lt_size ho) I.ok.above) (Nat.lt_irrefl _)
 have nch:C∉ch:=fun z=>(hch C z).2 rfl
 obtain⟨o,es,ep,ho,r⟩:=hn
 have hC':=F.un.keep C o ho I.free nC nch
 exact⟨e,cls,a0,fl,B,H',bb,rfl,os.trans I.os,bare,g0.out I (fun b hb=>(hch b hb).1) F,⟨m,o,es,ep,hC',r⟩,F.un.free C o ho I.free nch,nC,q⟩
theorem K0(t:BP X):BP (nS E X N scope C fp s H):=by
 obtain⟨pG,outer0,L,h1,h2,h3⟩:=t
 exact⟨pG,outer0,L,h1,h2,h3⟩
theorem MM{pins:List (Addr×Obj)}{σ:St}{H1:Hp}{s1:Shared}(I:Inv (pY X N scope C fp s H) pins σ H1 s1):Inv (nS E X N scope C fp s H) pins σ H1 s1:=
 ⟨⟨I.ok.mod,I.ok.kind,I.ok.glob,I.ok.blt,I.ok.above,I.ok.inj,I.ok.has,I.ok.DF,I.ok.hd,I.ok.frames,I.ok.Cd,I.ok.HF,I.ok.bs,I.ok.Ai,I.ok.qg,I.ok.sW,I.ok.iR,I.ok.p9⟩,I.os,I.bare,I.base,I.loc,I.cell,I.free,I.fO,I.pin,I.aY,I.len⟩
theorem MX{pins:List (Addr×Obj)}{σ:St}{H1:Hp}{s1:Shared}(I:Inv (nS E X N scope C fp s H) pins σ H1 s1):Inv (pY X N scope C fp s H) pins σ H1 s1:=
 ⟨⟨I.ok.mod,I.ok.kind,I.ok.glob,I.ok.blt,I.ok.above,I.ok.inj,I.ok.has,I.ok.DF,I.ok.hd,I.ok.frames,I.ok.Cd,I.ok.HF,I.ok.bs,I.ok.Ai,I.ok.qg,I.ok.sW,I.ok.iR,I.ok.p9⟩,I.os,I.bare,I.base,I.loc,I.cell,I.free,I.fO,I.pin,I.aY,I.len⟩
end
section
variable{prog:Program}{w:World}{A:Around}{R:Result->Shared->Prop}{s:Shared}
theorem sj{elt target iter:Expr}{ifs:List Expr}{scope:Scope}{pos:Pos}{it acc:Value}{env:Env}(EE:Value->Shared->Prop)(hE:∀x s',EE x s'->notedBy (model prog w) A env (fun e s'=>R (.error e) s') x s')(I:Nat->Shared->Prop)
  (turn:∀n s,I n s->wpAny (model prog w) A (pyNext it) (fun r s₁=>match r with
   |none=>R (.ok .next) s₁
   |some v=>wpAny (model prog w) A (letOwnedTupleGo target it v) (fun _ s₁=>wpAny (model prog w) A (assign target env v) (fun _ s₂=>
     wpAny (model prog w) A (forIn ifs true fun c r=>if r=true then do let ok←isTrue c env (eval c env);pure (ForInStep.yield ok)else pure (ForInStep.yield r)) (fun ok s₃=>
      if ok=true then wpAny (model prog w) A (eval elt env) (fun x s₄=>
       wpAny (model prog w) A (call (.builtin "list.append") [acc,x]) (fun _ s₅=>∃m,m<n/\I m s₅) EE s₄) EE s₃
      else∃m,m<n/\I m s₃) EE s₂) EE s₁) EE s₁) EE s)
  (n:Nat) (h:I n s):
  codeAny (model prog w) A (.compLoop (.ListComp elt [⟨target,iter,ifs,0⟩] scope pos) 0 it acc env) R s:=by
 refine codeAny_loop rfl I (fun n s hI=>?_) n h
 show wpAny _ A ((compTurn (.ListComp elt [⟨target,iter,ifs,0⟩] scope pos) 0 it acc env).onRaise (fun x=>do noteFrame x env;theTreesLotGoes x)) _ _ s
 refine wpAny_noted ?_
 rw[compTurn_list]
 refine wpAny_bind (wpAny_standAt (wpAny_bind (wpAny_mono (turn n s hI) (fun r s₁ h₁=>?_) fun x s' h'=>hE x s' h')))
 cases r with
 |none=>exact wpAny_pure h₁
 |some v=>
  refine wpAny_bind (wpAny_mono h₁ (fun _ s₁ h₁=>?_) fun x s' h'=>hE x s' h')
  refine wpAny_bind (wpAny_mono h₁ (fun _ s₂ h₂=>wpAny_bind (wpAny_mono h₂ (fun ok s₃ h₃=>?_) fun x s' h'=>hE x s' h')) fun x s' h'=>hE x s' h')
  cases ok with
  |false=>exact wpAny_pure ⟨rfl,h₃⟩
  |true=>
   refine wpAny_bind (wpAny_bind (wpAny_mono h₃ (fun x s₄ h₄=>wpAny_bind (wpAny_mono h₄ (fun _ s₅ h₅=>?_) fun x s' h'=>hE x s' h')) fun x s' h'=>hE x s' h'))
   exact wpAny_pure (wpAny_pure ⟨rfl,h₅⟩)
end
section
variable{X:Cx}{scope:Scope}{N:List Str}{ix:List (Option Nat)}{elt tg iter:Expr}{ifs:List Expr}{g:TG}{tc:TT}{te:TE}{pos:Pos}
theorem o8{pins:List (Addr×Obj)}{σ:St}{s2:Shared}{Q:VK}{itv:Value}{RR:Value->Addr->Result->Shared->Prop}{E:Value->Shared->Prop}(c:eZ X scope N ix)(hc:X.calm=true){EX:XK}
  (hg:∀C fp s H,PG (nS EX X N scope C fp s H) tg g) (ht:∀C fp s H,Hh (nS EX X N scope C fp s H) ifs tc) (he:∀C fp s H,PE (nS EX X N scope C fp s H) elt te)
  (h2:Mi X pins σ tg (hW ix g tc te σ Q) itv s2)
  (hX:∀(D C:Addr)(fp:List Addr)(H2:Hp)(x:Value)(s':Shared),Inv X pins σ H2 s2->(∀b∈fp,j4 X pins H2 b)->s2.heap.objs.size<=C->(nS EX X N scope C fp s2 H2).xe x s'->notedBy (model X.prog X.w) X.A (nS EX X N scope C fp s2 H2).env (fun e s'=>RR (.ref D) C (.error e) s') x s')
  (hR:∀(D C:Addr)(s':Shared)(H':Hp)(m:Str->Option Value),Inv X pins σ H' s'->s'.heap.Ns C m->H' C=none->X.s₀.heap.objs.size<=C->(∀p∈X.pn++pins,p.1≠C)->C≠X.env.locals->(∀x c,X.env.cells.lookup x=some c->c≠C)->Q (.ref D) H'->RR (.ref D) C (.ok .next) s'):
  wpAny (model X.prog X.w) X.A (newList []) (fun acc s₃=>wpAny (model X.prog X.w) X.A (newFunctionEnv scope X.env.globals (dR X.env.cells scope.names []) [] X.env.qual none .none (some X.env)) (fun cenv s₄=>
   codeAny (model X.prog X.w) X.A (.compStart (.ListComp elt [⟨tg,iter,ifs,0⟩] scope pos) 0 itv acc {cenv with scope:=relabel scope X.env}) (RR acc cenv.locals) s₄) E s₃) E s2:=by
 obtain⟨it,fp,tn,J,H2,rfl,I2,T,st2,f2,W,⟨m0,w0⟩,turn⟩:=h2
 refine wpAny_newObj_type (wpAny_newFunctionEnv c.uP (by intro y hy;simp at hy) (fun h₁ hns₁ hsb₁=>?_) c.kind)
 dsimp only at hns₁ hsb₁⊢
 generalize hH2:s2.heap.push {cls:= .type "list",dict:=none,data:= .seq ([]:List Value).toArray}=G2 at hns₁ hsb₁⊢
 have hCs:G2.objs.size=s2.heap.objs.size+1:=by rw[←hH2,Heap.size_push]
 generalize hCe:G2.objs.size=C at hns₁ hsb₁ hCs⊢
 generalize hDe:s2.heap.objs.size=D at hCs⊢
 have ltC:∀b,@LT.lt Nat _ b D->b≠C:=fun b hb=>Nat.ne_of_lt (by rw[hCs];exact Nat.lt_succ_of_lt hb)
 have ltS:∀b o,s2.heap.get? b=some o->@LT.lt Nat _ b D:=fun b o e=>by rw[←hDe];exact Heap.lt_size e
 have hDC:D≠C:=Nat.ne_of_lt (by rw[hCs];exact Nat.lt_succ_self _)
 have old:∀b o,s2.heap.get? b=some o->h₁.get? b=some o:=fun b o e=>hsb₁.extBut b o (ltC b (ltS b o e)) (Heap.get?_push_of_some _ (hH2▸Heap.get?_push_of_some _ e))
 have hoD:h₁.get? D=some {cls:= .type "list",dict:=none,data:= .seq ([]:List Value).toArray}:=by
  refine hsb₁.extBut _ _ hDC (Heap.get?_push_of_some _ ?_)
  rw[←hH2,←hDe]
  exact Heap.get?_push_size _ rfl
 have I4:Inv (nS EX X N scope C fp s2 H2) (pins++[(D,{cls:= .type "list",data:= .seq ([]:List Value).toArray})]) (dC ix σ) H2 {s2 with heap:=h₁,toks:=s2.toks+([]:List (Str×Value)).length}:=
  MM<|c.enter I2 f2 (T.obj _ _ st2) (by rw[hCs,hDe]) hDe.symm old hns₁ hoD fun v z=>by cases z
 have st4:tn 0 h₁:=T.keep _ _ _ st2 fun b _ o e=>old b o e
 have pinD:∀p∈X.pn++pins,p.1≠D:=fun p hp=>Nat.ne_of_lt (ltS _ _ (I2.pin p hp).1)
 have pinC:∀p∈X.pn++pins,p.1≠C:=fun p hp=>ltC _ (ltS _ _ (I2.pin p hp).1)
 have celD:∀x d,X.env.cells.lookup x=some d->@LT.lt Nat _ d D:=fun x d e=>by
  obtain⟨v,o,ho,_⟩:=I2.cell x d e
  exact ltS d o ho
 have fpD:∀b∈fp,@LT.lt Nat _ b D:=fun b hb=>by
  obtain⟨o,e,_⟩:=T.obj _ _ st2 b hb
  exact ltS b o e
 have sub:∀x d,(dR X.env.cells scope.names []).lookup x=some d->X.env.cells.lookup x=some d:=fun x d e=>by
  rcases cS e with z|z
  .simp at z
  .exact z
 have stat:∀{H':Hp}{oD:Obj},(∀b∈fp,H' b=none)->∀b∈fp,j4 (nS EX X N scope C fp s2 H2) (pins++[(D,oD)]) H' b:=fun{H' oD} hn b hb=>by
  obtain⟨f0,f1,f2,f3,f4,f5⟩:=f2 b hb
  refine⟨hn b hb,ltC b (fpD b hb),fun z=>?_,.inl hb,fun x d e=>f4 x d (sub x d e),fun p hp=>?_⟩
  .rcases List.mem_cons.mp (I2.kf b z)with e|e
   .exact f1 e
   .exact f2 e
  .have hp:p∈X.pn++(pins++[(D,oD)]):=hp
   rw[←List.append_assoc]at hp
   rcases List.mem_append.mp hp with z|z
   .exact f5 p z
   .have e:p=(D,oD):=by simpa using z
    subst e
    exact Nat.ne_of_gt (fpD b hb)
 have loop:∀s3:Shared,s3={s2 with heap:=h₁,toks:=s2.toks+([]:List (Str×Value)).length}->
   codeAny (model X.prog X.w) X.A (.compLoop (.ListComp elt [⟨tg,iter,ifs,0⟩] scope pos) 0 (.ref it) (.ref D) (nS EX X N scope C fp s2 H2).env) (RR (.ref D) C) s3:=by
  rintro s3 rfl
  refine sj (nS EX X N scope C fp s2 H2).xe (fun x s' h'=>hX D C fp H2 x s' I2 f2 (by rw[hDe,hCs];exact Nat.le_succ _) h') (fun n s'=>∃i σ' H' ys its k,Inv (nS EX X N scope C fp s2 H2) (pins++[(D,{cls:= .type "list",data:= .seq (List.toArray its) k})]) σ' H' s'/\tn i s'.heap/\(∀b∈fp,H' b=none)/\Vals ys its/\W i n ys σ' H') ?_ m0
   ⟨0,_,H2,[],[],_,I4,st4,fun b hb=>(f2 b hb).1,.nil,w0⟩
  rintro n s3 ⟨i,σ3,H3,ys,its,k,I3,st3,fr3,rv,w3⟩
  rcases turn i n ys σ3 H3 w3 with⟨stop,hz,qn⟩|⟨go,hz,step⟩
  .refine aW (T.done (nS EX X N scope C fp s2 H2) rfl rfl rfl hc i _ s3 σ3 H3 _ I3 (stat fr3) st3 stop) fun r s4 ⟨hr,I4⟩=>?_
   subst hr
   have hDn:H3 D=none:=(I3.pin (D,_) (List.mem_append_right _ (List.mem_append_right _ List.mem_cons_self))).2.1
   obtain⟨m4,hn4,_⟩:=id I4.loc
   refine hR D C s4 _ m4 (c.leave I2 f2 (by rw[hCs,hDe]) hDe.symm (MX I4) rv hz) hn4 ?_ ?_ pinC ?_ (fun x d e=>ltC d (celD x d e)) (qn D hDn)
   .rw[ao hDC.symm];exact I4.free
   .refine Nat.le_trans I2.sz ?_
    rw[hDe,hCs];exact Nat.le_succ _
   .refine Nat.ne_of_gt (Nat.lt_of_lt_of_le I2.lt ?_)
    rw[hDe,hCs];exact Nat.le_succ _
  .refine aW (T.item (nS EX X N scope C fp s2 H2) rfl rfl rfl hc i _ s3 σ3 H3 _ I3 (stat fr3) st3 go) fun r s4 ⟨u,hr,h4⟩=>?_
   subst hr
   refine aW h4 fun _ s5 ⟨x,H5,I5,r5,y5,st5,fr5⟩=>?_
   have I5':=I5.pinned (stat fr5) (T.obj _ _ st5)
   refine aW (hg C fp s2 H2 _ s5 σ3 H5 x u _ I5' r5 (step x H5 y5)) fun _ s6 ⟨σ6,H6,I6,q6⟩=>?_
   refine aW (ht C fp s2 H2 _ s6 σ6 H6 _ I6 q6) fun ok s7 ⟨H7,I7,q7⟩=>?_
   have keep:∀{s':Shared}{σ':St}{H':Hp},Inv (nS EX X N scope C fp s2 H2) ((pins++[(D,{cls:= .type "list",data:= .seq its.toArray k})])++oq fp s5.heap) σ' H' s'->tn (i+1) s'.heap/\∀b∈fp,H' b=none:=fun{s' σ' H'} I'=>by
    refine⟨T.keep _ _ _ st5 fun b hb o e=>(I'.pin (b,o) (List.mem_append_right _ (List.mem_append_right _ (fc hb e)))).1,fun b hb=>?_⟩
    obtain⟨o,e,d⟩:=T.obj _ _ st5 b hb
    exact(I'.pin (b,o) (List.mem_append_right _ (List.mem_append_right _ (fc hb e)))).2.1
   cases ok with
   |false=>
    rw[if_neg Bool.false_ne_true]
    rw[if_neg Bool.false_ne_true]at q7
    obtain⟨m',hm,w7⟩:=q7
    obtain⟨k1,k2⟩:=keep I7
    exact⟨m',hm,i+1,σ6,H7,ys,its,k,I7.eC,k1,k2,rv,w7⟩
   |true=>
    rw[if_pos rfl]
    rw[if_pos rfl]at q7
    refine aW (he C fp s2 H2 _ s7 σ6 H7 _ I7 q7) fun y s8 ⟨v,H8,I8,r8,m',hm,w8⟩=>?_
    obtain⟨k1,k2⟩:=keep I8
    have pD:=I8.pin (D,_) (List.mem_append_right _ (List.mem_append_left _ (List.mem_append_right _ List.mem_cons_self)))
    have I8u:=I8.eC
    have I8v:Inv (nS EX X N scope C fp s2 H2) pins σ6 H8 s8:=I8u.eC
    have len:=rv.length
    refine wpAny_list_append_plain (items:=its.toArray) (hsz:=by simp;lia) ⟨k,pD.1⟩ fun h9 hl9 hs9=>?_
    obtain⟨k9,e9⟩:=hl9
    have I9:Inv (nS EX X N scope C fp s2 H2) pins σ6 H8 {s8 with heap:=h9}:=by
     refine I8v.turned (t':=s8.toks) (it:=D) (fun b o hb e=>hs9.extBut b o hb e) pD.2.1 hDC (.inr ?_) (fun x d e=>Nat.ne_of_lt (celD x d (sub x d e))) fun p hp=>?_
     .show s2.heap.objs.size<=D
      rw[hDe];exact Nat.le_refl _
     .exact pinD p hp
    have e9':h9.get? D=some {cls:= .type "list",data:= .seq (its++[y]).toArray k9}:=by
     rw[e9];simp
    refine⟨m',hm,i+1,σ6,H8,ys++[v],its++[y],k9,I9.pP fun p hp=>?_,T.keep _ _ _ k1 fun b hb o e=>hs9.extBut b o (Nat.ne_of_lt (fpD b hb)) e,k2,rv.append (.cons r8 .nil),w8⟩
    rcases List.mem_append.mp hp with z|z
    .exact I9.pin p (List.mem_append_right _ z)
    .have e:p=(D,{cls:= .type "list",data:= .seq (its++[y]).toArray k9}):=by simpa using z
     subst e
     exact⟨e9',pD.2.1,pD.2.2.1,pD.2.2.2.1,fun v z=>by cases z⟩
 exact codeAny_compStart_list (loop _ rfl) (T.self _ 0 _ _ _ st4 (loop _ rfl))
theorem y9{e:Value}{env env':Env}(h:env'.frame=env.frame):noteFrame e env'=noteFrame e env:=by
 unfold noteFrame PySem.frameOf
 rw[h]
theorem vT{pins:List (Addr×Obj)}{σ:St}{s2:Shared}{EX:XK}{use:Option (Value->Sem Unit)}{QQ:Value->Shared->Prop}(tp:BP X)(pc:lH X EX)(D C:Addr)(fp:List Addr)(H2:Hp)(x:Value)(s':Shared)(I2:Inv X pins σ H2 s2)(f2:∀b∈fp,j4 X pins H2 b)(hC:s2.heap.objs.size<=C)
  (h:(nS EX X N scope C fp s2 H2).xe x s'):notedBy (model X.prog X.w) X.A (nS EX X N scope C fp s2 H2).env (fun e s'=>compPost (model X.prog X.w) X.A X.xe use QQ (.ref D) C (.error e) s') x s':=by
 obtain⟨pG,outer0,L,h1,h2,h3⟩:=tp
 obtain⟨e,cls,a0,fl,B,H',bb,rfl,os,bare,F,⟨m,hn⟩,hH,nC,q⟩:=h
 unfold notedBy
 rw[y9 (env:=pG) (env':=(nS EX X N scope C fp s2 H2).env) (show X.env.frame=pG.frame from h3.trans h2.symm)]
 have fr:=I2.ok.frames
 rw[h1]at fr
 have F':=F
 rw[h1]at F'
 refine xB fr h2 F' fun h' fl' F1 sm=>?_
 have hn':=sm.ns hn
 refine⟨m,hn',fun h3 hs cenv hcl=>?_⟩
 obtain⟨o,es,ep,ho,hd,_⟩:=hn'
 rw[←h1]at F1
 have F3:=F1.but hs hC hH nC ⟨o,ho,fun vs z=>by rw[hd]at z;cases z⟩
 refine Cg (s:={s' with heap:=h3}) F3 fun h4 fl4 F4=>?_
 exact pc pins σ H2 s2 fp e cls a0 fl4 _ H' bb {s' with heap:=h4} I2 (fun b hb=>⟨(f2 b hb).2.2.2.1,(f2 b hb).2.1⟩) os bare F4 q
variable{wi:TI}
theorem Ds{EX:XK}(tp:BP X)(pc:lH X EX)(c:eZ X scope N ix)(hc:X.calm=true)(hi:PI X tg iter wi)(hg:∀C fp s H,PG (nS EX X N scope C fp s H) tg g)(ht:∀C fp s H,Hh (nS EX X N scope C fp s H) ifs tc)(he:∀C fp s H,PE (nS EX X N scope C fp s H) elt te)
  (hs:∀x,foldedSetIterable iter X.env x=pure x:=by intro _;rfl):PE X (.ListComp elt [⟨tg,iter,ifs,0⟩] scope pos) (Aw ix wi g tc te):=by
 intro pins s σ H Q I h
 rw[eval_ListComp]
 have hcl:∀y∈scope.names,y.2=NameKind.free->∃d,X.env.cells.lookup y.1=some d:=fun y hy e=>I.ok.has _ (c.fr y hy e)
 refine wpAny_comprehension_free (use:=none) rfl hs (fI hcl) c.kind c.names (aW (hi pins s σ H _ I h) fun v s1 h1=>aW h1 fun itv s2 h2=>?_)
 refine o8 (RR:=fun acc C=>compPost (model X.prog X.w) X.A X.xe none (EP X pins σ Q) acc C) c hc hg ht he h2 (fun D C fp H2 x s' I2 f2 hC h'=>vT tp pc D C fp H2 x s' I2 f2 hC h') ?_
 intro D C s' H' m I' hn hC hz hp hL hcells q
 exact⟨m,hn,fun h' hs'=>⟨.ref D,H',I'.turned (t':=s'.toks) (fun b o hb e=>hs'.extBut b o hb e) hC hL (.inr hz) hcells hp,rfl,q⟩⟩
theorem rq{EX:XK}{i:Nat}{x:Str}{px spos:Pos}(tp:BP X)(pc:lH X EX)(hN:X.N.Nodup)(hx0:X.N[i]?=some x)(hx:X.env.scope.names.lookup x=some .local)(c:eZ X scope N ix)(hc:X.calm=true)(hi:PI X tg iter wi)(hg:∀C fp s H,PG (nS EX X N scope C fp s H) tg g)(ht:∀C fp s H,Hh (nS EX X N scope C fp s H) ifs tc)(he:∀C fp s H,PE (nS EX X N scope C fp s H) elt te)
  (hsw:swapsWith (.ListComp elt [⟨tg,iter,ifs,0⟩] scope pos) (some (.Name x px)) spos.line X.env=pure true:=by rfl)
  (hs:∀x,foldedSetIterable iter X.env x=pure x:=by intro _;rfl):PS X (.Assign [.Name x px] (.ListComp elt [⟨tg,iter,ifs,0⟩] scope pos) spos) (yt (Aw ix wi g tc te) (cF i)):=by
 intro pins s σ H D0 I h
 rw[exec_Assign_Name_used _ _ _ _ hsw]
 refine wpAny_bind (wpAny_standAt (wpAny_bind ?_))
 show wpAny _ _ (do let _←comprehension (.ListComp elt [⟨tg,iter,ifs,0⟩] scope pos) scope X.env _ (newList []) false (eval iter X.env) (some (assign (.Name x px) X.env))) _ _ s
 have hcl:∀y∈scope.names,y.2=NameKind.free->∃d,X.env.cells.lookup y.1=some d:=fun y hy e=>I.ok.has _ (c.fr y hy e)
 refine wpAny_bind (wpAny_mono (wpAny_comprehension_free (use:=some (assign (.Name x px) X.env)) (Q:=fun _ s'=>SP X pins D0 .next s') rfl hs (fI hcl) c.kind c.names
  (aW (hi pins s σ H _ I h) fun v s1 h1=>aW h1 fun itv s2 h2=>?_)) (fun _ s' hq=>wpAny_pure (wpAny_pure hq)) fun _ _ e=>e)
 refine o8 (RR:=fun acc C=>compPost (model X.prog X.w) X.A X.xe (some (assign (.Name x px) X.env)) (fun _ s'=>SP X pins D0 .next s') acc C) c hc hg ht he h2 (fun D C fp H2 x s' I2 f2 hC h'=>vT tp pc D C fp H2 x s' I2 f2 hC h') ?_
 intro D C s' H' m I' hn hC hz hp hL hcells q
 show wpAny _ _ (assign (.Name x px) X.env (.ref D)) _ _ _
 refine wpAny_assign_Name (n4 (v:= .ref D) I' hN hx0 (.inl hx) rfl (fun s'' I'' hsb=>?_) (.inr hx))
 obtain⟨a,sb,ha⟩:=hsb
 have haC:a≠C:=by
  rcases ha with e|e
  .rw[e];exact hL.symm
  .exact hcells x a e
 refine⟨m,hn.sameBut sb haC.symm,fun h' hs'=>⟨_,H',I''.turned (t':=s''.toks) (fun b o hb e=>hs'.extBut b o hb e) hC hL (.inr hz) hcells hp,q⟩⟩
end
end L2
namespace Sw
open PySem L2
def MA:PyData->Bool
 | .str _=>true
 |_=>false
theorem C4(K:W.Frag){H:Hp}{P:Addr->Prop}{v:V}{d:PyData}(h:DT H P v d):W.kitOne K (.type (Kr d)) (.type "str")=some (MA d):=by
 cases h with
 |cP=>exact aN K (show dD "NoneType" "str" =some false by decide+kernel)
 |bl b=>exact aN K (show dD "bool" "str" =some false by decide+kernel)
 |int i=>exact aN K (show dD "int" "str" =some false by decide+kernel)
 |str x=>exact aN K (show dD "str" "str" =some true by decide+kernel)
 |lst h p r=>exact aN K (show dD "list" "str" =some false by decide+kernel)
 |tup h p r=>exact aN K (show dD "tuple" "str" =some false by decide+kernel)
def Cr(C:Addr):Sp:=fun vs H Q E=>∃(x:Str),vs=[.str x]/\x.length<=100000/\¬vN x/\E (.ref C) none H
def Cv(C:Addr):Sp:=fun vs H Q E=>∃(v:V)(P:Addr->Prop)(d:PyData),vs=[v]/\DT H P v d/\(∀x,d≠.str x)/\E (.ref C) none H
structure DA(mg:Str->Option Value)(K:W.Frag)(u:Value)(C:Addr):Prop extends KN mg K u where
 bf:mg "NoText" =some (.ref C)
 bO:iH K C
section
variable{P:Program}{w:World}{K:W.Frag}{mg:Str->Option Value}{base:Heap}{u:Value}{C:Addr}
theorem Gs{f:Addr}{fd:FuncData}(F:dh K "read_number" "read_number" (top 81) f fd)(T:DA mg K u C):aR P w K mg base (jG P w) 1 f fd ["word"] (Cr C):=by
 refine F.Be jO (fun vs H Q E h=>?_) (fun cdv A outer s H vs Q E hr h=>?_)
 .obtain⟨i,rfl,_⟩:=h
  rfl
 .obtain⟨x,rfl,xl,nn,k⟩:=h
  refine⟨_,(ah (bt (PW.pt (lL (dz (cC (pT (K:=K) rfl PySem.F.plainAttrs_str PySem.F.slot_str_isascii PySem.F.type_str_isascii qw (pv 0)))) (lL (dz (cC (pT (K:=K) rfl PySem.F.plainAttrs_str PySem.F.slot_str_isdigit PySem.F.type_str_isdigit qy (pv 0)))) (j9 (aI qB (aq jg rfl T.bV (by decide+kernel) (aa (pv 0) af)) (cT rfl T.gO T.gI) (aL _)))))) (ai (cJ pH T.bO rfl rfl T.bf (aa aw af))) aE)
   (ah (bt (PW.pt (y2 (aI lG (pv 0) aw (aL _)) (uo (cC (br (K:=K) rfl PySem.F.plainAttrs_str PySem.F.slot_str_startswith PySem.F.type_str_startswith tH (pv 0) (aa aw af)))))) (ai (cJ pH T.bO rfl rfl T.bf (aa aw af))) aE)
   (ai (aA (aO lI rfl T.qL (by decide+kernel) (aa (pv 0) af)))))),?_⟩
  have big:(10000000:Nat)<=sizeLine:=by decide
  have no:(1:Nat)<=sizeLine/\E (.ref C) none H:=⟨by lia,k⟩
  refine⟨_,rfl,rfl,_,rfl,rfl,_,rfl,dQ (fun c=>no) (fun c1=>?_)⟩
  refine⟨_,rfl,rfl,_,rfl,rfl,_,rfl,dQ (fun c=>no) (fun c2=>?_)⟩
  refine⟨_,rfl,_,rfl,by lia,_,_,rfl,rfl,_,rfl,dQ (fun c=>no) (fun c3=>?_)⟩
  have c1:Txt.isascii x=true:=by simpa using c1
  have c2:Txt.isdigit x=true:=by simpa using c2
  have c3:x.length<=9:=by
   have:¬(x.length:Int)>9:=by simpa using c3
   lia
  refine⟨_,rfl,rfl,_,rfl,?_⟩
  refine dQ (fun _=>?_) (fun c4=>?_)
  .refine⟨_,rfl,rfl,_,_,rfl,rfl,_,rfl,dQ (fun c=>no) (fun c5=>?_)⟩
   exact absurd (Cw c1 c2 c3 (.inr (by simpa using c5))) nn
  .refine absurd (Cw c1 c2 c3 (.inl ?_)) nn
   simpa using c4
theorem GG{f:Addr}{fd:FuncData}(F:dh K "check_text" "check_text" (top 80) f fd)(T:DA mg K u C):aR P w K mg base (jG P w) 1 f fd ["thing"] (Cv C):=by
 refine F.Be lM (fun vs H Q E h=>?_) (fun cdv A outer s H vs Q E hr h=>?_)
 .obtain⟨v,_,d,rfl,_⟩:=h
  rfl
 .obtain⟨v,P',d,rfl,hd,ns,k⟩:=h
  refine⟨_,(ai (bt (dz (cC (aq (gF (K:=K) rfl) rfl T.aG (by decide+kernel) (aa (pv 0) (aa (i4 (v:= .ty "str") rfl T.cI (by decide+kernel) rfl) af))))) (ai (cJ pH T.bO rfl rfl T.bf (aa aw af))) aE)),?_⟩
  refine⟨_,rfl,_,_,"str",_,rfl,hd.ty,C4 K hd,_,rfl,?_⟩
  have no:(1:Nat)<=sizeLine/\E (.ref C) none H:=⟨by decide,k⟩
  cases hd with
  |str x=>exact absurd rfl (ns x)
  |_=>exact sk no
def yC(C:Addr):Sp:=fun vs H Q E=>zc vs H Q E\/Cr C vs H Q E
def CV(C:Addr):Sp:=fun vs H Q E=>yi vs H Q E\/Cv C vs H Q E
theorem Ax{f:Addr}{fd:FuncData}(F:dh K "read_number" "read_number" (top 81) f fd)(T:DA mg K u C):aR P w K mg base (jG P w) 1 f fd ["word"] (yC C):=(Ew F T.toKN).lift.or (Gs F T)
theorem Fn{f:Addr}{fd:FuncData}(F:dh K "check_text" "check_text" (top 80) f fd)(T:DA mg K u C):aR P w K mg base (jG P w) 1 f fd ["thing"] (CV C):=(Ad F T.toKN).lift.or (GG F T)
def qr(n:Int)(d:PyData)(row:List (Int×Int)):Prop:=d= .str (lA row)/\Good n row/\row.length<=60
def q9(C:Addr):Sp:=fun vs H Q E=>∃(n:Int)(v:V)(P:Addr->Prop)(d:PyData),vs=[.int n,v]/\DT H P v d/\(∀x,d= .str x->x.length<=990)/\(∀row,¬qr n d row)/\∀H',ag H H'->E (.ref C) none H'
structure Lb(P:Program)(w:World)(K:W.Frag)(mg:Str->Option Value)(base:Heap)(C:Addr):Prop extends T1 mg K where
 eE:iE P w K mg base "check_text" 1 ["thing"] (CV C)
 bS:iE P w K mg base "read_number" 1 ["word"] (yC C)
 ke:FnAt P w K mg base "is_row" 6 ["n","thing"] pN
 bf:mg "NoText" =some (.ref C)
 bO:iH K C
theorem Ay{n:Int}:∀{Ls:List (List Int)},(Ls.map fun L=>PyData.tuple (L.map .int)).all (sh n)=true->∃row:List (Int×Int),Ls=row.map (fun e=>[e.1,e.2])/\Good n row
 |[],_=>⟨[],rfl,fun e h=>absurd h List.not_mem_nil⟩
 |L::Ls,h=>by
  rw[N4,List.all_cons,Bool.and_eq_true]at h
  obtain⟨row,e,g⟩:=Ay h.2
  have h1:=h.1
  match L,h1 with
  |[a,b],h1=>
   have h1:((decide (1<=a/\a<=n)&&decide (1<=b/\b<=n))&&decide (a<b))=true:=h1
   simp only[Bool.and_eq_true,decide_eq_true_eq]at h1
   refine⟨(a,b)::row,by rw[e];rfl,fun e he=>?_⟩
   rcases List.mem_cons.mp he with rfl|he
   .dsimp only;lia
   .exact g e he
theorem words_of{ws:List Str}:∀{row:List (Int×Int)},ws.map (fun z=>Txt.split z (NX "-"))=(row.map fun e=>[e.1,e.2]).map (fun L=>L.map aF)->ws=row.map i6:=by
 induction ws with
 |nil=>intro row h;cases row with
  |nil=>rfl
  |cons _ _=>cases h
 |cons z ws ih=>intro row h;cases row with
  |nil=>cases h
  |cons e row=>
   rw[N4,N4,N4]at h
   injection h with h1 h2
   rw[N4,ih h2,xF (a:=e.1) (b:=e.2) h1]
theorem w9{f:Addr}{fd:FuncData}(F:dh K "read_row" "read_row" (top 85) f fd)(T:Lb P w K mg base C):aR P w K mg base (jG P w) 7 f fd ["n","text"] (q9 C):=by
 refine F.Be ie (fun vs H Q E h=>?_) (fun cdv A outer s H vs Q E hr h=>?_)
 .obtain⟨n,v,_,d,rfl,_⟩:=h
  rfl
 .obtain⟨n,v,P',d,rfl,hd,hlen,nr,k⟩:=h
  refine⟨_,(ah (cB (dN T.eE j7 (hr.mono (by decide)) rfl (aa (pv 1) af)))
   (ah (bt (aI cG (pv 1) aw (aL _)) (ai (aA (aZ af))) aE)
   (ah (rq (N:=(["pair"]:List Str)) (ix:=([none]:List (Option Nat))) (i:=2) zU yZ ie.nd rfl rfl (bc rfl rfl) rfl (aT (K:=K) rfl (br (K:=K) rfl PySem.F.plainAttrs_str PySem.F.slot_str_split PySem.F.type_str_split jT (pv 1) (aa aw af))) (fun _ _ _ _=>(ay (i:=0) (show List.Nodup (["pair"]:List Str)from by decide+kernel) rfl (Or.inl rfl))) (fun _ _ _ _=>bg) (fun _ _ _ _=>(aO (cN (K:=K) rfl) rfl T.hJ (by decide+kernel) (aa (Ds (N:=(["word"]:List Str)) (ix:=([none]:List (Option Nat))) (K0 zU) uS (bc rfl rfl) rfl (aT (K:=K) rfl (br (K:=K) rfl PySem.F.plainAttrs_str PySem.F.slot_str_split PySem.F.type_str_split jT (pv 0) (aa aw af))) (fun _ _ _ _=>(ay (i:=0) (show List.Nodup (["word"]:List Str)from by decide+kernel) rfl (Or.inl rfl))) (fun _ _ _ _=>bg) (fun _ _ _ _=>(dN T.bS (lH.passes uS) (hr.mono (by decide)) rfl (aa (pv 0) af)))) af))))
   (ah (bt (dz (cC (au T.ke (hr.mono (by first|decide|lia)) rfl (aa (pv 0) (aa (pv 2) af))))) (ai (cJ pH T.bO rfl rfl T.bf (aa aw af))) aE)
   (ai (aA (pv 2))))))),?_⟩
  have big:(10000000:Nat)<=sizeLine:=by decide
  by_cases hst:∃x,d= .str x
  case neg=>exact⟨_,rfl,.inr ⟨_,_,_,rfl,hd,fun x z=>hst ⟨x,z⟩,k H (ag.refl _)⟩⟩
  obtain⟨x,rfl⟩:=hst
  cases hd
  have xl:=hlen x rfl
  refine⟨_,rfl,.inl ⟨_,rfl,?_⟩⟩
  refine⟨_,rfl,rfl,_,rfl,?_⟩
  refine lW (decide_eq_false (by intro z;injection z with z;exact nr [] ⟨by rw[z];rfl,fun e h=>absurd h List.not_mem_nil,Nat.zero_le _⟩)) ?_
  refine⟨_,rfl,rfl,_,_,rfl,rfl,by decide+kernel,by lia,fun l1 f1=>⟨l1,rfl,⟨_,aC.of ae⟩,?_⟩⟩
  have wl:=split_le x (NX " ")
  have wp:∀z∈Txt.split x (NX " "),z.length<=x.length:=fun z hz=>iq hz
  have fin:∀row,Txt.split x (NX " ")=row.map i6->¬(Good n row/\row.length<=60):=fun row e z=>nr row ⟨by rw[uH e],z.1,z.2⟩
  generalize Txt.split x (NX " ")=ws at wl wp fin⊢
  have s1:ag H (upd H l1 (.lst (ws.map V.str))):=ag.new f1
  have h1:upd H l1 (.lst (ws.map V.str)) l1=some (.lst (ws.map V.str)):=ae
  generalize upd H l1 (.lst (ws.map V.str))=H1 at s1 h1⊢
  have ll:(ws.map V.str).length=ws.length:=by rw[NY]
  refine eF (K:=K) (a:=l1) (xs:=ws.map V.str) (k:=0) (fun i ys σ' H'=>(∃v0,σ'=[v0])/\ag H1 H'/\∃Ls:List (List Int),mf H' (fun _=>True) ys (Ls.map fun L=>PyData.tuple (L.map .int))/\(ws.take i).map (fun z=>Txt.split z (NX "-"))=Ls.map (fun L=>L.map aF)) (by lia) ⟨⟨none,rfl⟩,ag.refl _,[],.nil,rfl⟩ (fun i ys σ' H' _ q=>aC.of (q.2.1 _ _ h1)) (fun i ys σ' H' q=>?_) ?_ ?_
  .obtain⟨_,_,Ls,e1,e2⟩:=q
   have e1:=e1.length
   have e2:=congrArg List.length e2
   rw[NY,NY,N5]at e2
   rw[NY]at e1
   lia
  .rintro i ys σ' H2 z R hx ⟨⟨v0,rfl⟩,s2,Ls,x2,eL⟩ done
   obtain⟨wd,hw,rfl⟩:∃wd,ws[i]?=some wd/\V.str wd=z:=by
    rw[NZ]at hx
    cases e:ws[i]? with
    |none=>rw[e]at hx;cases hx
    |some e'=>rw[e]at hx;exact⟨e',rfl,Option.some.inj hx⟩
   have wdl:=wp wd (N9 hw)
   refine⟨_,rfl,rfl,_,_,rfl,rfl,by decide+kernel,by lia,fun l2 f2=>⟨l2,rfl,⟨_,aC.of ae⟩,?_⟩⟩
   have pl:=split_le wd (NX "-")
   have pp:∀z∈Txt.split wd (NX "-"),z.length<=wd.length:=fun z hz=>iq hz
   have tk:(ws.take (i+1)).map (fun z=>Txt.split z (NX "-"))=(ws.take i).map (fun z=>Txt.split z (NX "-"))++[Txt.split wd (NX "-")]:=by rw[List.take_succ,hw];simp
   generalize Txt.split wd (NX "-")=ps at pl pp tk⊢
   have s3:ag H2 (upd H2 l2 (.lst (ps.map V.str))):=ag.new f2
   have h3:upd H2 l2 (.lst (ps.map V.str)) l2=some (.lst (ps.map V.str)):=ae
   generalize upd H2 l2 (.lst (ps.map V.str))=H3 at s3 h3⊢
   refine eF (K:=K) (a:=l2) (xs:=ps.map V.str) (k:=0) (fun j ys' σ'' H'=>(∃v0,σ''=[v0])/\H'=H3/\∃L:List Int,ys'=L.map V.int/\ps.take j=L.map aF) (by rw[NY];lia) ⟨⟨none,rfl⟩,rfl,[],rfl,rfl⟩ (fun j ys' σ'' H' _ q=>by rw[q.2.1];exact aC.of h3) (fun j ys' σ'' H' q=>?_) ?_ ?_
   .obtain⟨_,_,L,e1,e2⟩:=q
    have e2:=congrArg List.length e2
    rw[NY,N5]at e2
    rw[e1,NY]
    lia
   .rintro j ys' σ'' H' x' R' hx' ⟨⟨v0,rfl⟩,rfl,L,rfl,eP⟩ done'
    obtain⟨p,hp,rfl⟩:∃p,ps[j]?=some p/\V.str p=x':=by
     rw[NZ]at hx'
     cases e:ps[j]? with
     |none=>rw[e]at hx';cases hx'
     |some e'=>rw[e]at hx';exact⟨e',rfl,Option.some.inj hx'⟩
    by_cases hn:vN p
    .obtain⟨a,rfl,a0,a9⟩:=hn
     refine⟨_,rfl,.inl ⟨a,rfl,a0,a9,done' _ _ _ ⟨⟨_,rfl⟩,rfl,L++[a],by rw[N2];rfl,?_⟩⟩⟩
     rw[List.take_succ,hp,eP,N2]
     rfl
    .have:=pp p (N9 hp)
     exact⟨_,rfl,.inr ⟨p,rfl,by lia,hn,k _ (s1.trans (s2.trans s3))⟩⟩
   .rintro ys' σ'' H' q ⟨⟨v0,rfl⟩,e0,L,rfl,eP⟩ fq
    have e0:=e0.symm
    subst e0
    rw[List.take_of_length_le (by rw[NY];exact Nat.le_refl _)]at eP
    refine⟨q,_,rfl,.inl ⟨aC.of ae,fun t ft=>?_⟩⟩
    have s4:ag H3 (upd H3 q (.lst (L.map V.int))):=ag.new fq
    have s5:ag (upd H3 q (.lst (L.map V.int))) (upd (upd H3 q (.lst (L.map V.int))) t (.tup (L.map V.int))):=ag.new ft
    have s6:=s3.trans (s4.trans s5)
    refine done _ _ _ ⟨⟨_,rfl⟩,s2.trans s6,Ls++[L],?_,?_⟩
    .rw[N2]
     exact(x2.keep fun a o _ q=>s6 a o q).snoc (.tup ae trivial (mf.ints L))
    .rw[tk,eL,eP,N2]
     rfl
  .rintro ys σ' H2 q ⟨⟨v0,rfl⟩,s2,Ls,x2,eL⟩ fq
   rw[List.take_of_length_le (by lia)]at eL
   have s3:ag H2 (upd H2 q (.lst ys)):=ag.new fq
   have x3:=x2.keep fun a o _ q=>s3 a o q
   have s13:=s1.trans (s2.trans s3)
   have h3:upd H2 q (.lst ys) q=some (.lst ys):=ae
   generalize upd H2 q (.lst ys)=H3 at s3 x3 s13 h3⊢
   have eLl:=congrArg List.length eL
   rw[NY,NY]at eLl
   refine⟨_,rfl,_,rfl,.ref q,(fun _=>True),.list (Ls.map fun L=>PyData.tuple (L.map .int)),n,rfl,.lst h3 trivial x3,fun ds e=>?_,fun H4 s4=>⟨_,rfl,dQ (fun c=>?_) (fun c=>?_)⟩⟩
   .injection e with e
    rw[←e,NY];lia
   .exact⟨(by show 1<=sizeLine;lia),k _ (s13.trans s4)⟩
   .exfalso
    have c:qF n (.list (Ls.map fun L=>PyData.tuple (L.map .int)))=true:=by simpa using c
    unfold qF at c
    rw[Bool.and_eq_true,NY]at c
    obtain⟨row,rfl,g⟩:=Ay c.2
    refine fin row (words_of eL) ⟨g,?_⟩
    have:=of_decide_eq_true c.1
    rw[NY]at this
    exact this
def yE(C:Addr):Sp:=fun vs H Q E=>ui vs H Q E\/q9 C vs H Q E
end
end Sw
namespace L2
open PySem PySem.Spec PyProof.Rows
section
variable{prog:Program}{w:World}{A:Around}{E:Value->Shared->Prop}{s:Shared}
theorem CW{it t:Addr}{i:Nat}{items:Array Value}{x:Value}{Q:Value->Shared->Prop}(st:s.heap.IsTupleIter it t i)(ht:s.heap.IsTuple t items)(hx:items[i]?=some x)
  (k:∀h',h'.IsTupleIter it t (i+1)->Heap.SameBut it s.heap h'->Q x {s with heap:=h'}):wpAny (model prog w) A (Builtin.SmallTypes.nextOf (.ref it)) Q E s:=by
 obtain⟨o,h1,h2,h3⟩:=id st
 obtain⟨ol,g1,_,n,g2⟩:=ht
 unfold Builtin.SmallTypes.nextOf
 refine wpAny_bind (wpAny_callSpecial?_slot (name:=NX "__next__") st.typeIs F.slot_tuple_iterator_next (wpAny_call_entry F.slot_tuple_iterator_next st.typeIs F.entry_tuple_iterator_next ?_ (F.args_tuple_iterator_next_1 _)))
 show wpAny _ _ (field (.ref it) 0>>=_) _ _ s
 refine wpAny_bind (wpAny_field h1 h3 (x:= .ref t) rfl ?_)
 show wpAny _ _ (if(Value.ref t==Value.none)=true then _ else _) _ _ s
 rw[if_neg (show¬((Value.ref t==Value.none)=true)from Bool.false_ne_true)]
 show wpAny _ _ (field (.ref it) 1>>=_) _ _ s
 refine wpAny_bind (wpAny_field h1 h3 (x:= .int i 0) rfl ?_)
 show wpAny _ _ (seqItems? (.ref t)>>=_) _ _ s
 refine wpAny_bind (wpAny_seqItems g1 g2 ?_)
 simp only[Int.toNat_natCast,hx]
 refine wpAny_bind (wpAny_setField h1 h3 (by simp) (wpAny_pure ⟨x,rfl,wpAny_pure (k _ ?_ (Heap.SameBut.update ..))⟩))
 exact⟨_,Heap.get?_update_self _ h1 (Obj.isFreed_of_fields (Obj.data_mapFields h3 _)),(Obj.cls_mapFields ..).trans h2,by rw[Obj.data_mapFields h3];simp[rawInt]⟩
theorem BQ{it t:Addr}{i:Nat}{items:Array Value}{Q:Value->Shared->Prop}(hh:A.handled=none)(st:s.heap.IsTupleIter it t i)(ht:s.heap.IsTuple t items)(hx:items[i]?=none)
  (k:∀h' e,Heap.ExtBut it s.heap h'->(∃o,h'.get? e=some o/\o.cls= .type "StopIteration")->E (.ref e) {s with heap:=h'}):wpAny (model prog w) A (Builtin.SmallTypes.nextOf (.ref it)) Q E s:=by
 obtain⟨o,h1,h2,h3⟩:=id st
 obtain⟨ol,g1,_,n,g2⟩:=ht
 unfold Builtin.SmallTypes.nextOf
 refine wpAny_bind (wpAny_callSpecial?_slot (name:=NX "__next__") st.typeIs F.slot_tuple_iterator_next (wpAny_call_entry F.slot_tuple_iterator_next st.typeIs F.entry_tuple_iterator_next ?_ (F.args_tuple_iterator_next_1 _)))
 show wpAny _ _ (field (.ref it) 0>>=_) _ _ s
 refine wpAny_bind (wpAny_field h1 h3 (x:= .ref t) rfl ?_)
 show wpAny _ _ (if(Value.ref t==Value.none)=true then _ else _) _ _ s
 rw[if_neg (show¬((Value.ref t==Value.none)=true)from Bool.false_ne_true)]
 show wpAny _ _ (field (.ref it) 1>>=_) _ _ s
 refine wpAny_bind (wpAny_field h1 h3 (x:= .int i 0) rfl ?_)
 show wpAny _ _ (seqItems? (.ref t)>>=_) _ _ s
 refine wpAny_bind (wpAny_seqItems g1 g2 ?_)
 simp only[Int.toNat_natCast,hx]
 refine wpAny_bind (wpAny_rule (wpAny_bind (wpAny_setField h1 h3 (by simp) ?_)))
 show wpAny _ _ (newExc (.type "StopIteration") []>>=_) _ _ _
 refine wpAny_bind ?_
 simp only[newExc,newTuple]
 refine wpAny_bind (wpAny_newObj_type ?_ (by size_fits))
 refine wpAny_bind (m:=firstArgMember _ _) (wpAny_of_eq (a:=Value.none) (by first|rfl|(simp only[firstArgMember];rfl)) ?_)
 refine wpAny_newObj_type ?_ (by size_fits)
 simp only[raiseNew]
 refine wpAny_bind (wpAny_handled ?_)
 first|rw[show A.in1.handled=none from hh]|rw[hh]
 refine wpAny_bind (wpAny_pure (wpAny_throw ?_))
 exact k _ _ (((Heap.SameBut.update ..).extBut.push _).push _) ⟨_,Heap.get?_push_size _ rfl,rfl⟩
theorem Bc(hh:A.handled=none){it t:Addr}(items:Array Value)(hne:t≠it):Draws prog w A it [it,t] items.size (fun i v=>items[i]?=some v) (fun i h=>h.IsTupleIter it t i/\h.IsTuple t items)where
 live:=fun i h st=>by obtain⟨⟨o,e,_⟩,_⟩:=st;exact⟨o,e⟩
 frame:=fun i h h' st k=>⟨st.1.at fun o e=>k it (by simp) o e,by
  obtain⟨o,e,r⟩:=st.2
  exact⟨o,k t (by simp) o e,r⟩⟩
 item:=fun i s Q E hi st hQ=>CW st.1 st.2 (Array.getElem?_eq_getElem hi) fun h' st' sb=>hQ _ h' s.toks (Array.getElem?_eq_getElem hi) ⟨st',st.2.extBut sb.extBut hne⟩ sb
 done:=fun s Q E st hE=>BQ hh st.1 st.2 (Array.getElem?_eq_none (Nat.le_refl _)) hE
structure u9(z TI TO i1 i2:Addr)(f1 f2:List Addr):Prop where
 TIz:TI≠z
 TOz:TO≠z
 TITO:TI≠TO
 z1:z∉f1
 z2:z∉f2
 O1:TO∉f1
 O2:TO∉f2
 m1:i1∈f1
 m2:i2∈f2
 i12:i1∉f2
 NK:i2∉f1
 I1:TI≠i1
 I2:TI≠i2
variable{n1 n2:Nat}{P1 P2:Nat->Value->Prop}{S1 S2:Nat->Heap->Prop}{z TI TO i1 i2:Addr}{f1 f2:List Addr}
theorem Bw{k1 k2:Nat}{a b:Value}{Q:Value->Shared->Prop}(D1:∀A':Around,A'.handled=A.handled->Draws prog w A' i1 f1 n1 P1 S1)(D2:∀A':Around,A'.handled=A.handled->Draws prog w A' i2 f2 n2 P2 S2)(D:u9 z TI TO i1 i2 f1 f2)
  (hz:IsZip s.heap z TI TO .none) (hTI:IsPair s.heap TI (.ref i1) (.ref i2)) (hTO:IsPair s.heap TO a b) (h1:S1 k1 s.heap) (h2:S2 k2 s.heap) (l1:k1<n1) (l2:k2<n2)
  (hQ:∀x y h' tk,P1 k1 x->P2 k2 y->IsZip h' z TI TO (rawInt s.heap.objs.size)->IsPair h' TO x y->S1 (k1+1) h'->S2 (k2+1) h'->IsPair h' s.heap.objs.size x y->h'.objs.size=s.heap.objs.size+1->
   (∀c o,c≠z->c≠TO->c≠i1->c≠i2->s.heap.get? c=some o->h'.get? c=some o)->Q (.ref s.heap.objs.size) {s with heap:=h',toks:=tk}):
  wpAny (model prog w) A (Builtin.«zip.__next__» ⟨[.ref z],[]⟩) (fun fin s'=>∃v,fin= .done (.ret v)/\Q v s') E s:=by
 have iz1:i1≠z:=fun e=>D.z1 (e▸D.m1)
 have iz2:i2≠z:=fun e=>D.z2 (e▸D.m2)
 have io1:i1≠TO:=fun e=>D.O1 (e▸D.m1)
 have io2:i2≠TO:=fun e=>D.O2 (e▸D.m2)
 have i12:i1≠i2:=fun e=>D.i12 (e▸D.m2)
 have fr1:∀{k b h h'},b∉f1->Heap.ExtBut b h h'->S1 k h->S1 k h':=fun hb x st=>(D1 A rfl).frame _ _ _ st fun c hc o e=>x c o (fun q=>hb (q▸hc)) e
 have fr2:∀{k b h h'},b∉f2->Heap.ExtBut b h h'->S2 k h->S2 k h':=fun hb x st=>(D2 A rfl).frame _ _ _ st fun c hc o e=>x c o (fun q=>hb (q▸hc)) e
 show wpAny _ _ (field (.ref z) 2>>=_) _ _ _
 refine wpAny_bind (wpAny_field hz rfl (x:= .bool false) rfl ?_)
 show wpAny _ _ (field (.ref z) 3>>=_) _ _ _
 refine wpAny_bind (wpAny_field hz rfl (x:= .ref TI) rfl ?_)
 refine wpAny_bind (wpAny_seqItems hTI rfl ?_)
 show wpAny _ _ (Builtin.SmallTypes.ownedTupleIsFree (.ref z)>>=_) _ _ _
 refine wpAny_bind ?_
 unfold Builtin.SmallTypes.ownedTupleIsFree
 refine wpAny_bind (wpAny_field hz rfl (x:= .none) rfl (wpAny_pure ?_))
 simp only[if_true]
 refine wpAny_bind (wpAny_rule ?_)
 refine wpAny_bind (wpAny_field hz rfl (x:= .ref TO) rfl ?_)
 refine wpAny_bind (wpAny_setField_rec hz (by simp) fun g1 hz1 x1=>?_)
 replace hz1:IsZip g1 z TI TO .ellipsis:=hz1
 have hTO1:IsPair g1 TO a b:=x1.extBut _ _ D.TOz hTO
 have h11:=fr1 D.z1 x1.extBut h1
 have h21:=fr2 D.z2 x1.extBut h2
 refine wpAny_bind ?_
 simp only[List.zipIdx_cons,List.zipIdx_nil,List.forIn_cons,List.forIn_nil]
 refine wpAny_bind (wpAny_bind (wpAny_onRaise ?_))
 show wpAny _ _ (Builtin.SmallTypes.nextOf (.ref i1)>>=_) _ _ _
 refine wpAny_bind ((D1 _ rfl).item k1 _ _ _ l1 h11 fun x g2 t2 px h12 x2=>wpAny_pure ?_)
 have hTO2:IsPair g2 TO a b:=x2.extBut _ _ (Ne.symm io1) hTO1
 have h22:=fr2 D.i12 x2.extBut h21
 refine wpAny_bind (wpAny_seqItems hTO2 rfl ?_)
 refine wpAny_bind (wpAny_updateSeq_pair hTO2 fun g3 hTO3 x3=>?_)
 replace hTO3:IsPair g3 TO x b:=hTO3
 refine wpAny_bind (wpAny_letGo (wpAny_pure ?_))
 have h13:=fr1 D.O1 x3.extBut h12
 have h23:=fr2 D.O2 x3.extBut h22
 refine wpAny_bind (wpAny_bind (wpAny_onRaise ?_))
 show wpAny _ _ (Builtin.SmallTypes.nextOf (.ref i2)>>=_) _ _ _
 refine wpAny_bind ((D2 _ rfl).item k2 _ _ _ l2 h23 fun y g4 t4 py h24 x4=>wpAny_pure ?_)
 have hTO4:IsPair g4 TO x b:=x4.extBut _ _ (Ne.symm io2) hTO3
 have h14:=fr1 D.NK x4.extBut h13
 refine wpAny_bind (wpAny_seqItems hTO4 rfl ?_)
 refine wpAny_bind (wpAny_updateSeq_pair hTO4 fun g5 hTO5 x5=>?_)
 replace hTO5:IsPair g5 TO x y:=hTO5
 have h15:=fr1 D.O1 x5.extBut h14
 have h25:=fr2 D.O2 x5.extBut h24
 refine wpAny_bind (wpAny_letGo (wpAny_pure (wpAny_pure ?_)))
 refine wpAny_bind (wpAny_seqItems hTO5 rfl ?_)
 refine wpAny_bind (wpAny_newTuple ?_)
 have hsz:g5.objs.size=s.heap.objs.size:=by rw[x5.1,x4.1,x3.1,x2.1,x1.1]
 have hz5:IsZip g5 z TI TO .ellipsis:=x5.extBut _ _ (Ne.symm D.TOz) (x4.extBut _ _ (Ne.symm iz2) (x3.extBut _ _ (Ne.symm D.TOz) (x2.extBut _ _ (Ne.symm iz1) hz1)))
 have hk5:∀c o,c≠z->c≠TO->c≠i1->c≠i2->s.heap.get? c=some o->g5.get? c=some o:=fun c o c1 c2 c3 c4 e=>
  x5.extBut _ _ c2 (x4.extBut _ _ c4 (x3.extBut _ _ c2 (x2.extBut _ _ c3 (x1.extBut _ _ c1 e))))
 have zlt:z<g5.objs.size:=Heap.lt_size hz5
 show wpAny _ _ (Builtin.SmallTypes.ownedTupleHandOut (.ref z) (.ref g5.objs.size)>>=_) _ _ _
 refine wpAny_bind ?_
 unfold Builtin.SmallTypes.ownedTupleHandOut
 have hz6:IsZip (g5.push {cls:= .type "tuple",data:= .seq #[x,y]}) z TI TO .ellipsis:=Heap.get?_push_of_some _ hz5
 refine wpAny_bind (wpAny_setField_rec hz6 (by simp) fun g7 hz7 x7=>?_)
 replace hz7:IsZip g7 z TI TO (rawInt g5.objs.size):=hz7
 refine wpAny_setField_rec hz7 (by simp) fun g8 hz8 x8=>?_
 replace hz8:IsZip g8 z TI TO (rawInt g5.objs.size):=hz8
 have up:∀c o,c≠z->g5.get? c=some o->g8.get? c=some o:=fun c o c1 e=>x8.extBut _ _ c1 (x7.extBut _ _ c1 (Heap.get?_push_of_some _ e))
 have hT8:IsPair g8 g5.objs.size x y:=x8.extBut _ _ (Nat.ne_of_gt zlt) (x7.extBut _ _ (Nat.ne_of_gt zlt) (Heap.get?_push_size _ rfl))
 have sz8:g8.objs.size=g5.objs.size+1:=by rw[x8.1,x7.1,Heap.size_push]
 rw[hsz]at hz8 hT8 sz8
 refine wpAny_pure ⟨_,rfl,?_⟩
 show Q (.ref g5.objs.size) _
 rw[hsz]
 exact hQ x y g8 t4 px py hz8 (up _ _ D.TOz hTO5) ((D1 A rfl).frame _ _ _ h15 fun c hc o e=>up c o (fun q=>D.z1 (q▸hc)) e) ((D2 A rfl).frame _ _ _ h25 fun c hc o e=>up c o (fun q=>D.z2 (q▸hc)) e) hT8 sz8 fun c o c1 c2 c3 c4 e=>up c o c1 (hk5 c o c1 c2 c3 c4 e)
theorem C6{k:Nat}{a b:Value}{Q:Fin->Shared->Prop}(D1:∀A':Around,A'.handled=A.handled->Draws prog w A' i1 f1 n1 P1 S1)(D2:∀A':Around,A'.handled=A.handled->Draws prog w A' i2 f2 n2 P2 S2)(D:u9 z TI TO i1 i2 f1 f2)
  (hz:IsZip s.heap z TI TO .none) (hTI:IsPair s.heap TI (.ref i1) (.ref i2)) (hTO:IsPair s.heap TO a b) (h1:S1 k s.heap) (h2:S2 k s.heap) (hk:k=min n1 n2)
  (hE:∀h' e tk,(∀c o,c≠z->c≠TO->c≠i1->c≠i2->s.heap.get? c=some o->h'.get? c=some o)->(∃o,h'.get? e=some o/\o.cls= .type "StopIteration")->E (.ref e) {s with heap:=h',toks:=tk}):
  wpAny (model prog w) A (Builtin.«zip.__next__» ⟨[.ref z],[]⟩) Q E s:=by
 have iz1:i1≠z:=fun e=>D.z1 (e▸D.m1)
 have iz2:i2≠z:=fun e=>D.z2 (e▸D.m2)
 have io1:i1≠TO:=fun e=>D.O1 (e▸D.m1)
 have fr1:∀{k b h h'},b∉f1->Heap.ExtBut b h h'->S1 k h->S1 k h':=fun hb x st=>(D1 A rfl).frame _ _ _ st fun c hc o e=>x c o (fun q=>hb (q▸hc)) e
 have fr2:∀{k b h h'},b∉f2->Heap.ExtBut b h h'->S2 k h->S2 k h':=fun hb x st=>(D2 A rfl).frame _ _ _ st fun c hc o e=>x c o (fun q=>hb (q▸hc)) e
 show wpAny _ _ (field (.ref z) 2>>=_) _ _ _
 refine wpAny_bind (wpAny_field hz rfl (x:= .bool false) rfl ?_)
 show wpAny _ _ (field (.ref z) 3>>=_) _ _ _
 refine wpAny_bind (wpAny_field hz rfl (x:= .ref TI) rfl ?_)
 refine wpAny_bind (wpAny_seqItems hTI rfl ?_)
 show wpAny _ _ (Builtin.SmallTypes.ownedTupleIsFree (.ref z)>>=_) _ _ _
 refine wpAny_bind ?_
 unfold Builtin.SmallTypes.ownedTupleIsFree
 refine wpAny_bind (wpAny_field hz rfl (x:= .none) rfl (wpAny_pure ?_))
 simp only[if_true]
 refine wpAny_bind (wpAny_rule ?_)
 refine wpAny_bind (wpAny_field hz rfl (x:= .ref TO) rfl ?_)
 refine wpAny_bind (wpAny_setField_rec hz (by simp) fun g1 hz1 x1=>?_)
 replace hz1:IsZip g1 z TI TO .ellipsis:=hz1
 have hTO1:IsPair g1 TO a b:=x1.extBut _ _ D.TOz hTO
 have h11:=fr1 D.z1 x1.extBut h1
 have h21:=fr2 D.z2 x1.extBut h2
 refine wpAny_bind ?_
 simp only[List.zipIdx_cons,List.zipIdx_nil,List.forIn_cons,List.forIn_nil]
 refine wpAny_bind (wpAny_bind (wpAny_onRaise ?_))
 show wpAny _ _ (Builtin.SmallTypes.nextOf (.ref i1)>>=_) _ _ _
 by_cases c:n1<=n2
 .have e1:k=n1:=by lia
  subst e1
  refine wpAny_bind ((D1 _ rfl).done _ _ _ h11 fun g2 e x2 he=>?_)
  obtain⟨oe,e1,e2⟩:=he
  have hz2:IsZip g2 z TI TO .ellipsis:=x2 _ _ (Ne.symm iz1) hz1
  have hez:e≠z:=fun q=>by subst q;rw[hz2]at e1;cases e1;simp at e2
  refine wpAny_setField_rec hz2 (by simp) fun g3 _ x3=>hE g3 e _ (fun c o c1 _ c3 _ q=>x3.extBut _ _ c1 (x2 _ _ c3 (x1.extBut _ _ c1 q))) ⟨oe,x3.extBut _ _ hez e1,e2⟩
 .have e2:k=n2:=by lia
  subst e2
  refine wpAny_bind ((D1 _ rfl).item k _ _ _ (by lia) h11 fun x g2 t2 px h12 x2=>wpAny_pure ?_)
  have hTO2:IsPair g2 TO a b:=x2.extBut _ _ (Ne.symm io1) hTO1
  have h22:=fr2 D.i12 x2.extBut h21
  refine wpAny_bind (wpAny_seqItems hTO2 rfl ?_)
  refine wpAny_bind (wpAny_updateSeq_pair hTO2 fun g3 hTO3 x3=>?_)
  refine wpAny_bind (wpAny_letGo (wpAny_pure ?_))
  have h23:=fr2 D.O2 x3.extBut h22
  refine wpAny_bind (wpAny_bind (wpAny_onRaise ?_))
  show wpAny _ _ (Builtin.SmallTypes.nextOf (.ref i2)>>=_) _ _ _
  refine wpAny_bind ((D2 _ rfl).done _ _ _ h23 fun g4 e x4 he=>?_)
  obtain⟨oe,e1,e2⟩:=he
  have hz4:IsZip g4 z TI TO .ellipsis:=x4 _ _ (Ne.symm iz2) (x3.extBut _ _ (Ne.symm D.TOz) (x2.extBut _ _ (Ne.symm iz1) hz1))
  have hez:e≠z:=fun q=>by subst q;rw[hz4]at e1;cases e1;simp at e2
  refine wpAny_setField_rec hz4 (by simp) fun g5 _ x5=>hE g5 e _ (fun c o c1 c2 c3 c4 q=>x5.extBut _ _ c1 (x4 _ _ c4 (x3.extBut _ _ c2 (x2.extBut _ _ c3 (x1.extBut _ _ c1 q))))) ⟨oe,x5.extBut _ _ hez e1,e2⟩
end
structure Src(P:Program)(w:World)(K:W.Frag)(base it:Addr)(xs:List V)(T:Nat->Heap->Prop)(G:Hp->Prop):Prop where
 obj:∀i h,T i h->∃o,h.get? it=some o/\∀v,o.data≠.cell v
 keep:∀i h h',T i h->(∀o,h.get? it=some o->h'.get? it=some o)->T i h'
 dr:∀(X:Cx),X.prog=P->X.w=w->X.K=K->∀(pins:List (Addr×Obj))(σ:St)(H:Hp)(s:Shared),Inv X pins σ H s->G H->∃(f:List Addr)(PP:Nat->Value->Prop)(S:Nat->Heap->Prop),it∈f/\(∀c∈f,c=it\/@LT.lt Nat _ c base)/\
  (∀i,T i s.heap->S i s.heap)/\(∀i h,S i h->T i h)/\(∀i u,PP i u->∃v,xs[i]?=some v/\RelV v u)/\∀A:Around,A.handled=none->Draws P w A it f xs.length PP S
theorem src_list{P:Program}{w:World}{K:W.Frag}{base it a:Addr}{xs:List V}(h1: @LE.le Nat _ base it)(h2: @LT.lt Nat _ a base):Src P w K base it xs (fun i h=>h.IsListIter it a i) (fun H=>aC K H a xs)where
 obj:=fun i h st=>by
  obtain⟨o,e,_,d⟩:=st
  exact⟨o,e,fun v z=>by rw[d]at z;cases z⟩
 keep:=fun i h h' st k=>st.at k
 dr:=by
  intro X hP hw hK pins σ H s I g
  subst hP hw hK
  obtain⟨its,rv,pl,_⟩:=I.list g
  have hne:a≠it:=fun e=>by subst e;exact absurd (Nat.lt_of_lt_of_le h2 h1) (Nat.lt_irrefl _)
  refine⟨[it,a],fun i v=>its.toArray[i]?=some v,fun i h=>h.IsListIter it a i/\h.IsList a its.toArray,by simp,fun c hc=>?_,fun i st=>⟨st,pl.isList⟩,fun i h st=>st.1,fun i u hu=>?_,fun A hh=>?_⟩
  .simp only[N6,List.not_mem_nil,or_false]at hc
   exact hc.imp id fun e=>by rw[e];exact h2
  .have hu:its[i]?=some u:=by simpa using hu
   have hi:i<xs.length:=by
    have:=rv.length
    have:=(List.getElem?_eq_some_iff.mp hu).1
    lia
   obtain⟨u',hu',r⟩:=rv.get (N1 hi)
   rw[hu]at hu'
   cases hu'
   exact⟨_,N1 hi,r⟩
  .have D:=Draws.list (prog:=X.prog) (w:=X.w) hh it a hne its.toArray
   rw[show its.toArray.size=xs.length by simp[rv.length]]at D
   exact D
theorem GJ{P:Program}{w:World}{K:W.Frag}{base it a:Addr}{xs:List V}(h1: @LE.le Nat _ base it)(h2: @LT.lt Nat _ a base):Src P w K base it xs (fun i h=>h.IsTupleIter it a i) (fun H=>e8 K H a xs)where
 obj:=fun i h st=>by
  obtain⟨o,e,_,d⟩:=st
  exact⟨o,e,fun v z=>by rw[d]at z;cases z⟩
 keep:=fun i h h' st k=>st.at k
 dr:=by
  intro X hP hw hK pins σ H s I g
  subst hP hw hK
  obtain⟨its,rv,pl,_⟩:=I.tuple g
  have hne:a≠it:=fun e=>by subst e;exact absurd (Nat.lt_of_lt_of_le h2 h1) (Nat.lt_irrefl _)
  refine⟨[it,a],fun i v=>its.toArray[i]?=some v,fun i h=>h.IsTupleIter it a i/\h.IsTuple a its.toArray,by simp,fun c hc=>?_,fun i st=>⟨st,pl⟩,fun i h st=>st.1,fun i u hu=>?_,fun A hh=>?_⟩
  .simp only[N6,List.not_mem_nil,or_false]at hc
   exact hc.imp id fun e=>by rw[e];exact h2
  .have hu:its[i]?=some u:=by simpa using hu
   have hi:i<xs.length:=by
    have:=rv.length
    have:=(List.getElem?_eq_some_iff.mp hu).1
    lia
   obtain⟨u',hu',r⟩:=rv.get (N1 hi)
   rw[hu]at hu'
   cases hu'
   exact⟨_,N1 hi,r⟩
  .have D:=Bc (prog:=X.prog) (w:=X.w) hh its.toArray hne
   rw[show its.toArray.size=xs.length by simp[rv.length]]at D
   exact D
def Ip(xs ys:List V)(G1 G2:Hp->Prop):It:=
 ⟨fun i H=>i<min xs.length ys.length/\G1 H/\G2 H,fun i H x H'=>∃t v u,H t=none/\x= .ref t/\xs[i]?=some v/\ys[i]?=some u/\H'=upd H t (.tup [v,u]),fun i H=>i=min xs.length ys.length/\G1 H/\G2 H⟩
theorem F7{P:Program}{w:World}{K:W.Frag}{elts:List Expr}{k:Nat}{pos:Pos}{base z TI TO i1 i2:Addr}{xs ys:List V}{T1 T2:Nat->Heap->Prop}{G1 G2:Hp->Prop}(s1:Src P w K base i1 xs T1 G1)(s2:Src P w K base i2 ys T2 G2)
  (nd:[z,TI,TO,i1,i2].Nodup) (ge:∀c∈[z,TI,TO,i1,i2],@LE.le Nat _ base c):
  Turn P w K (.Tuple elts k pos) (Ip xs ys G1 G2) [z,TI,TO,i1,i2] z (fun i h=>IsZip h z TI TO .none/\IsPair h TI (.ref i1) (.ref i2)/\(∃x y,IsPair h TO x y)/\T1 i h/\T2 i h)where
 mem:=by simp
 obj:=fun i h st c hc=>by
  obtain⟨hz,hTI,⟨x,y,hTO⟩,h1,h2⟩:=st
  simp only[N6,List.not_mem_nil,or_false]at hc
  rcases hc with rfl|rfl|rfl|rfl|rfl
  .exact⟨_,hz,fun v z=>by cases z⟩
  .exact⟨_,hTI,fun v z=>by cases z⟩
  .exact⟨_,hTO,fun v z=>by cases z⟩
  .exact s1.obj _ _ h1
  .exact s2.obj _ _ h2
 keep:=fun i h h' st kk=>by
  obtain⟨hz,hTI,⟨x,y,hTO⟩,h1,h2⟩:=st
  exact⟨kk z (by simp) _ hz,kk TI (by simp) _ hTI,⟨x,y,kk TO (by simp) _ hTO⟩,s1.keep _ _ _ h1 fun o q=>kk i1 (by simp) o q,s2.keep _ _ _ h2 fun o q=>kk i2 (by simp) o q⟩
 item:=by
  intro X hP hw hK hc i pins s σ H E I hf st hg
  obtain⟨hi,hq1,hq2⟩:=hg
  obtain⟨f1,P1,S1,m1,b1,a1,c1,r1,D1⟩:=s1.dr X hP hw hK pins σ H s I hq1
  obtain⟨f2,P2,S2,m2,b2,a2,c2,r2,D2⟩:=s2.dr X hP hw hK pins σ H s I hq2
  obtain⟨hz,hTI,⟨q1,q2,hTO⟩,h1,h2⟩:=st
  simp only[List.nodup_cons,N6,List.not_mem_nil,or_false,not_or,List.nodup_nil,and_true,not_false_eq_true]at nd
  have no1:∀c∈[z,TI,TO,i1,i2],c≠i1->c∉f1:=fun c hc hne hm=>(b1 c hm).elim hne fun l=>absurd (Nat.lt_of_lt_of_le l (ge c hc)) (Nat.lt_irrefl _)
  have no2:∀c∈[z,TI,TO,i1,i2],c≠i2->c∉f2:=fun c hc hne hm=>(b2 c hm).elim hne fun l=>absurd (Nat.lt_of_lt_of_le l (ge c hc)) (Nat.lt_irrefl _)
  have ap:u9 z TI TO i1 i2 f1 f2:=⟨fun e=>nd.1.1 e.symm,fun e=>nd.1.2.1 e.symm,nd.2.1.1,no1 z (by simp) nd.1.2.2.1,no2 z (by simp) nd.1.2.2.2,no1 TO (by simp) nd.2.2.1.1,no2 TO (by simp) nd.2.2.1.2,m1,m2,no2 i1 (by simp) nd.2.2.2,no1 i2 (by simp) (fun e=>nd.2.2.2 e.symm),nd.2.1.2.1,nd.2.1.2.2⟩
  have hhan:X.A.handled=none:=I.ok.hd hc
  have hT:s.TypeIs (.ref z) "zip" :=⟨_,hz,rfl⟩
  unfold pyNext
  subst hP hw
  refine wpAny_bind (wpAny_attempt (wpAny_callSpecial?_slot (name:=NX "__next__") hT F.slot_zip_next (wpAny_call_entry F.slot_zip_next hT F.entry_zip_next (Bw (fun A' e=>D1 A' (e.trans hhan)) (fun A' e=>D2 A' (e.trans hhan)) ap hz hTI hTO (a1 _ h1) (a2 _ h2) (by lia) (by lia) fun x y h' tk px py hz' hTO' h1' h2' hpT hsz hk=>?_) (F.args_zip_next_1 _))))
  refine wpAny_pure ⟨_,rfl,?_⟩
  obtain⟨v1,e1,rv1⟩:=r1 _ _ px
  obtain⟨v2,e2,rv2⟩:=r2 _ _ py
  refine wpAny_letOwnedTupleGo_zip hz' fun h'' hz2 sb=>?_
  have lt:∀{c o},s.heap.get? c=some o->c≠s.heap.objs.size:=fun e=>Nat.ne_of_lt (Heap.lt_size e)
  have iz1:i1≠z:=fun e=>nd.1.2.2.1 e.symm
  have iz2:i2≠z:=fun e=>nd.1.2.2.2 e.symm
  have kk:∀c o,c∉[z,TI,TO,i1,i2]->s.heap.get? c=some o->h''.get? c=some o:=fun c o hc e=>by
   simp only[N6,List.not_mem_nil,or_false,not_or]at hc
   exact sb.extBut _ _ hc.1 (hk c o hc.1 hc.2.2.1 hc.2.2.2.1 hc.2.2.2.2 e)
  have I1:Inv X pins σ H {s with heap:=h'',toks:=tk}:=I.AB (fp:=[z,TI,TO,i1,i2]) (fun b o hb q=>kk b o hb q) hf
  have fT:j4 X pins H s.heap.objs.size:=I.Bf (Nat.le_refl _) (I.aY.fresh (Nat.le_refl _))
  have hT'':IsTup h'' s.heap.objs.size #[x,y]:=⟨_,sb.extBut _ _ (fun e=>lt hz e.symm) hpT,rfl,_,rfl⟩
  have hTI2:IsPair h'' TI (.ref i1) (.ref i2):=sb.extBut _ _ (fun e=>nd.1.1 e.symm) (hk TI _ (fun e=>nd.1.1 e.symm) nd.2.1.1 nd.2.1.2.1 nd.2.1.2.2 hTI)
  refine⟨.ref s.heap.objs.size,upd H s.heap.objs.size (.tup [v1,v2]),I1.CL fT ⟨(by show 2<=sizeLine;decide),[x,y],.cons rv1 (.cons rv2 .nil),hT''⟩,rfl,⟨_,v1,v2,fT.1,rfl,e1,e2,rfl⟩,⟨hz2,hTI2,⟨x,y,sb.extBut _ _ (fun e=>nd.1.2.1 e.symm) hTO'⟩,s1.keep _ _ _ (c1 _ _ h1') fun o e=>sb.extBut _ _ iz1 e,s2.keep _ _ _ (c2 _ _ h2') fun o e=>sb.extBut _ _ iz2 e⟩,fun c hc=>?_⟩
  have hcT:c≠s.heap.objs.size:=by
   have hcc:=hc
   simp only[N6,List.not_mem_nil,or_false]at hcc
   rcases hcc with e|e|e|e|e
   .rw[e];exact lt hz
   .rw[e];exact lt hTI
   .rw[e];exact lt hTO
   .obtain⟨o,q,_⟩:=s1.obj _ _ h1;rw[e];exact lt q
   .obtain⟨o,q,_⟩:=s2.obj _ _ h2;rw[e];exact lt q
  rw[ao hcT]
  exact(hf c hc).1
 done:=by
  intro X hP hw hK hc i pins s σ H E I hf st hg
  obtain⟨hi,hq1,hq2⟩:=hg
  obtain⟨f1,P1,S1,m1,b1,a1,c1,r1,D1⟩:=s1.dr X hP hw hK pins σ H s I hq1
  obtain⟨f2,P2,S2,m2,b2,a2,c2,r2,D2⟩:=s2.dr X hP hw hK pins σ H s I hq2
  obtain⟨hz,hTI,⟨q1,q2,hTO⟩,h1,h2⟩:=st
  simp only[List.nodup_cons,N6,List.not_mem_nil,or_false,not_or,List.nodup_nil,and_true,not_false_eq_true]at nd
  have no1:∀c∈[z,TI,TO,i1,i2],c≠i1->c∉f1:=fun c hc hne hm=>(b1 c hm).elim hne fun l=>absurd (Nat.lt_of_lt_of_le l (ge c hc)) (Nat.lt_irrefl _)
  have no2:∀c∈[z,TI,TO,i1,i2],c≠i2->c∉f2:=fun c hc hne hm=>(b2 c hm).elim hne fun l=>absurd (Nat.lt_of_lt_of_le l (ge c hc)) (Nat.lt_irrefl _)
  have ap:u9 z TI TO i1 i2 f1 f2:=⟨fun e=>nd.1.1 e.symm,fun e=>nd.1.2.1 e.symm,nd.2.1.1,no1 z (by simp) nd.1.2.2.1,no2 z (by simp) nd.1.2.2.2,no1 TO (by simp) nd.2.2.1.1,no2 TO (by simp) nd.2.2.1.2,m1,m2,no2 i1 (by simp) nd.2.2.2,no1 i2 (by simp) (fun e=>nd.2.2.2 e.symm),nd.2.1.2.1,nd.2.1.2.2⟩
  have hhan:X.A.handled=none:=I.ok.hd hc
  have hT:s.TypeIs (.ref z) "zip" :=⟨_,hz,rfl⟩
  unfold pyNext
  subst hP hw
  refine wpAny_bind (wpAny_attempt (wpAny_callSpecial?_slot (name:=NX "__next__") hT F.slot_zip_next (wpAny_call_entry F.slot_zip_next hT F.entry_zip_next (C6 (fun A' e=>D1 A' (e.trans hhan)) (fun A' e=>D2 A' (e.trans hhan)) ap hz hTI hTO (a1 _ h1) (a2 _ h2) hi fun h' e tk hk he=>?_) (F.args_zip_next_1 _))))
  obtain⟨o,ho,hcl⟩:=he
  refine wpAny_bind (wpAny_isInstance (T:= "StopIteration") (b:=true) ⟨o,ho,hcl⟩ isSubtype_stop ?_)
  exact wpAny_pure ⟨rfl,I.AB (fp:=[z,TI,TO,i1,i2]) (fun b o hb q=>by
   simp only[N6,List.not_mem_nil,or_false,not_or]at hb
   exact hk b o hb.1 hb.2.2.1 hb.2.2.2.1 hb.2.2.2.2 q) hf⟩
 self:=fun A i s Q E st hQ=>wpAny_pyIter_zip st.1 hQ
theorem KG(n:Nat):[n+4,n+2,n+3,n,n+1].Nodup:=by
 simp only[List.nodup_cons,N6,List.not_mem_nil,or_false,not_or,List.nodup_nil,and_true,not_false_eq_true]
 lia
section
variable{prog:Program}{w:World}{A:Around}{E:Value->Shared->Prop}{s:Shared}
theorem uq(l1 l2:Addr)(xs ys:Array Value):
  Meets (Builtin.«zip.__new__» ⟨[.type "zip",.ref l1,.ref l2],[]⟩) (fun _ R s=>s.heap.IsTuple l1 xs/\s.heap.IsList l2 ys/\
   R (.ok (.ret (.ref (s.heap.objs.size+4)))) {s with heap:=((((s.heap.push {cls:= .type "tuple_iterator",data:= .fields #[.ref l1,.int 0 0]}).push {cls:= .type "list_iterator",data:= .fields #[.ref l2,.int 0 0]}).push {cls:= .type "tuple",data:= .seq #[.ref s.heap.objs.size,.ref (s.heap.objs.size+1)]}).push {cls:= .type "tuple",data:= .seq #[.none,.none]}).push {cls:= .type "zip",data:= .fields #[.none,.bool false,.bool false,.ref (s.heap.objs.size+2),.ref (s.heap.objs.size+3)]}}):=
 .of_wp fun prog w A R s h=>by
  obtain⟨hp,g,d,tk,os⟩:=s;obtain⟨hl1,hl2,h⟩:=h
  have hsub:=sub_zip
  have hL1:Heap.IsTuple (Shared.heap ⟨hp,g,d,tk,os⟩) l1 xs:=hl1
  have hL2:Heap.IsList (Shared.heap ⟨hp.push {cls:= .type "tuple_iterator",data:= .fields #[.ref l1,.int 0 0]},g,d,tk,os⟩) l2 ys:=Heap.IsList.push hl2 _
  simp only[Heap.size_push]at h
  wp_walk using wpAny_pyIter_tuple hL1,wpAny_pyIter_list hL2
  simp only[Heap.size_push,Nat.add_assoc]
  exact⟨_,rfl,h⟩
end
section
variable{prog:Program}{w:World}{A:Around}{E:Value->Shared->Prop}{s:Shared}
theorem wq{l1 l2:Addr}{xs ys:Array Value}{Q:Value->Shared->Prop}(hl1:s.heap.IsTuple l1 xs)(hl2:s.heap.IsList l2 ys)
  (h:∀h',IsZip h' (s.heap.objs.size+4) (s.heap.objs.size+2) (s.heap.objs.size+3) .none->IsPair h' (s.heap.objs.size+2) (.ref s.heap.objs.size) (.ref (s.heap.objs.size+1))->
   IsPair h' (s.heap.objs.size+3) .none .none->h'.IsTupleIter s.heap.objs.size l1 0->h'.IsListIter (s.heap.objs.size+1) l2 0->
   (∀c o,s.heap.get? c=some o->h'.get? c=some o)->Q (.ref (s.heap.objs.size+4)) {s with heap:=h'}):
  wpAny (model prog w) A (call (.type "zip") [.ref l1,.ref l2]) Q E s:=by
 refine callType_new F.called_zip (by decide) (F.typeCall_zip_2 _ _) (F.newCall_zip_2 _ _) (fun obj=>F.args_object_init_3 obj _ _) F.entry_zip_new
  (uq l1 l2 xs ys) ⟨hl1,hl2,?_⟩
 have up:∀(h:Heap)(o:Obj) c x,h.get? c=some x->(h.push o).get? c=some x:=fun h o c x e=>Heap.get?_push_of_some _ e
 have at0:∀(h:Heap)(o:Obj)(n:Nat),h.objs.size=n->o.isFreed=false->(h.push o).get? n=some o:=fun h o n e f=>by rw[←e];exact Heap.get?_push_size _ f
 generalize hg:((((s.heap.push {cls:= .type "tuple_iterator",data:= .fields #[.ref l1,.int 0 0]}).push {cls:= .type "list_iterator",data:= .fields #[.ref l2,.int 0 0]}).push {cls:= .type "tuple",data:= .seq #[.ref s.heap.objs.size,.ref (s.heap.objs.size+1)]}).push {cls:= .type "tuple",data:= .seq #[.none,.none]}).push {cls:= .type "zip",data:= .fields #[.none,.bool false,.bool false,.ref (s.heap.objs.size+2),.ref (s.heap.objs.size+3)]}=g
 have z4:IsZip g (s.heap.objs.size+4) (s.heap.objs.size+2) (s.heap.objs.size+3) .none:=by
  rw[←hg];exact at0 _ _ _ (by simp only[Heap.size_push]) rfl
 have z3:IsPair g (s.heap.objs.size+3) .none .none:=by
  rw[←hg];exact up _ _ _ _ (at0 _ _ _ (by simp only[Heap.size_push]) rfl)
 have z2:IsPair g (s.heap.objs.size+2) (.ref s.heap.objs.size) (.ref (s.heap.objs.size+1)):=by
  rw[←hg];exact up _ _ _ _ (up _ _ _ _ (at0 _ _ _ (by simp only[Heap.size_push]) rfl))
 have z1:g.IsListIter (s.heap.objs.size+1) l2 0:=by
  rw[←hg];exact⟨_,up _ _ _ _ (up _ _ _ _ (up _ _ _ _ (at0 _ _ _ (by simp only[Heap.size_push]) rfl))),rfl,rfl⟩
 have z0:g.IsTupleIter s.heap.objs.size l1 0:=by
  rw[←hg];exact⟨_,up _ _ _ _ (up _ _ _ _ (up _ _ _ _ (up _ _ _ _ (at0 _ _ _ rfl rfl)))),rfl,rfl⟩
 have kk:∀c o,s.heap.get? c=some o->g.get? c=some o:=fun c o e=>by
  rw[←hg];exact up _ _ _ _ (up _ _ _ _ (up _ _ _ _ (up _ _ _ _ (up _ _ _ _ e))))
 exact⟨⟨_,z4,rfl⟩,h _ z4 z2 z3 z0 z1 kk⟩
end
def KY(K:W.Frag)(ta:TA):TI:=fun σ H R=>ta σ H fun vs H1=>∃(a b:Addr)(xs ys:List V),vs=[.ref a,.ref b]/\e8 K H1 a xs/\aC K H1 b ys/\R (Ip xs ys (fun H=>e8 K H a xs) (fun H=>aC K H b ys)) H1
theorem z6{X:Cx}{K:W.Frag}{e e2:Expr}{ta:TA}{p pos:Pos}{kk:Nat}{elts:List Expr}{tp:Pos}(hK:X.K=K)(hg:Gl X "zip")(hm:X.mg "zip" =none)(ha:PA X [e,e2] ta)
  (hs:starEach [e,e2] X.env=(false,eval e X.env)::starEach [e2] X.env:=by rfl) (hpl:(backTo pos (starEach [e2] X.env)).any (·.1)=false:=by rfl):
  PI X (.Tuple elts kk tp) (.Call (.Name "zip" p) [e,e2] [] pos) (KY K ta):=by
 subst hK
 intro pins s σ H R I h
 refine Call_ (kc I hg hm (by decide+kernel:bootBuiltins "zip" =some (.type "zip")) (PyProof.Rows.callWith_type1 (aW (ha pos pins s σ H _ I h) fun us s2 ⟨vs,H2,I2,r1,a,b,xs,ys,e1,hq1,hq2,hR⟩=>?_) hs hpl) (by decide+kernel) (by decide+kernel))
 subst e1
 obtain⟨u,u2,rfl,ru,ru2⟩:=vals2 r1
 cases ru
 cases ru2
 obtain⟨its,rv,pl,_⟩:=I2.tuple hq1
 obtain⟨jts,rv2,pl2,_⟩:=I2.list hq2
 refine wq (show s2.heap.IsTuple a its.toArray from pl) pl2.isList fun h' z0 t0 o0 i10 i20 k0=>?_
 have lta: @LT.lt Nat _ a s2.heap.objs.size:=by obtain⟨o,e,_⟩:=pl;exact Heap.lt_size e
 have ltb: @LT.lt Nat _ b s2.heap.objs.size:=by obtain⟨o,n,e,_⟩:=pl2;exact Heap.lt_size e
 refine wpAny_pyIter_zip z0 ?_
 have le:∀c∈[s2.heap.objs.size+4,s2.heap.objs.size+2,s2.heap.objs.size+3,s2.heap.objs.size,s2.heap.objs.size+1],@LE.le Nat _ s2.heap.objs.size c:=fun c hc=>by
  simp only[N6,List.not_mem_nil,or_false]at hc
  rcases hc with e|e|e|e|e<;>rw[e]
  .exact Nat.le_add_right _ _
  .exact Nat.le_add_right _ _
  .exact Nat.le_add_right _ _
  .exact Nat.le_refl _
  .exact Nat.le_add_right _ _
 exact⟨s2.heap.objs.size+4,[s2.heap.objs.size+4,s2.heap.objs.size+2,s2.heap.objs.size+3,s2.heap.objs.size,s2.heap.objs.size+1],_,_,H2,rfl,I2.kept (t':=s2.toks) k0,
  F7 (GJ (le _ (by simp)) lta) (src_list (le _ (by simp)) ltb) (KG _) le,⟨z0,t0,⟨_,_,o0⟩,i10,i20⟩,fun c hc=>I2.Bf (le c hc) (I2.aY.fresh (le c hc)),hR⟩
open PySem PySem.Spec PyProof.Rows PySem.SeqAt
inductive pe(pr:Params):List DictEntry->List (Str×Addr)->Prop
 |nil:pe pr [] []
 |cons {x:Str} {b:Addr} {t:Tok} {es:List DictEntry} {ps:List (Str×Addr)}:pe pr es ps->pe pr ({hash:=PyData.keyHash pr x,key:= .str x t,val:= .ref b}::es) ((x,b)::ps)
structure KTab(K:W.Frag)(pr:Params)(a:Addr)(ps:List (Str×Addr)):Prop where
 sys:(a==sysModules)=false
 nd:(ps.map (·.1)).Nodup
 ex:∃(es:List DictEntry)(ep:Nat),K.lookup a=some {cls:= .type "dict",data:= .dict es.toArray ep}/\pe pr es ps
def Fu(ps:List (Str×Addr)):List (Key×V):=ps.map fun p=>(Sum.inr p.1,V.ref p.2)
def tabOf(ps:List (Str×Addr))(k:Str):Option Addr:=(ps.find? fun p=>p.1=k).map (·.2)
theorem uN(ps:List (Str×Addr))(k:Str):bZ (Fu ps) (Sum.inr k:Key)=(tabOf ps k).map V.ref:=by
 unfold Fu tabOf bZ
 induction ps with
 |nil=>rfl
 |cons p t ih=>
  rw[N4,List.find?_cons,List.find?_cons]
  by_cases h:p.1=k
  .have:decide ((Sum.inr p.1:Key)=Sum.inr k)=true:=decide_eq_true (by rw[h])
   simp only[this,h,decide_true]
   rfl
  .have:decide ((Sum.inr p.1:Key)=Sum.inr k)=false:=decide_eq_false fun z=>h (Sum.inr.inj z)
   simp only[this,decide_eq_false h]
   exact ih
theorem E2(ps:List (Str×Addr))(k:Str):(tabOf ps k).isSome=decide (k∈ps.map (·.1)):=by
 unfold tabOf
 rw[Option.isSome_map]
 induction ps with
 |nil=>rfl
 |cons p t ih=>
  rw[List.find?_cons]
  by_cases h:p.1=k
  .simp[h]
  .rw[decide_eq_false h]
   show(t.find? _).isSome=_
   rw[ih,N4,Bool.eq_iff_iff,decide_eq_true_eq,decide_eq_true_eq,N6]
   exact⟨.inr,fun z=>z.resolve_left fun z=>h z.symm⟩
section
variable{X:Cx}{K:W.Frag}
theorem pe.go {pr:Params}{P:Program}{w:World}(hp:w.params=pr):∀{es:List DictEntry}{ps:List (Str×Addr)},pe pr es ps->∃vs:List (Key×Value),KV (Fu ps) vs/\(∀e∈es,∃k,(aV P w).is k e.key=true/\e.hash=(aV P w).hash k)/\Pairs (aV P w) es vs/\vs.map (·.1)=ps.map fun p=>Sum.inr p.1
 |_,_,.nil=>⟨[],.nil,by simp,.nil,rfl⟩
 |_,_,.cons (x:=x) (b:=b) (t:=t) r=>by
  obtain⟨vs,h1,h2,h3,h4⟩:=pe.go (P:=P) hp r
  have hi:(aV P w).is (Sum.inr x) (Value.str x t)=true:=by
   show Value.isStrOf x (Value.str x t)=true
   simp[Value.isStrOf]
  refine⟨(Sum.inr x,.ref b)::vs,?_,?_,.cons hi rfl h3,by rw[N4,h4];rfl⟩
  .exact Paired.cons ⟨rfl,rfl⟩ h1
  .intro e he
   rcases List.mem_cons.mp he with rfl|he
   .refine⟨Sum.inr x,hi,?_⟩
    subst hp
    rfl
   .exact h2 e he
theorem KTab.dict {pins:List (Addr×Obj)}{σ:St}{H:Hp}{s:Shared}{a:Addr}{ps:List (Str×Addr)}(k:KTab X.K X.w.params a ps)(I:Inv X pins σ H s):∃vs:List (Key×Value),KV (Fu ps) vs/\s.heap.DictOf (aV X.prog X.w) a vs:=by
 obtain⟨es,ep,hl,ht⟩:=k.ex
 obtain⟨vs,h1,h2,h3,h4⟩:=pe.go (P:=X.prog) (w:=X.w) rfl ht
 refine⟨vs,h1,_,es.toArray,ep,I.kU a _ hl,⟨rfl,rfl,rfl⟩,rfl,fun e he=>h2 e (by simpa using he),by simpa using h3,?_⟩
 rw[h4]
 have:=k.nd
 rw[show(ps.map fun p=>(Sum.inr p.1:Key))=(ps.map (·.1)).map Sum.inr by rw[N7];rfl]
 exact this.map _ fun x y h e=>h (Sum.inr.inj e)
def Fz(a:Addr)(ps:List (Str×Addr))(ty td:TE):TE:=fun σ H Q=>ty σ H fun y H1=>td σ H1 fun x H2=>∃k,x= .ref a/\y= .str k/\Q (.bl (!(tabOf ps k).isSome)) H2
theorem AQ{i o:Expr}{ty td:TE}{a:Addr}{ps:List (Str×Addr)}(kt:KTab X.K X.w.params a ps)(hi:PE X i ty)(ho:PE X o td):PC X .NotIn i o (Fz a ps ty td):=by
 intro pins s σ H Q I h
 refine aW (hi pins s σ H _ I h) fun iv s1 ⟨y,H1,I1,ry,q1⟩=>aW (ho pins s1 σ H1 _ I1 q1) fun u s2 ⟨x,H2,I2,rx,k,ex,ey,q2⟩=>?_
 subst ex
 subst ey
 obtain rfl:u=Value.ref a:=rx
 obtain⟨vs,rel,dd⟩:=kt.dict I2
 refine wpAny_notIn_of (iC (k:=Sum.inr k) ry) kt.sys dd.mapOf ?_
 rw[←(rel.val (Sum.inr k)).cV,uN,Option.isSome_map]
 exact⟨.bl _,H2,I2.tok _,rfl,q2⟩
def IW(a:Addr)(ps:List (Str×Addr))(ty td:TE):TE:=fun σ H Q=>ty σ H fun y H1=>td σ H1 fun x H2=>∃k,x= .ref a/\y= .str k/\Q (.bl (tabOf ps k).isSome) H2
theorem Dw{i o:Expr}{ty td:TE}{a:Addr}{ps:List (Str×Addr)}(kt:KTab X.K X.w.params a ps)(hi:PE X i ty)(ho:PE X o td):PC X .In i o (IW a ps ty td):=by
 intro pins s σ H Q I h
 refine aW (hi pins s σ H _ I h) fun iv s1 ⟨y,H1,I1,ry,q1⟩=>aW (ho pins s1 σ H1 _ I1 q1) fun u s2 ⟨x,H2,I2,rx,k,ex,ey,q2⟩=>?_
 subst ex
 subst ey
 obtain rfl:u=Value.ref a:=rx
 obtain⟨vs,rel,dd⟩:=kt.dict I2
 refine wpAny_in_of (iC (k:=Sum.inr k) ry) kt.sys dd.mapOf ?_
 rw[←(rel.val (Sum.inr k)).cV,uN,Option.isSome_map]
 exact⟨.bl _,H2,I2.tok _,rfl,q2⟩
def Fp(a:Addr)(ps:List (Str×Addr))(td ty:TE):TE:=fun σ H Q=>td σ H fun x H1=>ty σ H1 fun y H2=>∃k b,x= .ref a/\y= .str k/\tabOf ps k=some b/\Q (.ref b) H2
theorem nZ{i o:Expr}{ty td:TE}{a:Addr}{pos:Pos}{ps:List (Str×Addr)}(kt:KTab X.K X.w.params a ps)(ho:PE X o td)(hi:PE X i ty)(hs:Je i):PE X (.Subscript o i pos) (Fp a ps td ty):=by
 intro pins s σ H Q I h
 refine AE PySem.F.slot_dict_getitem.lookup hs (aW (ho pins s σ H _ I h) fun u s1 ⟨x,H1,I1,rx,q1⟩=>aW (hi pins s1 σ H1 _ I1 q1) fun iv s2 ⟨y,H2,I2,ry,k,b,ex,ey,g,q2⟩=>?_)
 subst ex
 subst ey
 obtain rfl:u=Value.ref a:=rx
 obtain⟨vs,rel,dd⟩:=kt.dict I2
 obtain⟨w',hw,rw'⟩:=jc.some_of (v:= .ref b) (o:=valueAt vs (Sum.inr k)) (by
  have e:=rel.val (Sum.inr k)
  rw[uN,g]at e
  exact e)
 exact⟨dd.typeIs,wpAny_getItem_of (iC (k:=Sum.inr k) ry) dd.mapOf hw ⟨.ref b,H2,I2.tok _,rw',q2⟩⟩
end
open PySem.AutoSeq1 (wpAny_loadPart')
open PySem.MeetsSeq PySem.MeetsSeq2 PySem.MeetsSeq3
theorem Dr(l b:Addr)(xs ys:Array Value)(n m:Nat)(a c:Int)(t u:Tok)(h1:xs[0]?=some (.int a t))(h2:ys[0]?=some (.int c u))(hne:a≠c):
  Meets (Builtin.«list.__eq__.loop» ⟨[.ref l,.ref b,rawInt 0,rawInt 0],[]⟩)
   (fun _ R s=>s.heap.get? l=some {cls:= .type "list",data:= .seq xs n}/\s.heap.get? b=some {cls:= .type "list",data:= .seq ys m}/\R (.ok (.ret (.bool (decide (a<c))))) s):=by
 intro prog w A R s h
 obtain⟨hp,g,d,tk,os⟩:=s
 obtain⟨hl,hb,h⟩:=h
 wp_walk using wpAny_loadPart' hl,wpAny_loadPart' hb
 have e1:xs[Int.toNat 0]?=some (.int a t):=h1
 have e2:ys[Int.toNat 0]?=some (.int c u):=h2
 rw[e1,e2]
 have q:=EqAt.int_int (A:=A.in1) (s:=⟨hp,g,d,tk,os⟩) a t c u
 rw[show(a==c)=false from by simpa using hne]at q
 refine wpAny_bind (q prog w _ _ ?_)
 have lt:=HT.Em A.in1 ⟨hp,g,d,tk,os⟩ a t c u prog w
 wp_walk using wpAny_loadPart' hl,wpAny_loadPart' hb
 rw[e1,e2]
 wp_walk using lt
 exact h
theorem A7(l b:Addr)(xs ys:Array Value)(n m:Nat)(a c:Int)(t u:Tok)(h1:xs[0]?=some (.int a t))(h2:ys[0]?=some (.int c u))(hne:a≠c):
  Meets (Builtin.«list.__lt__» ⟨[.ref l,.ref b],[]⟩)
   (fun _ R s=>s.heap.get? l=some {cls:= .type "list",data:= .seq xs n}/\s.heap.get? b=some {cls:= .type "list",data:= .seq ys m}/\R (.ok (.ret (.bool (decide (a<c))))) s):=by
 intro prog w A R s h
 obtain⟨hp,g,d,tk,os⟩:=s
 obtain⟨hl,hb,h⟩:=h
 have sub:isSubtype (.type "list") (.type "list")=pure true:=by rw[isSubtype_type];kernel_rfl
 wp_walk using wpAny_loadPart' hl,wpAny_loadPart' hb
 refine⟨plainId_quiet plain_eq_loop _,codeAny_builtin entry_eq_loop ?_⟩
 rw[Around.under_plainId plain_eq_loop _]
 exact Dr l b xs ys n m a c t u h1 h2 hne prog w A R _ ⟨hl,hb,h⟩
def xE(h:Heap)(v:Value)(a:Int):Prop:=∃(l:Addr)(xs:Array Value)(n:Nat)(t:Tok),v= .ref l/\h.get? l=some {cls:= .type "list",data:= .seq xs n}/\xs[0]?=some (.int a t)
structure lX(h:Heap)(vs:List Value)(hs:List Int):Prop where
 len:hs.length=vs.length
 up:∀(i:Nat)(a c:Int),hs[i]?=some a->hs[i+1]?=some c->a<c
 head:∀(i:Nat)(v:Value)(a:Int),vs[i]?=some v->hs[i]?=some a->xE h v a
theorem xE.keep {h h':Heap}{v:Value}{a:Int}(x:xE h v a)(k:∀b o,h.get? b=some o->h'.get? b=some o):xE h' v a:=by
 obtain⟨l,xs,n,t,e1,e2,e3⟩:=x
 exact⟨l,xs,n,t,e1,k _ _ e2,e3⟩
theorem lX.keep {h h':Heap}{vs:List Value}{hs:List Int}(x:lX h vs hs)(k:∀b o,h.get? b=some o->h'.get? b=some o):lX h' vs hs:=⟨x.len,x.up,fun i v a e1 e2=>(x.head i v a e1 e2).keep k⟩
section
variable{prog:Program}{w:World}{A:Around}{E:Value->Shared->Prop}{s:Shared}
theorem wL{x y:Value}{a c:Int}{Q:Bool->Shared->Prop}(hx:xE s.heap x a)(hy:xE s.heap y c)(hne:a≠c)(hu:A.units<cLine)(q:Q (decide (a<c)) s):wpAny (model prog w) A (oneLt' true x y) Q E s:=by
 obtain⟨l,xs,n,t,rfl,e1,f1⟩:=hx
 obtain⟨b,ys,m,u,rfl,e2,f2⟩:=hy
 rw[oneLt'_eq,if_pos rfl]
 refine wpAny_bind (wpAny_cRoomFor hu ?_)
 refine wpAny_bind (wpAny_callSpecialIfBound?_slot ⟨_,e1,rfl⟩ F.slot_list_lt (call_meets F.slot_list_lt ⟨_,e1,rfl⟩ F.entry_list_lt (F.args_list_lt_2 _ _) (A7 l b xs ys n m a c t u f1 f2 hne) ⟨e1,e2,?_⟩))
 exact wpAny_truthy_bool q
theorem y7{st:SortSt}{i j:Nat}{x y p r:Value}{a c:Int}{Q:Option Bool->SortSt->Prop}(hk:kindOf st=oneType')(hi:(arrOf st)[i]?=some (x,p))(hj:(arrOf st)[j]?=some (y,r))
  (hx:xE s.heap x a) (hy:xE s.heap y c) (hne:a≠c) (hu:A.units<cLine) (q:Q (some (decide (a<c))) st):wpS (model prog w) A E s (ltAt' i j) Q st:=by
 rw[ltAt'_eq]
 refine wpS_bind (wpS_get ?_)
 show wpS _ _ _ _ (elem' (arrOf st) i>>=fun x=>elem' (arrOf st) j>>=fun y=>lt' x y) Q st
 rw[elem'_eq,hi]
 refine wpS_bind (wpS_pure ?_)
 rw[elem'_eq,hj]
 refine wpS_bind (wpS_pure ?_)
 rw[lt'_eq]
 refine wpS_bind (wpS_get ?_)
 rw[hk]
 refine wpS_bind (wpS_lift (wpAny_attempt (show wpAny (model prog w) A (oneLt' true x y) _ _ s from wL hx hy hne hu ⟨rfl,?_⟩)))
 exact wpS_pure q
def u7(prog:Program)(w:World)(A:Around)(E:Value->Shared->Prop)(s:Shared)(n:Nat)(st:SortSt):Prop:=∀(x:Nat)(Q:Option Bool->SortSt->Prop),1<=x->x<n->Q (some false) st->wpS (model prog w) A E s (ltAt' x (x-1)) Q st
theorem A3{st:SortSt}{n:Nat}{Q:AscSt->SortSt->Prop}(hn:1<=n)(h:u7 prog w A E s n st)(q:Q (none,n) st):wpS (model prog w) A E s (ascLoop 1 n) Q st:=by
 unfold ascLoop
 refine wpS_forRange (I:=fun x c z=>z=st/\c=(none,x)) (fun x c z h1 h2 hI=>?_) (fun c z hI=>?_) ⟨rfl,rfl⟩
 .obtain⟨rfl,rfl⟩:=hI
  exact wpS_bind (h x _ h1 h2 (wpS_pure ⟨rfl,rfl⟩))
 .obtain⟨rfl,rfl⟩:=hI
  rw[Nat.max_eq_right hn]
  exact q
theorem BC{st:SortSt}{n:Nat}{Q:Option Nat->SortSt->Prop}(hn:1<=n)(h:u7 prog w A E s n st)(q:Q (some n) st):wpS (model prog w) A E s (countRun' 0 n) Q st:=by
 rw[countRun0_eq]
 refine wpS_bind (A3 hn h ?_)
 show wpS _ _ _ _ (if(n==n)=true then pure (some n)else _) Q st
 rw[if_pos (beq_self_eq_true n)]
 exact wpS_pure q
theorem yr{st:SortSt}{n:Nat}{Q:Unit->SortSt->Prop}(hn:2<=n)(h64:n<64)(hz:(arrOf st).size=n)(hp:pendingOf st= #[])(h:u7 prog w A E s n st)(q:Q () (setPending st #[(0,n,0)])):wpS (model prog w) A E s sortRuns' Q st:=by
 rw[sortRuns'_eq]
 refine wpS_bind (wpS_get ?_)
 dsimp only
 have hm:minRun' n n 0=n:=by
  obtain⟨f,rfl⟩:∃f,n=f+1:=⟨n-1,by lia⟩
  rw[minRun'_succ,if_pos h64]
 rw[hz,hm]
 refine wpS_bind (wpS_mono (wpS_forRange (I:=fun x c z=>(x=0/\c=(none,0)/\z=st)\/(c=(none,n)/\z=setPending st #[(0,n,0)])) (Q:=fun c z=>c=(none,n)/\z=setPending st #[(0,n,0)]) (fun x c z h1 h2 hI=>?_) (fun c z hI=>?_) (.inl ⟨rfl,rfl,rfl⟩)) fun c z hI=>?_)
 .rcases hI with⟨rfl,rfl,rfl⟩|⟨rfl,rfl⟩
  .dsimp only
   rw[if_neg (by lia)]
   simp only[Nat.sub_zero]
   refine wpS_bind (BC (by lia) h ?_)
   dsimp only
   rw[if_neg (Nat.lt_irrefl n)]
   refine wpS_bind (wpS_get ?_)
   have hb:(pendingOf z).back?=none:=by rw[hp];rfl
   rw[hb]
   dsimp only
   refine wpS_bind (wpS_modify (wpS_pure (.inr ⟨by rw[Nat.zero_add],?_⟩)))
   rw[hp]
   rfl
  .dsimp only
   rw[if_pos (Nat.le_refl n)]
   exact wpS_pure ⟨rfl,rfl⟩
 .rcases hI with⟨hx,_,_⟩|hI
  .lia
  .exact hI
 .obtain⟨rfl,rfl⟩:=hI
  dsimp only
  refine wpS_bind (wpS_mono (wpS_forRange (I:=fun _ c z=>c=(none,())/\z=setPending st #[(0,n,0)]) (Q:=fun c z=>c=(none,())/\z=setPending st #[(0,n,0)]) (fun x c z _ _ hI=>?_) (fun _ _ hI=>hI) ⟨rfl,rfl⟩) fun c z hI=>?_)
  .obtain⟨rfl,rfl⟩:=hI
   refine wpS_bind (wpS_get ?_)
   rw[if_pos (show(pendingOf (setPending st #[(0,n,0)])).size<=1 from Nat.le_refl 1)]
   exact wpS_pure ⟨rfl,rfl⟩
  .obtain⟨rfl,rfl⟩:=hI
   exact wpS_pure q
theorem ph{Q:List (Option Value)->Shared->Prop}:∀{vs:List Value},(∀v∈vs,s.TypeIs v "list")->Q (vs.map fun _=>none) s->wpAny (model prog w) A (vs.mapM firstOfTuple') Q E s
 |[],_,q=>by rw[List.mapM_nil];exact wpAny_pure q
 |v::vs,h,q=>by
  rw[List.mapM_cons]
  refine wpAny_bind (wpAny_bind (wpAny_typeOf (h v List.mem_cons_self) ?_))
  rw[if_pos (by decide)]
  exact wpAny_pure (wpAny_bind (aW (ph (Q:=fun r z=>Q (none::r) z) (fun u hu=>h u (List.mem_cons_of_mem _ hu)) q) fun r s' z'=>wpAny_pure z'))
theorem rD{Q:List Value->Shared->Prop}:∀{vs:List Value},(∀v∈vs,s.TypeIs v "list")->Q (vs.map fun _=>Value.type "list") s->wpAny (model prog w) A (vs.mapM typeOf) Q E s
 |[],_,q=>by rw[List.mapM_nil];exact wpAny_pure q
 |v::vs,h,q=>by
  rw[List.mapM_cons]
  refine wpAny_bind (wpAny_typeOf (h v List.mem_cons_self) ?_)
  exact wpAny_bind (aW (rD (Q:=fun r z=>Q (.type "list" ::r) z) (fun u hu=>h u (List.mem_cons_of_mem _ hu)) q) fun r s' z'=>wpAny_pure z')
theorem yo{vs:List Value}{Q:SortKind->Shared->Prop}(h0:vs≠[])(h:∀v∈vs,s.TypeIs v "list")(q:Q oneType' s):wpAny (model prog w) A (keyKind' vs.toArray) Q E s:=by
 obtain⟨v,r,rfl⟩:∃v r,vs=v::r:=by
  cases vs with
  |nil=>exact absurd rfl h0
  |cons v r=>exact⟨v,r,rfl⟩
 rw[keyKind'_eq,List.mapM_toArray]
 simp only[map_eq_pure_bind,bind_assoc,pure_bind]
 refine wpAny_bind (ph h ?_)
 rw[if_neg (by simp),if_neg (by simp),oneTypeOnly'_eq,List.mapM_toArray]
 simp only[map_eq_pure_bind,bind_assoc,pure_bind]
 refine wpAny_bind (rD h ?_)
 have e:((List.map (fun _=>Value.type "list") (v::r)).toArray.all fun x=>x==Value.type "list")=true:=by
  rw[List.all_toArray,List.all_map,List.all_eq_true]
  exact fun _ _=>rfl
 simp only[N4,List.getElem?_toArray,List.getElem?_cons_zero]at e⊢
 rw[if_pos e]
 exact wpAny_pure q
theorem zip_get{vs:List Value}{i:Nat}{v:Value}(h:vs[i]?=some v):(vs.toArray.zip vs.toArray)[i]?=some (v,v):=by
 have:vs.toArray.zip vs.toArray=(vs.zip vs).toArray:=by simp
 rw[this,List.getElem?_toArray,List.getElem?_zip_eq_some]
 exact⟨h,h⟩
theorem zN{vs:List Value}:(vs.toArray.zip vs.toArray).map (·.2)=vs.toArray:=by
 apply Array.toList_inj.mp
 rw[Array.toList_map,Array.toList_zip]
 simp[List.map_snd_zip]
theorem wR{a:Addr}{vs:List Value}{hs:List Int}{n:Nat}{P:Fin->Shared->Prop}(ho:s.heap.get? a=some (seqObj "list" vs.toArray n))(h64:vs.length<64)(hu:A.units<cLine)
  (hr:∀h',(∀b o,b≠a->s.heap.get? b=some o->h'.get? b=some o)->lX h' vs hs) (q:P (.done (.ret .none)) {s with heap:=sortedHeap s.heap a vs vs.toArray}):
  wpAny (model prog w) A (Builtin.«list.sort» ⟨[.ref a],[]⟩) P E s:=by
 rw[list_sort_plain]
 have la:a<s.heap.objs.size:=Heap.lt_size ho
 obtain⟨k,hk⟩:∃k,(s.heap.update a (Obj.mapSeq fun _=> #[])).get? a=some (seqObj "list" #[] k):=⟨_,get?_update_seq ho (fun _=> #[])⟩
 refine wpAny_bind (listItems_at ho rfl (wpAny_bind (listUpdate_at ho rfl (wpAny_bind (seqEpoch_at hk rfl (wpAny_bind (wpAny_newTuple (wpAny_bind (wpAny_newList (wpAny_holding ?_))))))))))
 have h6:(((s.heap.update a (Obj.mapSeq fun _=> #[])).push (seqObj "tuple" vs.toArray 0)).push (seqObj "list" #[] 0)).get? a=some (seqObj "list" #[] k):=Heap.get?_push_of_some _ (Heap.get?_push_of_some _ hk)
 have R:=hr (((s.heap.update a (Obj.mapSeq fun _=> #[])).push (seqObj "tuple" vs.toArray 0)).push (seqObj "list" #[] 0)) fun b o hb e=>Heap.get?_push_of_some _ (Heap.get?_push_of_some _ ((Heap.get?_update_other _ _ (Ne.symm hb)).trans e))
 show wpAny (model prog w) A _ P E {s with heap:=((s.heap.update a (Obj.mapSeq fun _=> #[])).push (seqObj "tuple" vs.toArray 0)).push (seqObj "list" #[] 0)}
 generalize eS:({s with heap:=((s.heap.update a (Obj.mapSeq fun _=> #[])).push (seqObj "tuple" vs.toArray 0)).push (seqObj "list" #[] 0)}:Shared)=S
 have h6':S.heap.get? a=some (seqObj "list" #[] k):=by rw[←eS];exact h6
 have R':lX S.heap vs hs:=by rw[←eS];exact R
 have q':P (.done (.ret .none)) {S with heap:=S.heap.update a (Obj.mapSeq fun _=>vs.toArray)}:=by rw[←eS];exact q
 dsimp only
 have vz:vs.toArray.size=vs.length:=List.size_toArray
 have big:(10000000:Nat)<=sizeLine:=by decide
 have fin:∀st:SortSt,(arrOf st).map (·.2)=vs.toArray->failedOf st=none->wpAny (model prog w) A (do
   let touched:=(←seqEpoch a) !=k
   Builtin.List.listUpdate (.ref a) fun _=>(arrOf st).map (·.2)
   if let some e:=failedOf st then rule "list.sort.comparison-raised";throw e
   if touched then rule "list.sort.modified";raiseError "ValueError" "list modified during sort"
   ret .none) P E S:=fun st e1 e2=>by
  rw[e1,e2]
  refine wpAny_bind (seqEpoch_at h6' rfl ?_)
  refine wpAny_bind (listUpdate_at h6' rfl ?_ (hsz2:=by rw[vz];lia))
  simp only[bne_self_eq_false,Bool.false_eq_true,if_false]
  exact wpAny_pure q'
 by_cases h2:vs.toArray.size<2
 .rw[if_pos h2,if_pos h2]
  refine wpAny_bind (wpAny_pure ?_)
  rw[StateT.run_pure]
  refine wpAny_bind (wpAny_pure ?_)
  exact fin (SortSt.mk' general' (vs.toArray.zip vs.toArray) #[] 7 none) zN rfl
 .rw[if_neg h2,if_neg h2]
  have ty:∀v∈vs,S.TypeIs v "list" :=fun v hv=>by
   obtain⟨i,hi,e⟩:=List.mem_iff_getElem.mp hv
   obtain⟨l,xs,m,t,rfl,e1,_⟩:=R'.head i v (hs[i]'(by rw[R'.len];exact hi)) (by rw[N1 hi,e]) (N1 (by rw[R'.len];exact hi))
   exact⟨_,e1,rfl⟩
  refine wpAny_bind (yo (by intro z;subst z;simp at h2) ty ?_)
  have nl:u7 prog w A E S vs.length (SortSt.mk' oneType' (vs.toArray.zip vs.toArray) #[] 7 none):=fun x Q h1 hx hq=>by
   have i1:x<hs.length:=by rw[R'.len];exact hx
   have g1:hs[x]?=some hs[x]:=N1 i1
   have g2:hs[x-1]?=some (hs[x-1]'(by lia)):=N1 (by lia)
   have up:=R'.up (x-1) _ _ g2 (by rw[show x-1+1=x by lia];exact g1)
   have v1:vs[x]?=some vs[x]:=N1 hx
   have v2:vs[x-1]?=some (vs[x-1]'(by lia)):=N1 (by lia)
   refine y7 rfl (zip_get v1) (zip_get v2) (R'.head _ _ _ v1 g1) (R'.head _ _ _ v2 g2) (by lia) hu ?_
   rw[decide_eq_false (by lia)]
   exact hq
  refine wpAny_bind (wpAny_mono (yr (n:=vs.length) (st:=SortSt.mk' oneType' (vs.toArray.zip vs.toArray) #[] 7 none) (Q:=fun _ z=>z=setPending (SortSt.mk' oneType' (vs.toArray.zip vs.toArray) #[] 7 none) #[(0,vs.length,0)]) (by lia) h64 (by show(vs.toArray.zip vs.toArray).size=vs.length;simp) rfl nl rfl) ?_ fun _ _ e=>e)
  rintro⟨⟨⟩,st⟩ s' ⟨rfl,rfl⟩
  exact fin (setPending (SortSt.mk' oneType' (vs.toArray.zip vs.toArray) #[] 7 none) #[(0,vs.length,0)]) zN rfl
end
structure My(H:Hp)(vs:List V)(hs:List Int):Prop where
 len:hs.length=vs.length
 up:∀(i:Nat)(a c:Int),hs[i]?=some a->hs[i+1]?=some c->a<c
 head:∀(i:Nat)(v:V)(a:Int),vs[i]?=some v->hs[i]?=some a->∃(b:Addr)(ns:List Int),v= .ref b/\H b=some (.lst (ns.map V.int))/\ns[0]?=some a
section
variable{X:Cx}{K:W.Frag}{pins:List (Addr×Obj)}{σ:St}{H:Hp}{s:Shared}
theorem My.rising {vs:List V}{us:List Value}{hs:List Int}(I:Inv X pins σ H s)(r:Vals vs us)(h:My H vs hs):lX s.heap us hs:=by
 have len:=r.length
 refine⟨by rw[h.len,len],h.up,fun i u a hu ha=>?_⟩
 have iv:i<vs.length:=by
  have:=(List.getElem?_eq_some_iff.mp hu).1
  lia
 obtain⟨b,ns,e1,e2,e3⟩:=h.head i vs[i] a (N1 iv) ha
 obtain⟨u',hu',ru⟩:=r.get (i:=i) (x:=vs[i]) (N1 iv)
 rw[hu]at hu'
 cases hu'
 rw[e1]at ru
 cases ru
 obtain⟨z,its,n,rv,hl,e⟩:=I.sr e2
 obtain⟨w',hw,rw'⟩:=rv.get (i:=0) (x:= .int a) (by rw[NZ,e3];rfl)
 obtain⟨t,rfl⟩:=rw'
 exact⟨b,its.toArray,n,t,rfl,e,by rw[List.getElem?_toArray];exact hw⟩
theorem wg{β:Type}{A:Around}{E:Value->Shared->Prop}{prog:Program}{w:World}{S:Shared}{us:List Value}{hs:List Int}{Q:β->Shared->Prop}{k:Value->Sem β}(hu:A.in1.units<cLine)(h64:us.length<64)(hr:lX S.heap us hs)
  (q:∀h' n,(∀b o,S.heap.get? b=some o->h'.get? b=some o)->h'.get? S.heap.objs.size=some {cls:= .type "list",data:= .seq us.toArray n}->wpAny (model prog w) A (k (.ref S.heap.objs.size)) Q E {S with heap:=h'}):
  wpAny (model prog w) A (newList us>>=fun l=>holding [l] (call (.builtin "list.sort") [l])>>=fun _=>k l) Q E S:=by
 have hL:(S.heap.push (seqObj "list" us.toArray 0)).get? S.heap.objs.size=some (seqObj "list" us.toArray 0):=Heap.get?_push_size _ rfl
 refine wpAny_bind (wpAny_newList ?_)
 refine wpAny_bind (wpAny_holding (wpAny_call_entry slot_list_sort ⟨_,hL,rfl⟩ entry_list_sort (wR (s:={S with heap:=S.heap.push (seqObj "list" us.toArray 0)}) (hs:=hs) hL h64 hu (fun h' k=>?_) ⟨_,rfl,?_⟩) (args_list_sort _)))
 .exact hr.keep fun b o e=>k b o (Nat.ne_of_lt (Heap.lt_size e)) (Heap.get?_push_of_some _ e)
 .obtain⟨e,he⟩:=sortedHeap_at (vs:=us) (out:=us.toArray) (n:=0) hL
  refine q _ e (fun b o hb=>?_) he
  have hlt:=Heap.lt_size hb
  rw[sortedHeap_old (Nat.ne_of_lt hlt) (by rw[size_push'];exact Nat.lt_succ_of_lt hlt)]
  exact Heap.get?_push_of_some _ hb
theorem uk{A:Around}{E:Value->Shared->Prop}{prog:Program}{w:World}{S:Shared}{KK:Type}[DecidableEq KK]{knd:KeyKind prog w KK}{v d:Addr}{kvs:List (KK×Value)}{Q:List Value->Shared->Prop}(hh:A.handled=none)(hv:S.heap.IsValuesView v d)(hd:S.heap.DictOf knd d kvs)(hz:kvs.length<=sizeLine)
  (q:∀h' tk,(∀b o,S.heap.get? b=some o->h'.get? b=some o)->S.heap.objs.size<=h'.objs.size->Q (kvs.map (·.2)) {S with heap:=h',toks:=tk}):wpAny (model prog w) A (collect (.ref v)) Q E S:=by
 obtain⟨ep,hat⟩:=hd.dictAt
 have hS:(S.heap.push (seqObj "list" #[] 0)).get? S.heap.objs.size=some (seqObj "list" #[] 0):=Heap.get?_push_size _ rfl
 have lv:v<S.heap.objs.size:=let⟨_,e,_⟩:=hv;Heap.lt_size e
 have ld:d<S.heap.objs.size:=hat.lt_size
 have src:=W.kdl_values (prog:=prog) (w:=w) (knd:=knd) (r:=v) (d:=d) (kvs:=kvs) (ep:=ep)
 have ok:(S.heap.push (seqObj "list" #[] 0)).IsValuesView v d/\Heap.DictAt knd (S.heap.push (seqObj "list" #[] 0)) d kvs ep:=src.keep _ _ ⟨hv,hat⟩ fun b _ o e=>Heap.get?_push_of_some _ e
 unfold collect
 refine wpAny_bind (wpAny_runValue (codeAny_builtin entry_proto_collect' ?_))
 refine wpAny_bind (wpAny_newList (wpAny_pure ⟨Code.quiet_builtin _ (by decide+kernel),codeAny_builtin entry_list_iadd' ?_⟩))
 rw[Around.under_plainId (show plainId "list.__iadd__" =true by decide+kernel) _]
 refine W.kdl_extend (R:=fun r s'=>match r with
  | .ok (.ret v)=>wpAny (model prog w) A (match v with
   | .ref a=>(do
    let o←load a
    match o.data with
    | .seq xs _=>pure xs.toList
    |_=>unsupported "internal:collect")
   |_=>unsupported "internal:collect") Q E s'
  | .ok _=>False
  | .error e=>E e s') (s:={S with heap:=S.heap.push (seqObj "list" #[] 0)}) src hh ok S.heap.objs.size (Nat.ne_of_gt lv) (Nat.ne_of_gt ld) (.ref S.heap.objs.size) 0 hS (fun h' tk acc c k1 k2 hit=>?_) hz
 refine wpAny_bind (wpAny_load k2 ?_)
 have e:acc.toList=kvs.map (·.2):=W.kdl_vals_eq acc.toList (by rw[Array.length_toList];exact hit.1) fun j u hu=>hit.2 j u (by rw[←Array.getElem?_toList];exact hu)
 show wpAny _ _ (pure acc.toList) _ _ _
 rw[e]
 refine wpAny_pure (q h' tk (fun b o eb=>k1 b o (Nat.ne_of_lt (Heap.lt_size eb)) (Heap.get?_push_of_some _ eb)) (Nat.le_of_lt (Heap.lt_size k2)))
theorem KV.vals {κ:Type}{kvs:List (κ×V)}{vs:List (κ×Value)}(r:KV kvs vs):Vals (kvs.map (·.2)) (vs.map (·.2)):=by
 induction r with
 |nil=>exact .nil
 |cons h _ ih=>exact .cons h.2 ih
def Im(td:TE):TE:=fun σ H Q=>td σ H fun x H1=>∃(a:Addr)(kvs:List (Key×V))(hs:List Int),x= .ref a/\H1 a=some (.dK kvs)/\kvs.length<64/\My H1 (kvs.map (·.2)) hs/\∀l,H1 l=none->Q (.ref l) (upd H1 l (.lst (kvs.map (·.2))))
theorem vS{o:Expr}{td:TE}{p apos cpos pos:Pos}(hc:X.calm=true)(hu:X.A.units+64<cLine)(hg:Gl X "sorted")(hm:X.mg "sorted" =none)(ho:PE X o td)
  (hb:attributeBase o "values" X.env (eval o X.env)=eval o X.env:=by rfl) (hl:(apos.endLine==cpos.line)=true:=by rfl)
  (hs:starEach [.Call (.Attribute o "values" apos) [] [] cpos] X.env=[(false,eval (.Call (.Attribute o "values" apos) [] [] cpos) X.env)]:=by rfl):
  PE X (.Call (.Name "sorted" p) [.Call (.Attribute o "values" apos) [] [] cpos] [] pos) (Im td):=by
 intro pins s σ H Q I h
 refine wpAny_Call_Name_kw (kc I hg hm (by decide+kernel:bootBuiltins "sorted" =some (.builtin "sorted")) ?_ (by decide+kernel) (by decide+kernel))
 refine PyProof.Rows.callWith_builtin1 ?_ hs
 rw[hs]
 refine Calls.spliced_cons (wpAny_Call_method0_late hb hl (aW (ho pins s σ H _ I h) fun v s1 ⟨x,H1,I1,r1,a,kvs,hh,ex,ha,hz,hd,q⟩=>?_))
 subst ex
 cases r1
 obtain⟨z,hsm,vs,rel,dd⟩:=tO I1.aY ha
 have len:=rel.length
 obtain⟨h1,h2⟩:=yV (T:= "dict") I1 (show RelV (.ref a) (.ref a)from rfl) (.inr (.inr (.inl ⟨rfl,.inl ⟨kvs,ha⟩⟩)))
 refine⟨"dict","dict.values",F.plainAttrs_dict,F.slot_dict_values,F.type_dict_values,h1,h2,Calls.callWith_builtin rfl (PySem.evalArgs_none ?_)⟩
 refine call_meetsIn F.slot_dict_values dd.typeIs F.entry_dict_values (F.args_dict_values_1 _) (meets_dict_values _ a hsm) ⟨⟨vs,dd⟩,?_⟩
 refine Calls.spliced_nil ?_
 have kp:∀b ob,s1.heap.get? b=some ob->(s1.heap.push {cls:= .type "dict_values",data:= .fields #[.ref a]}).get? b=some ob:=fun b ob e=>Heap.get?_push_of_some _ e
 have dd2:(s1.heap.push {cls:= .type "dict_values",data:= .fields #[.ref a]}).DictOf (aV X.prog X.w) a vs:=by
  obtain⟨ep,hat⟩:=dd.dictAt
  exact(hat.push _).dictOf
 have ris:=(hd.rising I1 rel.vals).keep kp
 have big:(10000000:Nat)<=sizeLine:=by decide
 refine Calls.call_function_entry kind_sorted plain_sorted entry_sorted (args_sorted1 _) ?_
 unfold Builtin.«sorted»
 refine wpAny_bind (m:=checkCount "sorted" 1 1 _) (wpAny_pure ?_)
 refine wpAny_bind (uk (S:={s1 with heap:=s1.heap.push {cls:= .type "dict_values",data:= .fields #[.ref a]}}) (A:=X.A.in1) (I1.ok.hd hc) ⟨_,Heap.get?_push_size _ rfl,rfl,rfl⟩ dd2 (by lia) fun h' tk k1 k2=>?_)
 refine wg (S:={s1 with heap:=h',toks:=tk}) (hs:=hh) ?_ (by rw[NY];lia) (ris.keep k1) fun h3 n k3 k4=>?_
 .have:X.A.in1.in1.units<=X.A.units+2:=by show _<=_;first|exact Nat.le_refl _|exact Nat.le_succ _|lia
  lia
 .refine wpAny_pure ⟨_,rfl,?_⟩
  have le:s1.heap.objs.size<=h'.objs.size:=Nat.le_trans (by rw[size_push'];exact Nat.le_succ _) k2
  exact⟨.ref _,_,I1.laid (o:= .lst (kvs.map (·.2))) (t':=tk) (fun b ob e=>k3 _ _ (k1 _ _ (kp b ob e))) le ⟨by rw[NY];lia,vs.map (·.2),n,rel.vals,k4⟩,rfl,q _ (I1.aY.fresh le)⟩
def LB:V->List V->Hp->VK->Prop:=fun x vs H Q=>∃(a:Addr)(kvs:List (Key×V))(k:Key)(v:V),x= .ref a/\vs=[kV k,v]/\H a=some (.dK kvs)/\kvs.length<sizeLine/\(∀w,bZ kvs k=some w->Q w H)/\(bZ kvs k=none->Q v (upd H a (.dK (putK kvs k v))))
theorem Bo:Bm X "dict.setdefault" LB:=by
 intro pins s σ H x vs v us Q I rx rv h
 obtain⟨a,kvs,k,y,rfl,rfl,ha,hl,q1,q2⟩:=h
 cases rx
 obtain⟨u,u',rfl,ru,ru'⟩:=vals2 rv
 obtain⟨z,hd,ps,rel,dd⟩:=tO I.aY ha
 have rk:=rel.val k
 refine call_meetsIn F.slot_dict_setdefault dd.typeIs F.entry_dict_setdefault (F.args_dict_setdefault_3 _ _ _) (kt_meets_setdefault _ a (iC ru) hd u') ⟨ps,dd,by rw[←rel.length];lia,fun w hw=>?_,fun hn h' dd' hs=>?_⟩
 .rw[hw]at rk
  cases e:bZ kvs k with
  |none=>rw[e]at rk;exact absurd rk (by intro z;cases z)
  |some y'=>
   rw[e]at rk
   exact⟨y',H,I.tok _,rk,q1 y' e⟩
 .rw[hn]at rk
  have e:bZ kvs k=none:=by
   cases e:bZ kvs k with
   |none=>rfl
   |some y'=>rw[e]at rk;exact absurd rk (by intro z;cases z)
  have he:∃q,h'.get? a=some q:=let⟨q,_,_,hq,_⟩:=dd';⟨q,hq⟩
  have hl':(putK kvs k y).length<=sizeLine:=by have:=ig kvs k y;lia
  exact⟨y,_,mM I (by rw[ha];exact True.intro) hs he (uF hl' hd (rel.put k ru') dd'),ru',q2 e⟩
end
theorem Av:∀{us:List Value}{xs:List Str},StrsAre us xs->Vals (xs.map V.str) us
 |_,_,.nil=> .nil
 |_,_,.cons x t r=> .cons ⟨t,rfl⟩ (Av r)
section
variable{prog:Program}{w:World}{A:Around}{E:Value->Shared->Prop}
theorem xv{S:Shared}{T:String}{r d:Addr}{n:Nat}{P:Nat->Value->Prop}{OK:Heap->Prop}{Q:List Value->Shared->Prop}(src:W.KdlSrc prog w T r d n P OK)(hh:A.handled=none)(aY:OK S.heap)(hz:n<=sizeLine)
  (q:∀h' tk(acc:Array Value),(∀b o,S.heap.get? b=some o->h'.get? b=some o)->S.heap.objs.size<=h'.objs.size->ItemsOf P acc n->Q acc.toList {S with heap:=h',toks:=tk}):wpAny (model prog w) A (collect (.ref r)) Q E S:=by
 have hS:(S.heap.push (seqObj "list" #[] 0)).get? S.heap.objs.size=some (seqObj "list" #[] 0):=Heap.get?_push_size _ rfl
 have lt:=src.there _ aY
 have ok:OK (S.heap.push (seqObj "list" #[] 0)):=src.keep _ _ aY fun b _ o e=>Heap.get?_push_of_some _ e
 unfold collect
 refine wpAny_bind (wpAny_runValue (codeAny_builtin entry_proto_collect' ?_))
 refine wpAny_bind (wpAny_newList (wpAny_pure ⟨Code.quiet_builtin _ (by decide+kernel),codeAny_builtin entry_list_iadd' ?_⟩))
 rw[Around.under_plainId (show plainId "list.__iadd__" =true by decide+kernel) _]
 refine W.kdl_extend (R:=fun r s'=>match r with
  | .ok (.ret v)=>wpAny (model prog w) A (match v with
   | .ref a=>(do
    let o←load a
    match o.data with
    | .seq xs _=>pure xs.toList
    |_=>unsupported "internal:collect")
   |_=>unsupported "internal:collect") Q E s'
  | .ok _=>False
  | .error e=>E e s') (s:={S with heap:=S.heap.push (seqObj "list" #[] 0)}) src hh ok S.heap.objs.size (Nat.ne_of_gt lt.1) (Nat.ne_of_gt lt.2) (.ref S.heap.objs.size) 0 hS (fun h' tk acc c k1 k2 hit=>?_) hz
 refine wpAny_bind (wpAny_load k2 ?_)
 exact wpAny_pure (q h' tk acc (fun b o eb=>k1 b o (Nat.ne_of_lt (Heap.lt_size eb)) (Heap.get?_push_of_some _ eb)) (Nat.le_of_lt (Heap.lt_size k2)) hit)
theorem uY{β:Type}{S:Shared}{us:List Value}{xs:List Str}{Q:β->Shared->Prop}{k:Value->Sem β}(h64:us.length<64)(hr:StrsAre us xs)
  (q:∀(out:List Value)(xs':List Str),StrsAre out xs'->xs'.Perm xs->sortedS xs'=true->∀h' n,(∀b o,S.heap.get? b=some o->h'.get? b=some o)->h'.get? S.heap.objs.size=some {cls:= .type "list",data:= .seq out.toArray n}->wpAny (model prog w) A (k (.ref S.heap.objs.size)) Q E {S with heap:=h'}):
  wpAny (model prog w) A (newList us>>=fun l=>holding [l] (call (.builtin "list.sort") [l])>>=fun _=>k l) Q E S:=by
 have hL:(S.heap.push (seqObj "list" us.toArray 0)).get? S.heap.objs.size=some (seqObj "list" us.toArray 0):=Heap.get?_push_size _ rfl
 refine wpAny_bind (wpAny_newList ?_)
 refine wpAny_bind (wpAny_holding (wpAny_call_entry slot_list_sort ⟨_,hL,rfl⟩ entry_list_sort (list_sort_treeK (s:={S with heap:=S.heap.push (seqObj "list" us.toArray 0)}) strKind_oneLt hL hr.keysOf (fun v₁ v₂ rest e=>keyKind_strs (by rw[←e];exact hr)) h64 fun st' hp hs=>⟨_,rfl,?_⟩) (args_list_sort _)))
 obtain⟨xs',h1,h2,h3⟩:=sorted_out_str hr hp hs
 obtain⟨e,he⟩:=sortedHeap_at (vs:=us) (out:=(arrOf st').map (·.2)) (n:=0) hL
 refine q ((arrOf st').map (·.2)).toList xs' h1 h2 h3 _ e (fun b o hb=>?_) (by rw[Array.toArray_toList];exact he)
 have hlt:=Heap.lt_size hb
 rw[sortedHeap_old (Nat.ne_of_lt hlt) (by rw[size_push'];exact Nat.lt_succ_of_lt hlt)]
 exact Heap.get?_push_of_some _ hb
end
section
variable{X:Cx}{K:W.Frag}
def Jb:List V->Hp->VK->Prop:=fun xs H Q=>∃(a:Addr)(kvs:List (Key×V))(ks:List Str),xs=[.ref a]/\H a=some (.dK kvs)/\kvs.map (·.1)=ks.map Sum.inr/\kvs.length<64/\∀(l:Addr)(ks':List Str),H l=none->ks'.Perm ks->sortedS ks'=true->Q (.ref l) (upd H l (.lst (ks'.map V.str)))
theorem uW(hc:X.calm=true):cq X (.builtin "sorted") Jb:=by
 intro pins s σ H xs us Q I r h
 obtain⟨a,kvs,ks,rfl,ha,hk,hz,q⟩:=h
 obtain⟨u,rfl,ru⟩:=vals1 r
 cases ru
 obtain⟨z,hd,vs,rel,dd⟩:=tO I.aY ha
 have len:=rel.length
 have big:(10000000:Nat)<=sizeLine:=by decide
 obtain⟨ep,hat⟩:=dd.dictAt
 have ek:vs.map (·.1)=ks.map Sum.inr:=by rw[←hk];exact rel.keys.symm
 refine Calls.call_function_entry kind_sorted plain_sorted entry_sorted (args_sorted1 _) ?_
 unfold Builtin.«sorted»
 refine wpAny_bind (m:=checkCount "sorted" 1 1 _) (wpAny_pure ?_)
 refine wpAny_bind (xv (A:=X.A.in1) (W.kdl_dict (prog:=X.prog) (w:=X.w) (knd:=aV X.prog X.w) (d:=a) (kvs:=vs) (ep:=ep) hd) (I.ok.hd hc) hat (by lia) fun h' tk acc k1 le it=>?_)
 have sa:StrsAre acc.toList ks:=by
  have hl:acc.toList.length=ks.length:=by
   have e1:=congrArg List.length ek
   simp only[NY]at e1
   rw[Array.length_toList,it.1,e1]
  have hj:∀(j:Nat)(v:Value),acc.toList[j]?=some v->∃(k:Str)(t:Tok),ks[j]?=some k/\v= .str k t:=fun j v hv=>by
   obtain⟨k,x,e1,e2⟩:=it.2 j v (by rw[←Array.getElem?_toList];exact hv)
   have e3:(vs.map (·.1))[j]?=some k:=by rw[NZ,e1];rfl
   rw[ek,NZ]at e3
   cases e4:ks[j]? with
   |none=>rw[e4]at e3;cases e3
   |some y=>
    rw[e4]at e3
    cases e3
    rcases bR (show qt (Sum.inr y) v=true from e2)with⟨i,t,e5,e6⟩|⟨y',t,e5,e6⟩
    .exact nomatch e5
    .cases e5
     exact⟨_,t,rfl,e6⟩
  clear q hk ek ha it
  revert hl hj
  generalize acc.toList=l
  intro hl hj
  induction l generalizing ks with
  |nil=>cases ks with
   |nil=>exact .nil
   |cons _ _=>cases hl
  |cons v l ih=>cases ks with
   |nil=>cases hl
   |cons k ks=>
    obtain⟨k',t,e1,e2⟩:=hj 0 v rfl
    cases e1
    subst e2
    exact .cons k t (ih ks (by simpa using hl) fun j v hv=>hj (j+1) v hv)
 refine uY (S:={s with heap:=h',toks:=tk}) (by rw[Array.length_toList,it.1];lia) sa fun out ks' h1 h2 h3 h4 n k2 k3=>?_
 refine wpAny_pure ⟨_,rfl,?_⟩
 have pl:=h2.length_eq
 have e1:=congrArg List.length hk
 simp only[NY]at e1
 exact⟨.ref _,_,I.laid (o:= .lst (ks'.map V.str)) (t':=tk) (fun b ob e=>k2 _ _ (k1 _ _ e)) le ⟨by rw[NY];lia,out,n,Av h1,k3⟩,rfl,q _ ks' (I.aY.fresh le) h2 h3⟩
end
def mem(s:Stmt)(j:Nat):Stmt:=match s with
 | .ClassDef _ _ _ body .. =>body.getD j (.Pass ⟨0,0,0,0⟩)
 |_=> .Pass ⟨0,0,0,0⟩
structure MethAt(P:Program)(w:World)(K:W.Frag)(mg:Str->Option Value)(base:Heap)(CX:sf)(C:Addr)(m:Str)(k:Nat)(ps:List Str)(sp:Sp):Prop where
 cls:Bg K C
 ex:∃(f:Addr)(fd:FuncData),Meth K C m f/\aR P w K mg base CX k f fd ps sp/\Binds K fd ps []
structure Ez(P:Program)(w:World)(K:W.Frag)(mg:Str->Option Value)(base:Heap)(C:Addr)(x:Str)(k:Nat)(ps:List Str)(sp:Sp):Prop where
 at_:mg x=some (.ref C)
 ex:∃(f:Addr)(fd:FuncData),Mk K C f/\aR P w K mg base hZ k f fd ps sp/\Binds K fd ps []
section
variable{X:Cx}{K:W.Frag}{x m f:Str}{k:Nat}{C:Addr}{ps:List Str}{sp:Sp}{e o value:Expr}{es:List Expr}{t:TA}{ta tv:TE}{p pos apos pos':Pos}
theorem iW(hK:X.K=K)(he:PE X e ta)(hb:attributeBase e f X.env (eval e X.env)=eval e X.env:=by rfl):PE X (.Attribute e f pos) (LA K ta f):=by
 subst hK
 exact JX he hb
theorem AJ(hK:X.K=K)(ha:PE X o ta)(hv:PE X value tv)(hs:swapsWith value (some (.Attribute o f pos')) pos.line X.env=pure false:=by rfl):PS X (.Assign [.Attribute o f pos'] value pos) (LR K ta tv f):=by
 subst hK
 exact Jn ha hv hs
theorem AY{E:XK}{pl:Sem Bool}(F:MethAt X.prog X.w X.K X.mg X.base (jG X.prog X.w) C m k ps sp)(hx:Passes (jG X.prog X.w) X E)(hr:cK k X.A)(he:PE X o ta)(ha:PA X (e::es) t)
  (hst:starEach (e::es) X.env=(false,eval e X.env)::starEach es X.env:=by rfl) (hpl:(backTo pos (starEach es X.env)).any (·.1)=false:=by rfl)
  (ht:eval (.Call (.Attribute o m apos) (e::es) [] pos) X.env=(do
   let ov←eval o X.env
   standAt apos.atName
   let(f,first)←holding [ov] (getMethod ov m pl)
   callWith pos f first (backTo pos (starEach (e::es) X.env)) (backToKw pos (keywordEach [] X.env))):=by rfl):
  PE X (.Call (.Attribute o m apos) (e::es) [] pos) (Hq C m sp [] E ta t):=by
 obtain⟨f,fd,hm,F',hb⟩:=F.ex
 exact Gm he F.cls hm F' hr hb .nil hx ha hst hpl ht
def IJ(C:Addr)(m:Str)(sp:Sp)(Es:St->XK)(ta:TE)(t:TA):TE:=fun σ H Q=>ta σ H fun x H1=>∃a dx fs,x= .ref a/\H1 a=some (.ins C dx fs)/\fs.lookup m=none/\t σ H1 fun vs H2=>sp (x::vs) H2 Q (Es σ)
theorem AS{pins:List (Addr×Obj)}{Es:St->XK}{pl:Sem Bool}(F:MethAt X.prog X.w X.K X.mg X.base (jG X.prog X.w) C m k ps sp)(hr:cK k X.A)(he:PE (Xt X pins Es) o ta)(ha:PA (Xt X pins Es) (e::es) t)
  (hst:starEach (e::es) X.env=(false,eval e X.env)::starEach es X.env:=by rfl) (hpl:(backTo pos (starEach es X.env)).any (·.1)=false:=by rfl)
  (ht:eval (.Call (.Attribute o m apos) (e::es) [] pos) X.env=(do
   let ov←eval o X.env
   standAt apos.atName
   let(f,first)←holding [ov] (getMethod ov m pl)
   callWith pos f first (backTo pos (starEach (e::es) X.env)) (backToKw pos (keywordEach [] X.env))):=by rfl):
  PE (Xt X pins Es) (.Call (.Attribute o m apos) (e::es) [] pos) (IJ C m sp Es ta t):=by
 obtain⟨g,fd,hm,F',hb⟩:=F.ex
 have c:=F.cls
 intro pins' s σ H Q I h
 refine W.methodCall_KW (pl:=pl) (aW (he pins' s σ H _ I h) fun u s1 ⟨y,H1,I1,rx,a,dx,fs,ex,ea,l,q⟩=>?_) ht
 subst ex
 obtain rfl:u=Value.ref a:=rx
 refine lU I1 ea c hm l ?_
 refine W.callWith_K (first:=[.ref a]) (h₀:=X.base) I.ok.mod.ET hm.kp (aW (ha pos pins' s1 σ H1 _ I1 q) fun us s2 ⟨vs,H2,I2,r,q2⟩=>⟨I2.kU,?_⟩) hst hpl
 have r2:Vals (V.ref a::vs) (Value.ref a::us):= .cons rfl r
 have hl:(Value.ref a::us).length=ps.length:=by rw[←r2.length];exact F'.len _ _ _ _ q2
 have bb:=hb s2 (Value.ref a::us) I2.kU (by rw[List.append_nil];exact hl)
 rw[List.append_nil]at bb
 refine wpAny_call (codeAny_mono (F'.run X.A X.stack s2 H2 ⟨Value.ref a::us,[]⟩ (Value.ref a::us) (V.ref a::vs) Q (Es σ) hr I2.pG bb r2 q2) fun r s' hq=>?_)
 cases r with
 |error ev=>exact⟨σ,H2,s2,I2.ofT,hq⟩
 |ok fl=>
  cases fl with
  |ret u=>exact I2.after hq
  |next=>exact False.elim hq
  |brk=>exact False.elim hq
  |cont=>exact False.elim hq
def Gh(i:Nat)(Fam:Addr->Sp->Prop)(E:XK)(t:TA):TE:=fun σ H Q=>∃f sp,σ[i]?=some (some (.ref f))/\Fam f sp/\t σ H fun vs H1=>sp vs H1 Q E
theorem we(F:Ez X.prog X.w X.K X.mg X.base C x k ps sp)(hr:cK (k+1) X.A)(hg:Gl X x)(ha:PA X (e::es) t)(hdb:(x==("__debug__" :Str))=false:=by decide+kernel)(he:starEach (e::es) X.env=(false,eval e X.env)::starEach es X.env:=by rfl)(hpl:(backTo pos (starEach es X.env)).any (·.1)=false:=by rfl):
  PE X (.Call (.Name x p) (e::es) [] pos) (HZ C sp [] E0 t):=by
 obtain⟨g,fd,M,F',hb⟩:=F.ex
 exact FE M F' hr hg F.at_ hb .nil Hf ha hdb he hpl
end
end L2
namespace Sw
open PySem L2
def df(H:Hp)(v:V)(R:List (Int×Int)):Prop:=∃(l:Addr)(es:List V),v= .ref l/\H l=some (.lst es)/\dB H es R
theorem df.same {H H':Hp}{v:V}{R:List (Int×Int)}(h:df H v R)(s:ag H H'):df H' v R:=by
 obtain⟨l,es,e,h1,h2⟩:=h
 exact⟨l,es,e,s _ _ h1,h2.keep fun b xs e=>s _ _ e⟩
abbrev Kept:=List (Str×List (Int×Int))
def rowOf(m:Kept)(x:Str):Option (List (Int×Int)):=(m.find? fun p=>p.1=x).map (·.2)
def bj(H:Hp)(kvs:List (Key×V))(m:Kept):Prop:=Paired (fun(p:Key×V)(q:Str×List (Int×Int))=>p.1=Sum.inr q.1/\df H p.2 q.2) kvs m
theorem bj.same {H H':Hp}{kvs:List (Key×V)}{m:Kept}(h:bj H kvs m)(s:ag H H'):bj H' kvs m:=Paired.yn h fun _ _ z=>⟨z.1,z.2.same s⟩
theorem bj.get {H:Hp}:∀{kvs:List (Key×V)}{m:Kept},bj H kvs m->∀x:Str,(rowOf m x=none/\bZ kvs (Sum.inr x:Key)=none)\/∃R v,rowOf m x=some R/\bZ kvs (Sum.inr x:Key)=some v/\df H v R
 |_,_,.nil,x=> .inl ⟨rfl,rfl⟩
 |_,_,.cons (a:=p) (b:=q) (l₁:=kvs) (l₂:=m) h r,x=>by
  by_cases c:q.1=x
  .refine .inr ⟨q.2,p.2,?_,?_,h.2⟩
   .unfold rowOf
    rw[List.find?_cons_of_pos (by simpa using c)]
    rfl
   .unfold bZ
    rw[List.find?_cons_of_pos (by rw[h.1,c];simp)]
    rfl
  .have e1:rowOf (q::m) x=rowOf m x:=by
    unfold rowOf
    rw[List.find?_cons_of_neg (by simpa using c)]
   have e2:bZ (p::kvs) (Sum.inr x:Key)=bZ kvs (Sum.inr x:Key):=by
    unfold bZ
    rw[List.find?_cons_of_neg (by rw[h.1];simpa using c)]
   rw[e1,e2]
   exact bj.get r x
theorem bj.keys {H:Hp}:∀{kvs:List (Key×V)}{m:Kept},bj H kvs m->kvs.map (·.1)=(m.map (·.1)).map Sum.inr
 |_,_,.nil=>rfl
 |_,_,.cons h r=>by rw[N4,N4,N4,h.1,bj.keys r]
structure Kz(fs:List (Str×V))(n:Int)(d:Addr):Prop where
 len:fs.length<=10
 n_:fs.lookup ("n" :Str)=some (V.int n)
 kept:fs.lookup ("kept" :Str)=some (V.ref d)
 IZ:fs.lookup ("row_of" :Str)=none
 say:fs.lookup ("say" :Str)=none
def bW(C:Addr)(H:Hp)(a d:Addr)(n:Int)(m:Kept):Prop:=∃(dx:Addr)(fs:List (Str×V))(kvs:List (Key×V)),H a=some (HO.ins C dx fs)/\Kz fs n d/\H d=some (.dK kvs)/\d≠a/\bj H kvs m/\m.length<=1000
structure zH(K:W.Frag)(C:Addr):Prop where
 cls:Bg K C
 JG:jU K C "n"
 i3:jU K C "kept"
def zW(C CN:Addr):Sp:=fun vs H Q E=>∃(a d:Addr)(x:Str)(n:Int)(m:Kept),vs=[.ref a,.str x]/\bW C H a d n m/\(rowOf m x=none->E (.ref CN) none H)/\∀R v,rowOf m x=some R->df H v R->Q v H
structure M8(mg:Str->Option Value)(K:W.Frag)(C CN:Addr):Prop extends zH K C where
 ki:mg "NoName" =some (.ref CN)
 wV:iH K CN
section
variable{P:Program}{w:World}{K:W.Frag}{mg:Str->Option Value}{base:Heap}{C CN:Addr}
theorem qU:az ["self","name"] ["self","name"] (ar (mem (top 114) 1)):=⟨rfl,rfl,rfl,by decide+kernel,rfl,by decide+kernel,by decide+kernel⟩
theorem CZ{f:Addr}{fd:FuncData}(F:dh K "row_of" "Desk.row_of" (mem (top 114) 1) f fd)(T:M8 mg K C CN):aR P w K mg base (jG P w) 1 f fd ["self","name"] (zW C CN):=by
 refine F.Be qU (fun vs H Q E h=>?_) (fun cdv A outer s H vs Q E hr h=>?_)
 .obtain⟨a,d,x,n,m,rfl,_⟩:=h
  rfl
 .obtain⟨a,d,x,n,m,rfl,hd,kN,kY⟩:=h
  have hu:=o9 hr
  refine⟨_,(ah (bt (rh (BN hu (pv 1) (iW (K:=K) rfl (pv 0)))) (ai (cJ pH T.wV rfl rfl T.ki (aa aw af))) aE)
   (ai (aA (mW hu (iW (K:=K) rfl (pv 0)) (pv 1) (fun _ _=>rfl))))),?_⟩
  obtain⟨dx,fs,kvs,ha,hf,hkd,_,km,_⟩:=hd
  have one:1<=sizeLine:=by decide
  rcases km.get x with⟨e1,e2⟩|⟨R,v,e1,e2,e3⟩
  .have g:c8 H d (kV (.inr x)) none:=by rw[←e2];exact c8.k hkd
   exact⟨_,rfl,_,rfl,a,C,dx,fs,_,rfl,ha,T.cls,T.i3,hf.kept,d,none,rfl,g,_,rfl,by
    simp only[Option.isSome_none,Bool.not_false,if_true]
    exact⟨one,kN e1⟩⟩
  .have g:c8 H d (kV (.inr x)) (some v):=by rw[←e2];exact c8.k hkd
   exact⟨_,rfl,_,rfl,a,C,dx,fs,_,rfl,ha,T.cls,T.i3,hf.kept,d,some v,rfl,g,_,rfl,by
    dsimp only[Option.isSome_some,Bool.not_true]
    rw[if_neg (by decide)]
    exact⟨_,rfl,a,C,dx,fs,_,rfl,ha,T.cls,T.i3,hf.kept,_,rfl,d,v,rfl,g,kY R v e1 e3⟩⟩
theorem oE:az ["self","n"] ["self","n"] (ar (mem (top 114) 0)):=⟨rfl,rfl,rfl,by decide+kernel,rfl,by decide+kernel,by decide+kernel⟩
def D3(C:Addr):Sp:=fun vs H Q _=>∃(a dx:Addr)(n:Int),vs=[.ref a,.int n]/\H a=some (HO.ins C dx [])/\H dx=some (.own a)/\dx≠a/\∀d H',H d=none->d≠a->bW C H' a d n []->(∀b o,b≠a->H b=some o->H' b=some o)->Q .cP H'
theorem FP{f:Addr}{fd:FuncData}(F:dh K "__init__" "Desk.__init__" (mem (top 114) 0) f fd)(T:zH K C):aR P w K mg base hZ 1 f fd ["self","n"] (D3 C):=by
 refine F.ok oE (fun vs H Q E h=>?_) (fun cdv A outer s H vs Q E hr h=>?_)
 .obtain⟨a,dx,n,rfl,_⟩:=h
  rfl
 .obtain⟨a,dx,n,rfl,ha,hdx,ne,k⟩:=h
  have hu:=o9 hr
  refine⟨_,(ah (AJ (K:=K) rfl (pv 0) (pv 1))
   (ai (AJ (K:=K) rfl (pv 0) mP))),?_⟩
  refine⟨_,rfl,_,rfl,a,C,dx,[],rfl,ha,T.cls,T.JG,(by decide:(0:Nat)<1000),fun d fd=>?_⟩
  have da:d≠a:=fun e=>by rw[e,ae]at fd;cases fd
  rw[ao da]at fd
  have e1:upd (upd H a (HO.ins C dx (jI (NX "n") (V.int n) []))) d (HO.dK []) a=some (HO.ins C dx (jI (NX "n") (V.int n) [])):=by rw[ao (Ne.symm da),ae]
  refine⟨_,rfl,a,C,dx,_,rfl,e1,T.cls,T.i3,(by decide:(1:Nat)<1000),?_⟩
  refine k d _ fd da ⟨dx,_,[],ae,⟨(by decide:(2:Nat)<=10),rfl,rfl,rfl,rfl⟩,by rw[ao da,ae],da,.nil,Nat.zero_le _⟩ fun b o hb e=>?_
  have bd:b≠d:=fun z=>by rw[z,fd]at e;cases e
  rw[ao hb,ao bd,ao hb]
  exact e
end
end Sw
namespace L2
open PySem PySem.Spec PyProof.Rows
section
variable{M:Model}{A:Around}{α:Type}{t:Sem α}{Q:α->Shared->Prop}{E:Value->Shared->Prop}{s:Shared}
theorem jF(hn:0<s.toks)(h:wpAny M A t Q E s):wpAny M A t (fun a s'=>0<s'.toks/\Q a s') E s:=wpAny_mono (wpAny_toks_of (n:=1) hn h) (fun _ _ x=>x) fun _ _ x=>x.2
end
def QE(X:Cx)(e:Expr)(t:TE):Prop:=
 ∀(pins:List (Addr×Obj))(s:Shared)(σ:St)(H:Hp)(Q:VK),0<s.toks->Inv X pins σ H s->t σ H Q->wpAny (model X.prog X.w) X.A (eval e X.env) (EP X pins σ Q) X.xe s
def QA(X:Cx)(es:List Expr)(t:TA):Prop:=
 ∀(pos:Pos)(pins:List (Addr×Obj))(s:Shared)(σ:St)(H:Hp)(Q:List V->Hp->Prop),0<s.toks->Inv X pins σ H s->t σ H Q->wpAny (model X.prog X.w) X.A (spliced (backTo pos (starEach es X.env))) (AP X pins σ Q) X.xe s
def QS(X:Cx)(st:Stmt)(t:TS):Prop:=
 ∀(pins:List (Addr×Obj))(s:Shared)(σ:St)(H:Hp)(D:Ends),0<s.toks->Inv X pins σ H s->t D σ H->wpAny (model X.prog X.w) X.A (exec st X.env) (SP X pins D) X.xe s
def ya(X:Cx)(st:List Stmt)(t:TS):Prop:=
 ∀(pins:List (Addr×Obj))(s:Shared)(σ:St)(H:Hp)(D:Ends),0<s.toks->Inv X pins σ H s->t D σ H->wpAny (model X.prog X.w) X.A (execs st X.env) (SP X pins D) X.xe s
def LE(X:Cx)(e:Expr)(t:TE):Prop:=
 ∀(pins:List (Addr×Obj))(s:Shared)(σ:St)(H:Hp)(Q:VK),Inv X pins σ H s->t σ H Q->wpAny (model X.prog X.w) X.A (eval e X.env) (fun u s'=>0<s'.toks/\EP X pins σ Q u s') X.xe s
def LT(X:Cx)(e:Expr)(t:TT):Prop:=
 ∀(pins:List (Addr×Obj))(s:Shared)(σ:St)(H:Hp)(Q:Bool->Hp->Prop),Inv X pins σ H s->t σ H Q->wpAny (model X.prog X.w) X.A (isTrue e X.env (eval e X.env)) (fun b s'=>0<s'.toks/\TP X pins σ Q b s') X.xe s
def LS(X:Cx)(st:Stmt)(t:TS):Prop:=
 ∀(pins:List (Addr×Obj))(s:Shared)(σ:St)(H:Hp)(D:Ends),Inv X pins σ H s->t D σ H->wpAny (model X.prog X.w) X.A (exec st X.env) (fun f s'=>0<s'.toks/\SP X pins D f s') X.xe s
section
variable{X:Cx}{e a b:Expr}{es:List Expr}{st:Stmt}{rest:List Stmt}{te ta tb:TE}{tx:TA}{t u:TS}{pos:Pos}
theorem QE.of (h:PE X e te):QE X e te:=fun pins s σ H Q _ I q=>h pins s σ H Q I q
theorem QA.of (h:PA X es tx):QA X es tx:=fun pos pins s σ H Q _ I q=>h pos pins s σ H Q I q
theorem QS.of (h:PS X st t):QS X st t:=fun pins s σ H D _ I q=>h pins s σ H D I q
theorem ya.of (h:tT X rest t):ya X rest t:=fun pins s σ H D _ I q=>h pins s σ H D I q
theorem le_str{x j}:LE X (.Constant (.str x) j pos) (tC (.str x)):=fun _ s _ H _ I h=>Calls.Constant_str ⟨Nat.succ_pos _,.str x,H,I.tok _,⟨_,rfl⟩,h⟩
theorem le_int{i j}:LE X (.Constant (.int i) j pos) (tC (.int i)):=fun _ s _ H _ I h=>wpAny_Constant_int ⟨Nat.succ_pos _,.int i,H,I.tok _,⟨_,rfl⟩,h⟩
theorem Ku{r:R2}(hr:Kl X r)(ha:PE X a ta)(hb:LE X b tb)(hs:AG b):LE X (.Subscript a b pos) (zE r ta tb):=by
 intro pins s σ H Q I h
 refine Subscript_ ?_
 refine aW (ha pins s σ H _ I h) fun v s1 ⟨x,H1,I1,r1,q1⟩=>?_
 refine aW (hb pins s1 σ H1 _ I1 q1) fun u s2 ⟨tk,y,H2,I2,r2,q2⟩=>?_
 exact jF tk (hr a b pins s2 σ H2 x y v u Q I2 r1 r2 q2 (hs _ _))
theorem Fy{op:CmpOp}{r:R2}(ho:lg X (compareOp op) r)(ha:PE X a ta)(hb:LE X b tb)(hm:behindInMarks op b=false):LT X (.Compare a [op] [b] pos) (CI (zE r ta tb)):=by
 intro pins s σ H Q I h
 refine wpAny_isTrue_Compare1 (aW (ha pins s σ H _ I h) fun v s1 ⟨x,H1,I1,r1,q1⟩=>aW (hb pins s1 σ H1 _ I1 q1) fun u s2 ⟨tk,y,H2,I2,r2,q2⟩=>
  aW (jF tk (ho pins s2 σ H2 x y v u _ I2 r1 r2 q2)) fun c s3 ⟨tk3,z,H3,I3,r3,k,e,q3⟩=>?_) hm
 subst e
 cases r3
 exact wpAny_truthy_bool ⟨tk3,H3,I3,q3⟩
theorem KU{c:Expr}{x y:List Stmt}{tc:TT}(hc:LT X c tc)(ha:tT X x t)(hb:tT X y u):LS X (.If c x y pos) (Ed tc t u):=by
 intro pins s σ H D I h
 refine wpAny_If (aW (hc pins s σ H _ I h) fun d s1 ⟨tk,H1,I1,q1⟩=>?_)
 cases d with
 |true=>exact jF tk (ha pins s1 σ H1 D I1 q1)
 |false=>exact jF tk (hb pins s1 σ H1 D I1 q1)
theorem Jz{i:Nat}{x:Str}{pos':Pos}(hN:X.N.Nodup)(hi:X.N[i]?=some x)(hx:Loc X.env.scope x)(he:LE X e te)(hs:swapsWith e (some (.Name x pos')) pos.line X.env=pure false:=by rfl)(hf:X.fn x=true\/X.env.scope.names.lookup x=some .local:=by first|exact .inl rfl|exact .inr rfl|assumption):
  LS X (.Assign [.Name x pos'] e pos) (yt te (cF i)):=by
 intro pins s σ H D I h
 refine wpAny_Assign_Name (aW (he pins s σ H _ I h) fun v s1 ⟨tk,y,H1,I1,r1,q1⟩=>?_) hs
 exact jF tk (gL I1 hN hi hx r1 (fun s2 I2=>⟨_,H1,I2,q1⟩) hf)
theorem tE(h1:LS X st t)(h2:ya X rest u):tT X (st::rest) (DJ t u):=by
 intro pins s σ H D I h
 refine wpAny_execs_cons (aW (h1 pins s σ H {D with nx:=u D} I h) fun f s1 ⟨tk,q⟩=>?_)
 cases f with
 |next=>
  obtain⟨σ',H',I',q⟩:=q
  exact h2 pins s1 σ' H' D tk I' q
 |ret v=>exact q
 |brk=>exact q
 |cont=>exact q
theorem di(h1:QS X st t)(h2:ya X rest u):ya X (st::rest) (DJ t u):=by
 intro pins s σ H D tk I h
 refine wpAny_execs_cons (aW (jF tk (h1 pins s σ H {D with nx:=u D} tk I h)) fun f s1 ⟨tk1,q⟩=>?_)
 cases f with
 |next=>
  obtain⟨σ',H',I',q⟩:=q
  exact h2 pins s1 σ' H' D tk1 I' q
 |ret v=>exact q
 |brk=>exact q
 |cont=>exact q
theorem mH(h1:QS X st t):ya X [st] t:=by
 intro pins s σ H D tk I h
 refine wpAny_execs_cons (aW (h1 pins s σ H D tk I h) fun f s1 q=>?_)
 cases f with
 |next=>exact wpAny_execs_nil q
 |ret v=>exact q
 |brk=>exact q
 |cont=>exact q
theorem qu(he:QE X e te):QS X (.Return (some e) pos) (FH te):=by
 intro pins s σ H D tk I h
 exact wpAny_Return_some (aW (he pins s σ H _ tk I h) fun v s1 ⟨x,H1,I1,r1,q1⟩=>⟨x,σ,H1,I1,r1,q1⟩)
theorem CJ{c:Expr}{x y:List Stmt}{tc:TT}(hc:PT X c tc)(ha:ya X x t)(hb:ya X y u):QS X (.If c x y pos) (Ed tc t u):=by
 intro pins s σ H D tk I h
 refine wpAny_If (aW (jF tk (hc pins s σ H _ I h)) fun d s1 ⟨tk1,H1,I1,q1⟩=>?_)
 cases d with
 |true=>exact ha pins s1 σ H1 D tk1 I1 q1
 |false=>exact hb pins s1 σ H1 D tk1 I1 q1
theorem IL{i:Nat}{x:Str}{pos':Pos}(hN:X.N.Nodup)(hi:X.N[i]?=some x)(hx:Loc X.env.scope x)(he:QE X e te)(hs:swapsWith e (some (.Name x pos')) pos.line X.env=pure false:=by rfl)(hf:X.fn x=true\/X.env.scope.names.lookup x=some .local:=by first|exact .inl rfl|exact .inr rfl|assumption):
  QS X (.Assign [.Name x pos'] e pos) (yt te (cF i)):=by
 intro pins s σ H D tk I h
 refine wpAny_Assign_Name (aW (he pins s σ H _ tk I h) fun v s1 ⟨y,H1,I1,r1,q1⟩=>?_) hs
 exact gL I1 hN hi hx r1 (fun s2 I2=>⟨_,H1,I2,q1⟩) hf
theorem uA:QA X [] u6:=QA.of af
theorem nv(ha:QE X e te)(hr:QA X es tx)(hs:starEach (e::es) X.env=(false,eval e X.env)::starEach es X.env:=by rfl):QA X (e::es) (kj te tx):=by
 intro pos pins s σ H Q tk I h
 rw[hs]
 show wpAny _ _ (spliced ((false,eval e X.env)::backTo pos (starEach es X.env))) _ _ s
 refine Calls.spliced_cons (aW (jF tk (ha pins s σ H _ tk I h)) fun u s1 ⟨tk1,x,H1,I1,r1,q1⟩=>?_)
 exact aW (hr pos pins s1 σ H1 _ tk1 I1 q1) fun us s2 ⟨xs,H2,I2,r2,q2⟩=>⟨x::xs,H2,I2,.cons r1 r2,q2⟩
def Ll(y z:Str)(to:TE):TE:=fun σ H Q=>to σ H fun x H1=>∃t,x= .str t/\t.length<=100000/\Q (.str (Txt.replace t y z)) H1
theorem uT{o:Expr}{y z:Str}{to:TE}{ky kz:Nat}{py pz apos cpos:Pos}(hyz:(y==z)=false)(hz:z.length<=100)(ho:QE X o to)(m:M2 X o "replace" apos (.Constant (.str y) ky py) (.Constant (.str z) kz pz) cpos):
  QE X (.Call (.Attribute o "replace" apos) [.Constant (.str y) ky py,.Constant (.str z) kz pz] [] cpos) (Ll y z to):=by
 intro pins s σ H Q tk I h
 refine wpAny_Call_method m.base m.MU m.line PySem.F.plainAttrs_str PySem.F.slot_str_replace PySem.F.type_str_replace (aW (jF tk (ho pins s σ H _ tk I h)) fun u s1 ⟨tk1,x,H1,I1,rx,t,ex,tl,q1⟩=>?_)
 subst ex
 obtain⟨t0,rfl⟩:=rx
 refine⟨typeIs_str _ _ _,by simp,?_⟩
 rw[m.trees]
 refine Calls.callWith_builtin rfl (Calls.evalArgs_plain (Calls.spliced_cons (Calls.Constant_str (Calls.spliced_cons (Calls.Constant_str (Calls.spliced_nil ?_))))))
 refine SC.replace (Nat.ne_of_gt tk1) (by exact Nat.succ_ne_zero _) (by exact(Nat.succ_ne_self _).symm) hyz ?_ (fun t' k=>⟨.str _,H1,(I1.tok _),⟨_,rfl⟩,q1⟩)
 have:(t.length+1)*z.length<=100001*100:=Nat.mul_le_mul (by lia) hz
 lia
end
structure iB(P:Program)(w:World)(K:W.Frag)(mg:Str->Option Value)(base:Heap)(CX:sf)(k:Nat)(f:Addr)(fd:FuncData)(ps:List Str)(sp:Sp):Prop where
 len:∀vs H Q E,sp vs H Q E->vs.length=ps.length
 run:∀(A:Around)(outer:List Env)(s:Shared)(H:Hp)(args:Args)(us:List Value)(vs:List V)(Q:VK)(E:XK),0<s.toks->cK k A->xn P w K mg base A outer s H->BindsTo s fd args (ps.zip us)->Vals vs us->sp vs H Q E->
  codeAny (model P w) A (.call (.ref f) args) (CR CX outer P w H s Q E) s
theorem aR.toQ {P:Program}{w:World}{K:W.Frag}{mg:Str->Option Value}{base:Heap}{CX:sf}{k:Nat}{f:Addr}{fd:FuncData}{ps:List Str}{sp:Sp}(F:aR P w K mg base CX k f fd ps sp):iB P w K mg base CX k f fd ps sp:=
 ⟨F.len,fun A outer s H args us vs Q E _=>F.run A outer s H args us vs Q E⟩
theorem iB.mono {P:Program}{w:World}{K:W.Frag}{mg:Str->Option Value}{base:Heap}{CX:sf}{j k:Nat}{f:Addr}{fd:FuncData}{ps:List Str}{sp:Sp}(F:iB P w K mg base CX j f fd ps sp)(h:j<=k):
  iB P w K mg base CX k f fd ps sp:=⟨F.len,fun A outer s H args us vs Q E tk hr=>F.run A outer s H args us vs Q E tk (hr.mono h)⟩
theorem JD{CX:sf}{P:Program}{w:World}{K:W.Frag}{mg:Str->Option Value}{base:Heap}{k:Nat}{f:Addr}{name qual:Str}{params:Arguments}{body:List Stmt}{scope:Scope}{dV kV doc pm cdv ct oc:Value}{an od:Option Addr}
  {osl:Array (Option Value)} {N ps:List Str} {sp:Sp} (lk:K.lookup f=some ⟨oc,od,.func (W.fnOf name qual params body scope dV kV doc pm an cdv ct),osl⟩) (hcd:W.codeIn K cdv qual=true) (S:az N ps scope)
  (len:∀vs H Q E,sp vs H Q E->vs.length=ps.length)
  (hbody:∀(A:Around)(outer:List Env)(s:Shared)(H:Hp)(vs:List V)(Q:VK)(E:XK),cK k (A.deeper (envOfC qual scope s.heap.objs.size f cdv))->sp vs H Q E->
   ∃t,ya (sT CX P w K mg base N qual scope f cdv A outer s H E) body t/\t {nx:=fun _ H'=>Q .cP H',rt:=Q} (start N vs) H):
  iB P w K mg base CX (k+1) f (W.fnOf name qual params body scope dV kV doc pm an cdv ct) ps sp:=by
 refine⟨len,fun A outer s H args us vs Q E tk hr e0 hb r hsp=>?_⟩
 have hl:=len _ _ _ _ hsp
 have KX:K.In s.heap:=e0.mod.ET.keeps fun b o e=>(e0.bs b o e).1
 have lim:s.heap.NoLimit:=e0.mod.nolimit.keeps fun b o e=>(e0.bs b o e).1
 have hkind:∀y∈ps.zip us,scope.names.lookup y.1=some .local\/(scope.names.lookup y.1=some .cell/\((cellsFrom (s.heap.objs.size+1) scope.names []).lookup y.1).isSome=true):=fun⟨n,v⟩ hy=>by
  rcases S.par n (List.of_mem_zip hy).1 with q|q
  .exact .inl q
  .exact .inr ⟨q,W.cellsFrom_some _ _ _ (.inl q)⟩
 refine codeAny_call_function hr.depth (KX _ _ lk) rfl S.co S.gen rfl (W.codeRec_of KX hcd) (hb _ _ _ _ ?_)
 refine wpAny_with_toks (n:=1) tk ?_
 refine wpAny_newFunctionEnv_cells S.kind hkind fun env he s1 x tk1=>?_
 subst he
 refine⟨lim.keeps x.toInCall.keep,codeAny_func ?_⟩
 obtain⟨t,ht,hq⟩:=hbody A outer s H vs Q E (hr.deeper _) hsp
 have I:Inv (sT CX P w K mg base N qual scope f cdv A outer s H E) [] (start N vs) H s1:=ug S hr.hd e0 hl r x
 refine wpAny_mono (ht [] s1 (start N vs) H _ tk1 I hq) (fun fl s' hs=>?_) fun e s' hs=>hs
 have fin:∀{σ':St}{H':Hp}{v:V}{u:Value},Inv (sT CX P w K mg base N qual scope f cdv A outer s H E) [] σ' H' s'->RelV v u->Q v H'->CE outer P w H s Q u s':=
  fun{σ' H' v u} J rv q=>⟨v,H',J.os,J.bare,J.base,J.aY,rv,q⟩
 cases fl with
 |ret u=>
  obtain⟨v,σ',H',J,rv,q⟩:=hs
  exact fin J rv q
 |next=>
  obtain⟨σ',H',J,q⟩:=hs
  exact fin (v:=V.cP) (u:=Value.none) J rfl q
 |brk=>
  obtain⟨_,_,_,q⟩:=hs
  exact False.elim q
 |cont=>
  obtain⟨_,_,_,q⟩:=hs
  exact False.elim q
section
variable{P:Program}{w:World}{K:W.Frag}{mg:Str->Option Value}{base:Heap}
theorem dh.Mz {x qual:Str}{st:Stmt}{f:Addr}{fd:FuncData}{N ps:List Str}{k:Nat}{sp:Sp}(F:dh K x qual st f fd)(S:az N ps (ar st))(len:∀vs H Q E,sp vs H Q E->vs.length=ps.length)
  (hbody:∀(cdv:Value)(A:Around)(outer:List Env)(s:Shared)(H:Hp)(vs:List V)(Q:VK)(E:XK),cK k (A.deeper (envOfC qual (ar st) s.heap.objs.size f cdv))->sp vs H Q E->
   ∃t,ya (Bp P w K mg base N qual (ar st) f cdv A outer s H E) (dw st) t/\t {nx:=fun _ H'=>Q .cP H',rt:=Q} (start N vs) H):iB P w K mg base (jG P w) (k+1) f fd ps sp:=by
 obtain⟨oc,od,kV,doc,pm,an,cdv,ct,osl,rfl,lk,hcd⟩:=F.ex
 exact JD lk hcd S len fun A outer s H vs Q E hr hsp=>hbody cdv A outer s H vs Q E hr hsp
end
structure DZ(P:Program)(w:World)(K:W.Frag)(mg:Str->Option Value)(base:Heap)(x:Str)(k:Nat)(ps:List Str)(sp:Sp):Prop where
 ex:∃(f:Addr)(fd:FuncData),iB P w K mg base (jG P w) k f fd ps sp/\mg x=some (.ref f)/\W.keepIn K (.ref f)=true/\Binds K fd ps []
theorem iE.toQ {P:Program}{w:World}{K:W.Frag}{mg:Str->Option Value}{base:Heap}{x:Str}{k:Nat}{ps:List Str}{sp:Sp}(F:iE P w K mg base x k ps sp):DZ P w K mg base x k ps sp:=by
 obtain⟨f,fd,F,hm,hk,hb⟩:=F.ex
 exact⟨⟨f,fd,F.toQ,hm,hk,hb⟩⟩
structure F8(P:Program)(w:World)(K:W.Frag)(mg:Str->Option Value)(base:Heap)(k:Nat)(f:Addr)(sp:Sp):Prop where
 ex:∃(fd:FuncData)(ps:List Str),iB P w K mg base (jG P w) k f fd ps sp/\W.keepIn K (.ref f)=true/\Binds K fd ps []
section
variable{X:Cx}{CX:sf}{k:Nat}{f C:Addr}{fd:FuncData}{ps:List Str}{sp:Sp}{E:XK}{x:Str}{p pos:Pos}{e:Expr}{es:List Expr}{t:TA}
theorem Aj{pins:List (Addr×Obj)}{σ:St}{H:Hp}{s:Shared}{Q:VK}{us:List Value}{vs:List V}(F:iB X.prog X.w X.K X.mg X.base CX k f fd ps sp)(hr:cK k X.A)(hb:Binds X.K fd ps [])(hx:Passes CX X E)
  (tk:0<s.toks) (I:Inv X pins σ H s) (r:Vals vs us) (h:sp vs H Q E):wpAny (model X.prog X.w) X.A (call (.ref f) us) (EP X pins σ Q) X.xe s:=by
 have hl:us.length=ps.length:=by rw[←r.length];exact F.len _ _ _ _ h
 have bb:=hb s us I.kU (by rw[List.append_nil];exact hl)
 rw[List.append_nil]at bb
 refine wpAny_call (codeAny_mono (F.run X.A X.stack s H ⟨us,[]⟩ us vs Q E tk hr I.pG bb r h) fun r s' hq=>?_)
 cases r with
 |error e=>exact hx pins σ H s e s' I hq
 |ok fl=>
  cases fl with
  |ret u=>exact I.after hq
  |next=>exact False.elim hq
  |brk=>exact False.elim hq
  |cont=>exact False.elim hq
theorem pZ(F:DZ X.prog X.w X.K X.mg X.base x k ps sp)(hx:Passes (jG X.prog X.w) X E)(hr:cK k X.A)(hg:Gl X x)(ha:QA X (e::es) t)(hdb:(x==("__debug__" :Str))=false:=by decide+kernel)(he:starEach (e::es) X.env=(false,eval e X.env)::starEach es X.env:=by rfl)(hpl:(backTo pos (starEach es X.env)).any (·.1)=false:=by rfl):
  QE X (.Call (.Name x p) (e::es) [] pos) (rJ sp [] E t):=by
 obtain⟨f,fd,F,hm,hk,hb⟩:=F.ex
 intro pins s σ H Q tk I h
 refine wpAny_Call_Name_kw (kW I hg hm ?_ hdb)
 refine W.callWith_K (h₀:=X.base) I.ok.mod.ET hk (aW (jF tk (ha pos pins s σ H _ tk I h)) fun us s1 ⟨tk1,vs,H1,I1,r,q⟩=>⟨I1.kU,?_⟩) he hpl
 have q:sp (vs++[]) H1 Q E:=q
 rw[List.append_nil]at q
 exact Aj F hr hb hx tk1 I1 r q
theorem C2{i:Nat}{Fam:Addr->Sp->Prop}(hF:∀f sp,Fam f sp->F8 X.prog X.w X.K X.mg X.base k f sp)(hx:Passes (jG X.prog X.w) X E)(hr:cK k X.A)(hN:X.N[i]?=some x)(hv:Mo X.env.scope x)(ha:PA X (e::es) t)
  (hdb:(x==("__debug__" :Str))=false:=by decide+kernel) (hcd:(x==("__classdict__" :Str))=false:=by decide+kernel) (he:starEach (e::es) X.env=(false,eval e X.env)::starEach es X.env:=by rfl) (hpl:(backTo pos (starEach es X.env)).any (·.1)=false:=by rfl):
  QE X (.Call (.Name x p) (e::es) [] pos) (Gh i Fam E t):=by
 intro pins s σ H Q tk I h
 obtain⟨f,sp,hs,hf,h⟩:=h
 obtain⟨fd,ps,F,hk,hb⟩:=(hF f sp hf).ex
 refine wpAny_Call_Name_kw (aW (jF tk (EB hN hv hdb hcd pins s σ H (fun v H1=>v= .ref f/\H1=H) I ⟨_,hs,rfl,rfl⟩)) fun u s1 ⟨tk1,y,H1,I1,r,ey,eH⟩=>?_)
 subst ey
 subst eH
 obtain rfl:u=Value.ref f:=r
 refine W.callWith_K (h₀:=X.base) I1.ok.mod.ET hk (aW (jF tk1 (ha pos pins s1 σ _ _ I1 h)) fun us s2 ⟨tk2,vs,H2,I2,r,q⟩=>⟨I2.kU,?_⟩) he hpl
 exact Aj F hr hb hx tk2 I2 r q
end
theorem Ee{ix:List (Option Nat)}{g:TG}{te:TE}{σ:St}{Q:VK}{H:Hp}{G1 G2:Hp->Prop}{xs ys:List V}(Pv:Nat->List V->St->Hp->Prop)(hn:min xs.length ys.length<=1000000)(h0:Pv 0 [] (dC ix σ) H)
  (hl:∀i zs σ H,i<=min xs.length ys.length->Pv i zs σ H->G1 H/\G2 H) (hlen:∀i zs σ H,Pv i zs σ H->zs.length<=i)
  (hs:∀i zs σ H t v u(R:St->List V->Hp->Prop),xs[i]?=some v->ys[i]?=some u->Pv i zs σ H->H t=none->(∀σ2 ys2 H5,Pv (i+1) ys2 σ2 H5->R σ2 ys2 H5)->g (.ref t) σ (upd H t (.tup [v,u])) fun σ2 H3=>te σ2 H3 fun v H5=>R σ2 (zs++[v]) H5)
  (mg:∀x σ H R R',(∀σ2 H2,R σ2 H2->R' σ2 H2)->g x σ H R->g x σ H R')
  (hd:∀zs σ' H' p,Pv (min xs.length ys.length) zs σ' H'->H' p=none->Q (.ref p) (upd H' p (.lst zs))):hW ix g gT te σ Q (Ip xs ys G1 G2) H:=by
 refine iY Pv hn h0 (fun i zs σ H hi p=>⟨hi,hl i zs σ H (Nat.le_of_lt hi) p⟩) (fun zs σ H p=>⟨rfl,hl _ zs σ H (Nat.le_refl _) p⟩) hlen (fun i zs σ H x H2 R hi p y r=>?_) hd
 obtain⟨t,v,u,ht,rfl,hv,hu,rfl⟩:=y
 refine mg _ _ _ _ _ (fun σ2 H3 q=>?_) (hs i zs σ H t v u R hv hu p ht r)
 unfold gT
 simp only[if_true]
 exact q
theorem Nj{K:W.Frag}{k l:Nat}:∀x σ H R R',(∀σ2 H2,R σ2 H2->R' σ2 H2)->GC K 2 (vQ (cF k) (vQ (cF l) Jp)) x σ H R->GC K 2 (vQ (cF k) (vQ (cF l) Jp)) x σ H R':=by
 intro x σ H R R' hR h
 obtain⟨a,xs,e1,h1,h2,v,r,e2,v2,r2,e3,e4,q⟩:=h
 exact⟨a,xs,e1,h1,h2,v,r,e2,v2,r2,e3,e4,hR _ _ q⟩
theorem vV{x:V}{xs:List V}:ow (x::xs) (some 1) none=xs:=by
 unfold ow HT.sS
 simp
def gE{α β:Type}(f:α->Option β):List α->Option (List β)
 |[]=>some []
 |x::xs=>match f x with
  |none=>none
  |some y=>(gE f xs).map (y::·)
theorem ub{α β:Type}{f:α->Option β}:∀{l:List α}{ys:List β}{x:α}{y:β},gE f l=some ys->f x=some y->gE f (l++[x])=some (ys++[y])
 |[],ys,x,y,h,e=>by
  cases h
  show(match f x with|none=>none|some y=>(gE f []).map (y::·))=_
  rw[e]
  rfl
 |a::l,ys,x,y,h,e=>by
  unfold gE at h
  rw[List.cons_append]
  unfold gE
  cases ea:f a with
  |none=>rw[ea]at h;cases h
  |some b=>
   rw[ea]at h
   dsimp only at h⊢
   cases el:gE f l with
   |none=>rw[el]at h;cases h
   |some zs=>
    rw[el]at h
    cases h
    rw[ub el e]
    rfl
theorem nX{α β:Type}{f:α->Option β}:∀{l:List α}{i:Nat}{x:α},l[i]?=some x->f x=none->gE f l=none
 |[],i,x,h,_=>by simp at h
 |a::l,0,x,h,e=>by
  cases h
  unfold gE
  rw[e]
 |a::l,i+1,x,h,e=>by
  unfold gE
  rw[nX (l:=l) (i:=i) (by simpa using h) e]
  cases f a<;>rfl
theorem nW{α β:Type}{f:α->Option β}{l:List α}{i:Nat}{x:α}{y:β}{ys:List β}(h:gE f (l.take i)=some ys)(hx:l[i]?=some x)(e:f x=some y):gE f (l.take (i+1))=some (ys++[y]):=by
 rw[List.take_add_one,hx]
 exact ub h e
theorem xx{α β:Type}{f:α->Option β}:∀{l:List α}{ys:List β},gE f l=some ys->∀{i:Nat}{x:α},l[i]?=some x->∃y,ys[i]?=some y/\f x=some y
 |[],ys,h,i,x,hx=>by simp at hx
 |a::l,ys,h,i,x,hx=>by
  unfold gE at h
  cases ea:f a with
  |none=>rw[ea]at h;cases h
  |some b=>
   rw[ea]at h
   dsimp only at h
   cases el:gE f l with
   |none=>rw[el]at h;cases h
   |some zs=>
    rw[el]at h
    cases h
    cases i with
    |zero=>cases hx;exact⟨b,rfl,ea⟩
    |succ i=>exact xx el (i:=i) (by simpa using hx)
theorem BW{p A B:Prop}[Decidable p](hp:p)(h:A):if p then A else B:=by rw[if_pos hp];exact h
theorem fW{p A B:Prop}[Decidable p](hp:¬p)(h:B):if p then A else B:=by rw[if_neg hp];exact h
theorem qx{xs:List Str}{i:Nat}{v:V}(h:(xs.map V.str)[i]?=some v):∃x,xs[i]?=some x/\v= .str x:=by
 rw[NZ]at h
 cases e:xs[i]? with
 |none=>rw[e]at h;cases h
 |some x=>rw[e]at h;exact⟨x,rfl,(Option.some.inj h).symm⟩
section
variable{prog:Program}{w:World}{A:Around}{E:Value->Shared->Prop}{s:Shared}{W:Addr->List Int->Prop}
theorem Paired.at' {α β:Type}{F:α->β->Prop}:∀{l:List α}{m:List β}(i:Nat),Paired F l m->(∃a b,l[i]?=some a/\m[i]?=some b/\F a b)\/(l[i]?=none/\m[i]?=none)
 |_,_,i,.nil=> .inr ⟨by simp,by simp⟩
 |_,_,0,.cons r _=> .inl ⟨_,_,rfl,rfl,r⟩
 |_,_,i+1,.cons _ t=>by simpa using Paired.at' i t
theorem Paired.JV {α β:Type}{F:α->β->Prop}:∀{l l':List α}{m m':List β},Paired F l m->Paired F l' m'->Paired F (l++l') (m++m')
 |_,_,_,_,.nil,y=>y
 |_,_,_,_,.cons r t,y=> .cons r (Paired.JV t y)
end
theorem Paired.Fd {α β:Type}{F:α->β->Prop}:∀{l:List α}{m:List β},Paired F l m->l.length=m.length
 |_,_,.nil=>rfl
 |_,_,.cons _ t=>by rw[N3,N3,Paired.Fd t]
end L2
namespace Sw
open PySem L2
inductive Wd where
 |txt (x:Str)
 |num (k:Int)
 |row (R:List (Int×Int))
 |ord (xs:List Int)
def yp(H:Hp)(v:V):Wd->Prop
 | .txt x=>v= .str x
 | .num k=>v= .int k
 | .row R=>df H v R
 | .ord xs=>∃t,v= .ref t/\H t=some (.tup (xs.map V.int))
theorem yp.same {H H':Hp}{v:V}{x:Wd}(h:yp H v x)(s:ag H H'):yp H' v x:=by
 cases x with
 |txt x=>exact h
 |num k=>exact h
 |row R=>exact df.same h s
 |ord xs=>obtain⟨t,e,q⟩:=h;exact⟨t,e,s _ _ q⟩
def yv(H:Hp)(vs:List V)(xs:List Wd):Prop:=Paired (fun v x=>yp H v x) vs xs
theorem yv.same {H H':Hp}{vs:List V}{xs:List Wd}(h:yv H vs xs)(s:ag H H'):yv H' vs xs:=Paired.yn h fun _ _ z=>z.same s
theorem yv.len {H:Hp}{vs:List V}{xs:List Wd}(h:yv H vs xs):vs.length=xs.length:=Paired.Fd h
theorem yv.snoc {H:Hp}{vs:List V}{xs:List Wd}{v:V}{x:Wd}(h:yv H vs xs)(z:yp H v x):yv H (vs++[v]) (xs++[x]):=Paired.JV h (.cons z .nil)
inductive Out where
 |jR (c:Addr)
 |ans (s:Str)
 |Ms
 |put (x:Str) (R:List (Int×Int))
 |del (x:Str)
structure dX where
 wC:Str->Option (List Str)
 okd:Str->Bool
 E6:Int->Str->Str->Option Wd
 isA:Str->Bool
 ans:Str->Int->List Wd->Option (Except Addr Str)
 Ie:Str->List Wd->Option (Except Addr (List (Int×Int)))
 CT:Addr
 CN:Addr
def vL(m:Kept)(d:Str)(x:Wd):Option Wd:=
 if d=NX "name"then match x with
  | .txt s=>(rowOf m s).map Wd.row
  |_=>none
 else some x
def dX.out (L:dX)(n:Int)(m:Kept):List Str->Option Out
 |[]=>none
 |word::args=>match L.wC word with
  |none=>some (.jR L.CT)
  |some dues=>
   if dues.length≠args.length then some (.jR L.CT)else
   if dues.all L.okd=false then none else
   match gE (fun p:Str×Str=>L.E6 n p.1 p.2) (dues.zip args)with
   |none=>some (.jR L.CT)
   |some read=>match gE (fun p:Str×Wd=>vL m p.1 p.2) (dues.zip read)with
    |none=>some (.jR L.CN)
    |some given=>
     if word=NX "names"then some .Ms else
     if L.isA word=true then match L.ans word n given with
      |none=>none
      |some (.ok s)=>some (.ans s)
      |some (.error c)=>some (.jR c)
     else match read with
      | .txt x::_=>if word=NX "drop"then(rowOf m x).map fun _=> .del x else match L.Ie word given with
       |none=>none
       |some (.ok R)=>some (.put x R)
       |some (.error c)=>some (.jR c)
      |_=>none
def qz(m:Kept)(x:Str)(R:List (Int×Int)):Kept:=if(m.any fun p=>decide (p.1=x))=true then m.map (fun p=>if p.1=x then(p.1,R)else p)else m++[(x,R)]
def wX(m:Kept)(x:Str):Kept:=m.filter fun p=>decide (p.1≠x)
theorem df.Cz {H:Hp}{v:V}{R:List (Int×Int)}{d:Addr}{kvs kvs':List (Key×V)}(h:df H v R)(e:H d=some (.dK kvs)):df (upd H d (.dK kvs')) v R:=by
 obtain⟨l,es,e1,h1,h2⟩:=h
 have ne:∀b o,H b=some o->(∀q,o≠.dK q)->b≠d:=fun b o hb hn z=>by rw[z,e]at hb;cases hb;exact hn _ rfl
 refine⟨l,es,e1,by rw[ao (ne _ _ h1 fun q z=>nomatch z)];exact h1,h2.keep fun b xs hb=>by rw[ao (ne _ _ hb fun q z=>nomatch z)];exact hb⟩
theorem bj.Cz {H:Hp}{d:Addr}{kvs kvs':List (Key×V)}{ks:List (Key×V)}{m:Kept}(h:bj H ks m)(e:H d=some (.dK kvs)):bj (upd H d (.dK kvs')) ks m:=Paired.yn h fun _ _ z=>⟨z.1,z.2.Cz e⟩
theorem bj.any {H:Hp}{x:Str}:∀{kvs:List (Key×V)}{m:Kept},bj H kvs m->(kvs.any fun kv=>decide (kv.1=Sum.inr x))=m.any fun p=>decide (p.1=x)
 |_,_,.nil=>rfl
 |_,_,.cons h r=>by
  rw[List.any_cons,List.any_cons,bj.any r,h.1]
  congr 1
  rw[Bool.eq_iff_iff,decide_eq_true_eq,decide_eq_true_eq]
  exact⟨fun z=>Sum.inr.inj z,fun z=>by rw[z]⟩
theorem bj.EH {H:Hp}{x:Str}{v:V}{R:List (Int×Int)}(hv:df H v R):∀{kvs:List (Key×V)}{m:Kept},bj H kvs m->bj H (kvs.map fun kv=>if kv.1=Sum.inr x then(kv.1,v)else kv) (m.map fun p=>if p.1=x then(p.1,R)else p)
 |_,_,.nil=> .nil
 |_,_,.cons (a:=p) (b:=q) h r=>by
  rw[N4,N4]
  refine .cons ?_ (bj.EH hv r)
  by_cases c:q.1=x
  .rw[if_pos (by rw[h.1,c]),if_pos c]
   exact⟨h.1,hv⟩
  .rw[if_neg (by rw[h.1];exact fun z=>c (Sum.inr.inj z)),if_neg c]
   exact h
theorem bj.put {H:Hp}{x:Str}{v:V}{R:List (Int×Int)}{kvs:List (Key×V)}{m:Kept}(h:bj H kvs m)(hv:df H v R):bj H (putK kvs (.inr x) v) (qz m x R):=by
 unfold putK qz
 rw[h.any]
 split
 .exact h.EH hv
 .exact Paired.JV h (.cons ⟨rfl,hv⟩ .nil)
theorem bj.drop {H:Hp}{x:Str}:∀{kvs:List (Key×V)}{m:Kept},bj H kvs m->bj H (mZ kvs (.inr x)) (wX m x)
 |_,_,.nil=> .nil
 |_,_,.cons (a:=p) (b:=q) (l₁:=kvs) (l₂:=m) h r=>by
  unfold mZ wX
  rw[List.filter_cons,List.filter_cons]
  have ih:=bj.drop (x:=x) r
  unfold mZ wX at ih
  by_cases c:q.1=x
  .rw[if_neg (by rw[h.1,c];simp),if_neg (by rw[c];simp)]
   exact ih
  .rw[if_pos (by rw[h.1];simpa using c),if_pos (by simpa using c)]
   exact .cons h ih
def ot(ws:List Str):Str:=if ws=[]then NX "none"else Str.join (NX ",") ws
def Kw(L:dX):Sp:=fun vs H Q E=>∃(n:Int)(d w:Str),vs=[.int n,.str d,.str w]/\1<=n/\n<=12/\w.length<=990/\L.okd d=true/\(∀x,L.E6 n d w=some x->∀v H',yp H' v x->ag H H'->Q v H')/\(L.E6 n d w=none->∀b H',ag H H'->E (.ref L.CT) b H')
def Lh(L:dX):Sp:=fun vs H Q E=>∃(word:Str)(l:Addr)(us:List V)(xs:List Wd),vs=[.str word,.ref l]/\H l=some (.lst us)/\yv H us xs/\((∃R,L.Ie word xs=some (.ok R)/\∀v H',df H' v R->ag H H'->Q v H')\/∃c,L.Ie word xs=some (.error c)/\∀b H',ag H H'->E (.ref c) b H')
def j6(L:dX)(word:Str):Sp:=fun vs H Q E=>∃(n:Int)(l:Addr)(us:List V)(xs:List Wd),vs=[.int n,.ref l]/\1<=n/\n<=12/\H l=some (.lst us)/\yv H us xs/\((∃s,L.ans word n xs=some (.ok s)/\∀H',ag H H'->Q (.str s) H')\/∃c,L.ans word n xs=some (.error c)/\∀b H',ag H H'->E (.ref c) b H')
def JY:Sp:=fun vs H Q _=>∃(l:Addr)(ws:List Str),vs=[.ref l]/\H l=some (.lst (ws.map V.str))/\ws.length<=100/\(∀w∈ws,w.length<=990)/\Q (.str (ot ws)) H
structure LL(K:W.Frag)(L:dX)(wC ans:List (Str×Addr)):Prop where
 wC:∀w,(L.wC w=none/\tabOf wC w=none)\/∃xs b,L.wC w=some xs/\tabOf wC w=some b/\xs.length<=10/\∀H,e8 K H b (xs.map V.str)
 ans:∀w,L.isA w=(tabOf ans w).isSome
 name:∀n w x,L.E6 n (NX "name") w=some x->∃s,x= .txt s
structure Lk(P:Program)(w:World)(K:W.Frag)(mg:Str->Option Value)(base:Heap)(C AD AA:Addr)(wC ans:List (Str×Addr))(L:dX):Prop extends zH K C,T1 mg K where
 Eg:mg "zip" =none
 bC:mg "sorted" =none
 bf:mg "NoText" =some (.ref L.CT)
 bO:iH K L.CT
 An:mg "DUE" =some (.ref AD)
 Ak:RelV (.ref AD) (.ref AD)
 zX:KTab K w.params AD wC
 ou:mg "ANSWERS" =some (.ref AA)
 oA:RelV (.ref AA) (.ref AA)
 oN:KTab K w.params AA ans
 tabs:LL K L wC ans
 lJ:MethAt P w K mg base (jG P w) C "row_of" 1 ["self","name"] (zW C L.CN)
 pd:iE P w K mg base "read_word" 9 ["n","due","word"] (Kw L)
 tD:iE P w K mg base "row_due" 9 ["word","given"] (Lh L)
 c9:FnAt P w K mg base "with_commas" 1 ["words"] JY
 Hs:∀f sp,(∃word,tabOf ans word=some f/\sp=j6 L word)->F8 P w K mg base 20 f sp
def Hw(C:Addr)(L:dX):Sp:=fun vs H Q E=>∃(a d:Addr)(t:Str)(n:Int)(m:Kept)(o:Out),vs=[.ref a,.str t]/\t.length<=990/\1<=n/\n<=12/\m.length<=40/\(∀p∈m,p.1.length<=990)/\bW C H a d n m/\L.out n m (Txt.split t (NX " "))=some o/\
 match o with
 | .jR c=>∀b H',ag H H'->E (.ref c) b H'
 | .ans s=>∀H',ag H H'->Q (.str s) H'
 | .Ms=>∀ks:List Str,ks.Perm (m.map (·.1))->PyProof.Rows.sortedS ks=true->∀H',ag H H'->Q (.str (ot ks)) H'
 | .put x R=>∀H',bW C H' a d n (qz m x R)->(∀b o,b≠d->H b=some o->H' b=some o)->Q (.str (NX "ok")) H'
 | .del x=>∀H',bW C H' a d n (wX m x)->(∀b o,b≠d->H b=some o->H' b=some o)->Q (.str (NX "ok")) H'
section
variable{P:Program}{w:World}{K:W.Frag}{mg:Str->Option Value}{base:Heap}{C AD AA:Addr}{wC ans:List (Str×Addr)}{L:dX}
theorem cL:az ["self","row","words","word","dues","read","given","answer"] ["self","row"] (ar (mem (top 114) 2)):=⟨rfl,rfl,rfl,by decide+kernel,rfl,by decide+kernel,by decide+kernel⟩
theorem II{f:Addr}{fd:FuncData}(F:dh K "say" "Desk.say" (mem (top 114) 2) f fd)(T:Lk P w K mg base C AD AA wC ans L):aR P w K mg base (jG P w) 30 f fd ["self","row"] (Hw C L):=by
 refine F.Be cL (fun vs H Q E h=>?_) (fun cdv A outer s H vs Q E hr h=>?_)
 .obtain⟨a,d,t,n,m,o,rfl,_⟩:=h
  rfl
 .obtain⟨a,d,t,n,m,o,rfl,ht,n1,n2,hm,hmw,hd,ho,k⟩:=h
  have hu:=o9 hr
  have big:(10000000:Nat)<=sizeLine:=by decide
  refine⟨_,(ah (aB (i:=2) cL.nd rfl (Or.inl rfl) (br (K:=K) rfl PySem.F.plainAttrs_str PySem.F.slot_str_split PySem.F.type_str_split jT (pv 1) (aa aw af)))
   (tE (Jz (i:=3) cL.nd rfl (Or.inl rfl) (Ku (av (K:=K) rfl) (pv 2) le_int (fun _ _=>rfl)))
   (di (QS.of (bt (PW.pt (lL (rh (AQ T.zX (pv 3) (cT rfl T.An T.Ak))) (j9 (aI lG (aq (aK (K:=K) rfl) rfl T.bV (by decide+kernel) (aa (nZ T.zX (cT rfl T.An T.Ak) (pv 3) (fun _ _=>rfl)) af)) (ax cx (aq (aK (K:=K) rfl) rfl T.bV (by decide+kernel) (aa (pv 2) af)) ak) (aL _))))) (ai (cJ pH T.bO rfl rfl T.bf (aa aw af))) aE))
   (di (QS.of (aB (i:=4) cL.nd rfl (Or.inl rfl) (nZ T.zX (cT rfl T.An T.Ak) (pv 3) (fun _ _=>rfl))))
   (di (QS.of (rq (N:=(["due","written","self"]:List Str)) (ix:=([none,none,some 0]:List (Option Nat))) (i:=5) zU yZ cL.nd rfl rfl (bc rfl rfl) rfl (z6 (K:=K) rfl rfl T.Eg (aa (pv 4) (aa (gG (gU (K:=K) rfl) (pv 2) (i8 ak) iZ) af))) (fun _ _ _ _=>(eD (K:=K) (n:=2) rfl rfl (bh (ay (i:=0) (show List.Nodup (["due","written","self"]:List Str)from by decide+kernel) rfl (Or.inl rfl)) (bh (ay (i:=1) (show List.Nodup (["due","written","self"]:List Str)from by decide+kernel) rfl (Or.inl rfl)) dW)))) (fun _ _ _ _=>bg) (fun _ _ _ _=>(dN T.pd (lH.passes uS) (hr.mono (by decide)) rfl (@aa _ _ _ _ _ (iW (K:=K) rfl (pv 2)) (@aa _ _ _ _ _ (pv 0) (@aa _ _ _ _ _ (pv 1) af du) du) (by rfl))))))
   (di (QS.of (rq (N:=(["due","value","self"]:List Str)) (ix:=([none,none,some 0]:List (Option Nat))) (i:=6) zU yZ cL.nd rfl rfl (bc rfl rfl) rfl (z6 (K:=K) rfl rfl T.Eg (aa (pv 4) (aa (pv 5) af))) (fun _ _ _ _=>(eD (K:=K) (n:=2) rfl rfl (bh (ay (i:=0) (show List.Nodup (["due","value","self"]:List Str)from by decide+kernel) rfl (Or.inl rfl)) (bh (ay (i:=1) (show List.Nodup (["due","value","self"]:List Str)from by decide+kernel) rfl (Or.inl rfl)) dW)))) (fun _ _ _ _=>bg) (fun _ _ _ _=>(j8 (aI cG (pv 0) aw (aL _)) (AY T.lJ (lH.passes uS) (hr.mono (by decide)) (pv 2) (aa (pv 1) af)) (pv 1)))))
   (di (QS.of (bt (aI cG (pv 3) aw (aL _)) (ai (aA (au T.c9 (hr.mono (by first|decide|lia)) rfl (aa (aq (uW rfl) rfl T.bC (by decide+kernel) (aa (iW (K:=K) rfl (pv 0)) af)) af)))) aE))
   (di (CJ (rh (Dw T.oN (pv 3) (cT rfl T.ou T.oA))) (di (QS.of (aB (i:=7) cL.nd rfl (Or.inl rfl) (nZ T.oN (cT rfl T.ou T.oA) (pv 3) (fun _ _=>rfl))))
   (mH (qu (C2 (i:=7) T.Hs j7 (hr.mono (by decide)) rfl (by first|exact Or.inl rfl|exact Or.inr (Or.inl rfl)|exact Or.inr (Or.inr rfl)) (aa (iW (K:=K) rfl (pv 0)) (aa (pv 6) af)))))) (ya.of aE))
   (ya.of (ah (bt (aI cG (pv 3) aw (aL _)) (ai (GD (iW (K:=K) rfl (pv 0)) (aQ (av (K:=K) rfl) (pv 5) ak (fun _ _=>rfl)))) (ai (uJ hu (iW (K:=K) rfl (pv 0)) (aQ (av (K:=K) rfl) (pv 5) ak (fun _ _=>rfl)) (dN T.tD j7 (hr.mono (by decide)) rfl (aa (pv 3) (aa (pv 6) af))) rfl)))
   (ai (aA aw)))))))))))),?_⟩
  have wl:=split_le t (NX " ")
  have wp:∀z∈Txt.split t (NX " "),z.length<=t.length:=fun z hz=>iq hz
  have wne:=nD t (NX " ")
  refine⟨_,rfl,rfl,t,_,rfl,rfl,by decide+kernel,by lia,fun l1 f1=>?_⟩
  have s1:ag H (upd H l1 (.lst ((Txt.split t (NX " ")).map V.str))):=ag.new f1
  have h1:upd H l1 (.lst ((Txt.split t (NX " ")).map V.str)) l1=some (.lst ((Txt.split t (NX " ")).map V.str)):=ae
  generalize upd H l1 (.lst ((Txt.split t (NX " ")).map V.str))=H1 at s1 h1⊢
  generalize Txt.split t (NX " ")=ws at wl wp wne ho h1
  obtain _|⟨word,args⟩:=ws
  .exact absurd rfl wne
  have one:1<=sizeLine:=by decide
  have wl':args.length<=1000:=by rw[N3]at wl;lia
  refine⟨_,rfl,l1,_,0,_,rfl,rfl,aC.of h1,aX (j:=0) rfl,?_⟩
  refine⟨_,rfl,word,rfl,rfl,_,rfl,?_⟩
  rcases T.tabs.wC word with⟨e1,e2⟩|⟨xs,b,e1,e2,xl,hb⟩
  .rw[e2]
   simp only[Option.isSome_none,Bool.not_false,if_true]
   unfold dX.out at ho
   dsimp only at ho
   rw[e1]at ho
   cases ho
   exact⟨one,k none H1 s1⟩
  unfold dX.out at ho
  dsimp only at ho
  rw[e1]at ho
  dsimp only at ho
  rw[e2]
  simp only[Option.isSome_some,Bool.not_true,if_false,Bool.false_eq_true]
  refine⟨_,rfl,word,b,rfl,rfl,e2,b,_,rfl,.inr (hb _),_,rfl,l1,_,rfl,.inl (aC.of h1),_,_,rfl,rfl,rfl,_,rfl,?_⟩
  by_cases hl:xs.length=args.length
  case neg=>
   rw[if_pos hl]at ho
   cases ho
   rw[if_pos (by
    simp only[NY,N3,Bool.not_eq_true',decide_eq_false_iff_not,V.int.injEq]
    lia)]
   exact⟨one,k none H1 s1⟩
  rw[if_neg (fun z=>z hl)]at ho
  have aY:xs.all L.okd=true:=by
   cases e:xs.all L.okd with
   |true=>rfl
   |false=>rw[if_pos e]at ho;cases ho
  rw[if_neg (by rw[aY];decide)]at ho
  rw[if_neg (by
    simp only[NY,N3,Bool.not_eq_true',decide_eq_false_iff_not,V.int.injEq]
    lia)]
  refine⟨_,rfl,word,b,rfl,rfl,e2,?_⟩
  refine⟨_,rfl,_,rfl,1,rfl,l1,_,rfl,aC.of h1,fun l2 f2=>⟨b,l2,xs.map V.str,args.map V.str,rfl,hb _,aC.of (by rw[ae,N4,vV]),?_⟩⟩
  have h2:upd H1 l2 (.lst (ow ((word::args).map V.str) (some 1) none)) l2=some (.lst (args.map V.str)):=by rw[ae,N4,vV]
  have s2:ag H (upd H1 l2 (.lst (ow ((word::args).map V.str) (some 1) none))):=s1.trans (ag.new f2)
  generalize upd H1 l2 (.lst (ow ((word::args).map V.str) (some 1) none))=H2 at h2 s2⊢
  obtain⟨dx,fs,kvs,ha,hf,hkd,dne,km,ml⟩:=id hd
  refine Ee (fun i zs σ' H'=>(∃v0 v1,σ'=[v0,v1,some (.ref a)])/\ag H2 H'/\∃ys,gE (fun p:Str×Str=>L.E6 n p.1 p.2) ((xs.zip args).take i)=some ys/\yv H' zs ys/\ys.length=i) (by simp only[NY];lia) ⟨⟨none,none,rfl⟩,ag.refl _,[],rfl,.nil,rfl⟩ (fun i zs σ' H' _ ⟨_,sm,_⟩=>⟨hb _,aC.of (sm _ _ h2)⟩) (fun i zs σ' H' ⟨_,_,ys,_,wz,yl⟩=>by have:=wz.len;lia) (fun i zs σ' H' t' v u R hv hu ⟨⟨v0,v1,e3⟩,sm,ys,em,wz,yl⟩ ft r=>?_) Nj (fun zs σ' H' l3 ⟨_,sm,ys,em,wz,yl⟩ f3=>?_)
  .subst e3
   obtain⟨dj,e4,rfl⟩:=qx hv
   obtain⟨wj,e5,rfl⟩:=qx hu
   have ez:(xs.zip args)[i]?=some (dj,wj):=by rw[List.getElem?_zip_eq_some];exact⟨e4,e5⟩
   have st:ag H' (upd H' t' (.tup [.str dj,.str wj])):=ag.new ft
   have ha':=st _ _ (sm _ _ (s2 _ _ ha))
   have wlen:wj.length<=990:=Nat.le_trans (wp wj (List.mem_cons_of_mem _ (N9 e5))) ht
   refine⟨t',_,rfl,e8.of ae,rfl,_,_,rfl,_,_,rfl,rfl,?_⟩
   refine⟨_,rfl,a,C,dx,fs,_,rfl,ha',T.cls,T.JG,hf.n_,_,rfl,_,rfl,n,dj,wj,rfl,n1,n2,wlen,List.all_eq_true.mp aY dj (N9 e4),fun x ex v' H5 wv sv=>?_,fun en bb H5 sv=>?_⟩
   .exact r _ _ _ ⟨⟨_,_,rfl⟩,sm.trans (st.trans sv),ys++[x],nW em ez ex,(wz.same (st.trans sv)).snoc wv,by rw[N0,yl];rfl⟩
   .rw[nX (f:=fun p:Str×Str=>L.E6 n p.1 p.2) ez en]at ho
    cases ho
    exact k bb H5 (s2.trans (sm.trans (st.trans sv)))
  rw[List.take_of_length_le (by simp only[List.length_zip,NY];lia)]at em
  have ee:=em
  rw[em]at ho
  dsimp only at ho
  have yl2:ys.length=xs.length:=by rw[yl];simp only[NY];lia
  have h3:upd H' l3 (.lst zs) l3=some (.lst zs):=ae
  have s3:ag H (upd H' l3 (.lst zs)):=s2.trans (sm.trans (ag.new f3))
  have wz3:yv (upd H' l3 (.lst zs)) zs ys:=wz.same (ag.new f3)
  generalize upd H' l3 (.lst zs)=H3 at h3 s3 wz3⊢
  clear wz em yl sm f3 h1 h2 s1 s2 f1 f2
  refine⟨_,rfl,_,rfl,b,l3,xs.map V.str,zs,rfl,hb _,aC.of h3,?_⟩
  refine Ee (fun i vs' σ' H'=>(∃v0 v1,σ'=[v0,v1,some (.ref a)])/\ag H3 H'/\∃gs,gE (fun p:Str×Wd=>vL m p.1 p.2) ((xs.zip ys).take i)=some gs/\yv H' vs' gs/\gs.length=i) (by simp only[NY];lia) ⟨⟨none,none,rfl⟩,ag.refl _,[],rfl,.nil,rfl⟩ (fun i zs σ' H' _ ⟨_,sm,_⟩=>⟨hb _,aC.of (sm _ _ h3)⟩) (fun i zs σ' H' ⟨_,_,ys,_,wz,yl⟩=>by have:=wz.len;lia) (fun i vs' σ' H' t' v u R hv hu ⟨⟨v0,v1,e3⟩,sm,gs,em,wz,gl⟩ ft r=>?_) Nj (fun vs' σ' H' l4 ⟨_,sm,gs,em,wz,gl⟩ f4=>?_)
  .subst e3
   obtain⟨dj,e4,rfl⟩:=qx hv
   obtain⟨x,e5,wx⟩:∃x,ys[i]?=some x/\yp H3 u x:=by
    rcases Paired.at' i wz3 with⟨u',x,q1,q2,q3⟩|⟨q1,q2⟩
    .rw[hu]at q1;cases q1;exact⟨x,q2,q3⟩
    .rw[hu]at q1;cases q1
   have ez:(xs.zip ys)[i]?=some (dj,x):=by rw[List.getElem?_zip_eq_some];exact⟨e4,e5⟩
   have st:ag H' (upd H' t' (.tup [.str dj,u])):=ag.new ft
   have sH:ag H (upd H' t' (.tup [.str dj,u])):=s3.trans (sm.trans st)
   refine⟨t',_,rfl,e8.of ae,rfl,_,_,rfl,_,_,rfl,rfl,?_⟩
   refine⟨_,rfl,rfl,_,rfl,?_⟩
   by_cases hn:dj=NX "name"
   .dsimp only
    rw[if_pos (by rw[hn];decide)]
    have il:i<args.length:=by have:=(List.getElem?_eq_some_iff.mp e4).1;lia
    obtain⟨y,e6,e7⟩:=xx ee (i:=i) (x:=(dj,args[i])) (by rw[List.getElem?_zip_eq_some];exact⟨e4,N1 il⟩)
    rw[e5]at e6
    cases e6
    dsimp only at e7
    rw[hn]at e7
    obtain⟨z,rfl⟩:=T.tabs.name _ _ _ e7
    cases wx
    have hd':bW C (upd H' t' (.tup [.str dj,.str z])) a d n m:=⟨dx,fs,kvs,sH _ _ ha,hf,sH _ _ hkd,dne,km.same sH,ml⟩
    refine⟨_,rfl,a,dx,fs,rfl,sH _ _ ha,hf.IZ,_,rfl,a,d,z,n,m,rfl,hd',fun en=>?_,fun R' v' er rv=>?_⟩
    .rw[nX (f:=fun p:Str×Wd=>vL m p.1 p.2) ez (by show vL m dj (.txt z)=none;unfold vL;rw[if_pos hn];dsimp only;rw[en];rfl)]at ho
     cases ho
     exact k none _ sH
    .exact r _ _ _ ⟨⟨_,_,rfl⟩,sm.trans st,gs++[.row R'],nW em ez (by show vL m dj (.txt z)=some (.row R');unfold vL;rw[if_pos hn];dsimp only;rw[er];rfl),(wz.same st).snoc (x:= .row R') rv,by rw[N0,gl];rfl⟩
   .dsimp only
    rw[if_neg (by simpa using hn)]
    exact⟨_,rfl,r _ _ _ ⟨⟨_,_,rfl⟩,sm.trans st,gs++[x],nW em ez (by show vL m dj x=some x;unfold vL;rw[if_neg hn]),(wz.same st).snoc (wx.same (sm.trans st)),by rw[N0,gl];rfl⟩⟩
  have zl3:=wz3.len
  rw[List.take_of_length_le (by simp only[List.length_zip,NY];lia)]at em
  rw[em]at ho
  dsimp only at ho
  have h4:upd H' l4 (.lst vs') l4=some (.lst vs'):=ae
  have sx:ag H3 (upd H' l4 (.lst vs')):=sm.trans (ag.new f4)
  have s4:ag H (upd H' l4 (.lst vs')):=s3.trans sx
  have wz4:yv (upd H' l4 (.lst vs')) vs' gs:=wz.same (ag.new f4)
  have h34:upd H' l4 (.lst vs') l3=some (.lst zs):=sx _ _ h3
  have wz34:yv (upd H' l4 (.lst vs')) zs ys:=wz3.same sx
  generalize upd H' l4 (.lst vs')=H4 at h4 s4 wz4 h34 wz34⊢
  clear sx wz em sm f4 h3 s3 wz3 ee gl
  have ha4:=s4 _ _ ha
  have hkd4:=s4 _ _ hkd
  have km4:=km.same s4
  have kl:kvs.length=m.length:=Paired.Fd km
  refine⟨_,rfl,rfl,_,rfl,?_⟩
  dsimp only
  by_cases c1:word=NX "names"
  .rw[if_pos (by rw[c1];decide)]
   rw[if_pos c1]at ho
   cases ho
   refine⟨_,rfl,a,C,dx,fs,_,rfl,ha4,T.cls,T.i3,hf.kept,d,kvs,m.map (·.1),rfl,hkd4,km4.keys,by lia,fun l ks' fl pm so=>⟨l,ks',rfl,ae,?_,?_,k ks' pm so _ (s4.trans (ag.new fl))⟩⟩
   .have:=pm.length_eq
    rw[NY]at this
    lia
   .intro w hw
    obtain⟨p,hp,e⟩:=List.mem_map.mp (pm.mem_iff.mp hw)
    rw[←e]
    exact hmw p hp
  rw[if_neg (by simpa using c1)]
  rw[if_neg c1]at ho
  refine⟨_,rfl,word,rfl,rfl,_,rfl,?_⟩
  dsimp only
  rw[←T.tabs.ans word]
  by_cases c2:L.isA word=true
  .rw[if_pos c2]
   rw[if_pos c2]at ho
   obtain⟨fA,eA⟩:=Option.isSome_iff_exists.mp ((T.tabs.ans word).symm.trans c2)
   refine⟨_,rfl,word,fA,rfl,rfl,eA,?_⟩
   refine⟨fA,j6 L word,rfl,⟨word,eA,rfl⟩,_,rfl,a,C,dx,fs,_,rfl,ha4,T.cls,T.JG,hf.n_,_,rfl,n,l4,vs',gs,rfl,n1,n2,h4,wz4,?_⟩
   cases er:L.ans word n gs with
   |none=>rw[er]at ho;cases ho
   |some r=>
    rw[er]at ho
    cases r with
    |ok s'=>
     cases ho
     exact .inl ⟨s',rfl,fun H' sx=>k H' (s4.trans sx)⟩
    |error c=>
     cases ho
     exact .inr ⟨c,rfl,fun b H' sx=>k b H' (s4.trans sx)⟩
  rw[if_neg c2]
  rw[if_neg c2]at ho
  obtain⟨x,rest,rfl⟩:∃x rest,ys= .txt x::rest:=by
   match ys,ho with
   | .txt x::rest,_=>exact⟨x,rest,rfl⟩
   |[],ho=>cases ho
   | .num _::_,ho=>cases ho
   | .row _::_,ho=>cases ho
   | .ord _::_,ho=>cases ho
  cases wz34 with
  |cons w1 w2=>
   cases(show _=V.str x from w1)
   dsimp only at ho
   refine⟨_,rfl,rfl,_,rfl,?_⟩
   dsimp only
   by_cases c3:word=NX "drop"
   .rw[if_pos (by rw[c3];decide)]
    rw[if_pos c3]at ho
    cases er:rowOf m x with
    |none=>rw[er]at ho;cases ho
    |some R=>
     rw[er]at ho
     cases ho
     have isS:(bZ kvs (Sum.inr x:Key)).isSome=true:=by
      rcases km.get x with⟨q,_⟩|⟨_,_,_,q,_⟩
      .rw[er]at q;cases q
      .rw[q];rfl
     refine⟨_,rfl,a,C,dx,fs,_,rfl,ha4,T.cls,T.i3,hf.kept,_,rfl,l3,_,0,_,rfl,rfl,aC.of h34,aX (j:=0) rfl,d,kvs,.inr x,rfl,hkd4,rfl,isS,?_⟩
     exact k _ ⟨dx,fs,mZ kvs (.inr x),by rw[ao (Ne.symm dne)];exact ha4,hf,ae,dne,(km4.Cz hkd4).drop,Nat.le_trans (List.length_filter_le _ _) (by lia)⟩ fun b o hb e=>by rw[ao hb];exact s4 _ _ e
   .rw[if_neg (by simpa using c3)]
    rw[if_neg c3]at ho
    cases er:L.Ie word gs with
    |none=>rw[er]at ho;cases ho
    |some r=>
     rw[er]at ho
     cases r with
     |error c=>
      cases ho
      exact⟨_,rfl,_,rfl,word,l4,vs',gs,rfl,h4,wz4,.inr ⟨c,er,fun b H' sx=>k b H' (s4.trans sx)⟩⟩
     |ok R=>
      cases ho
      refine⟨_,rfl,_,rfl,word,l4,vs',gs,rfl,h4,wz4,.inl ⟨R,er,fun v H5 rv sx=>?_⟩⟩
      have hkd5:=sx _ _ hkd4
      refine⟨_,rfl,a,C,dx,fs,_,rfl,sx _ _ ha4,T.cls,T.i3,hf.kept,_,rfl,l3,_,0,_,rfl,rfl,aC.of (sx _ _ h34),aX (j:=0) rfl,d,_,rfl,yM.k (k:= .inr x) hkd5 (by lia),?_⟩
      refine k _ ⟨dx,fs,putK kvs (.inr x) v,by rw[ao (Ne.symm dne)];exact sx _ _ ha4,hf,ae,dne,((km4.same sx).Cz hkd5).put (rv.Cz hkd5),?_⟩ fun b o hb e=>by rw[ao hb];exact sx _ _ (s4 _ _ e)
      unfold qz
      split
      .rw[NY];lia
      .rw[N0];exact Nat.le_trans (Nat.add_le_add_right hm 1) (by decide)
end
def qZ:Sp:=fun vs H Q _=>∃(l:Addr)(r:List Int),vs=[.ref l]/\H l=some (.lst (r.map V.int))/\r.length<=20/\(∀x∈r,0<=x/\x<10^9)/\∀H',ag H H'->Q (.str (oh r)) H'
def uf:Sp:=fun vs H Q _=>∃(t:Addr)(n:Int)(xs:List Int),vs=[.ref t]/\H t=some (.tup (xs.map V.int))/\Ord n xs/\n<=12/\∀H',ag H H'->Q (.str (om (aU n xs))) H'
structure Nu(P:Program)(w:World)(K:W.Frag)(mg:Str->Option Value)(base:Heap):Prop extends T1 mg K where
 cI:mg "str" =none
 dg:FnAt P w K mg base "show_things" 1 ["things"] qZ
 cM:FnAt P w K mg base "rounds" 3 ["order"] de
section
variable{P:Program}{w:World}{K:W.Frag}{mg:Str->Option Value}{base:Heap}{u:Value}{C:Addr}
theorem qm:az ["things"] ["things"] (ar (top 76)):=⟨rfl,rfl,rfl,by decide+kernel,rfl,by decide+kernel,by decide+kernel⟩
theorem tG{f:Addr}{fd:FuncData}(F:dh K "show_things" "show_things" (top 76) f fd)(T:KN mg K u):aR P w K mg base hZ 1 f fd ["things"] qZ:=by
 refine F.ok qm (fun vs H Q E h=>?_) (fun cdv A outer s H vs Q E hr h=>?_)
 .obtain⟨l,r,rfl,_⟩:=h
  rfl
 .obtain⟨l,r,rfl,hl,h20,hs,k⟩:=h
  refine⟨_,(ai (aA (br (K:=K) rfl PySem.F.plainAttrs_str PySem.F.slot_str_join PySem.F.type_str_join (fL (K:=K) rfl) aw (aa (bQ (N:=(["thing"]:List Str)) (ix:=([none]:List (Option Nat))) (bc rfl rfl) rfl (aT (K:=K) rfl (pv 0)) (fun _ _ _ _=>(ay (i:=0) (show List.Nodup (["thing"]:List Str)from by decide+kernel) rfl (Or.inl rfl))) (fun _ _ _ _=>bg) (fun _ _ _ _=>(aO bH rfl T.cI (by decide+kernel) (aa (pv 0) af)))) af)))),?_⟩
  refine⟨rfl,_,rfl,l,rfl,⟨_,aC.of hl⟩,eF (K:=K) (a:=l) (xs:=r.map V.int) (k:=0) (fun i ys σ' H'=>ys=((r.take i).map aF).map V.str/\(∃v0,σ'=[v0])/\H'=H) (by rw[NY];lia) ⟨rfl,⟨none,rfl⟩,rfl⟩ (fun i ys σ' H' _ q=>by rw[q.2.2];exact aC.of hl) (fun i ys σ' H' q=>by rw[q.1,NY,NY,N5];lia) ?_ ?_⟩
  .rintro i ys σ' H' x R hx' ⟨rfl,⟨v0,rfl⟩,rfl⟩ done
   obtain⟨z,rfl,hz⟩:=iU hx'
   obtain⟨z0,z9⟩:=hs z (N9 hz)
   refine⟨_,rfl,z,rfl,fi z0 z9,done _ _ _ ⟨?_,⟨_,rfl⟩,rfl⟩⟩
   rw[aH aF hz,N2]
   rfl
  .rintro ys σ' H' q ⟨rfl,⟨v0,rfl⟩,e0⟩ fq
   have e0:=e0.symm
   subst e0
   rw[List.take_of_length_le (by rw[NY];lia)]
   refine⟨_,q,r.map aF,rfl,rfl,aC.of ae,bF (B:=9) (by decide+kernel) (fun y hy=>?_) (by decide) (by rw[NY];lia),k _ (ag.new fq)⟩
   obtain⟨z,hz,rfl⟩:=List.mem_map.mp hy
   exact dv (hs z hz).1 (hs z hz).2
theorem sV:az ["order"] ["order"] (ar (top 77)):=⟨rfl,rfl,rfl,by decide+kernel,rfl,by decide+kernel,by decide+kernel⟩
theorem yz{f:Addr}{fd:FuncData}(F:dh K "show_order" "show_order" (top 77) f fd)(T:Nu P w K mg base):aR P w K mg base hZ 4 f fd ["order"] uf:=by
 refine F.ok sV (fun vs H Q E h=>?_) (fun cdv A outer s H vs Q E hr h=>?_)
 .obtain⟨t,n,xs,rfl,_⟩:=h
  rfl
 .obtain⟨t,n,xs,rfl,ht,ho,n12,k⟩:=h
  refine⟨_,(ai (aA (br (K:=K) rfl PySem.F.plainAttrs_str PySem.F.slot_str_join PySem.F.type_str_join (fL (K:=K) rfl) aw (aa (bQ (N:=(["found"]:List Str)) (ix:=([none]:List (Option Nat))) (bc rfl rfl) rfl (aT (K:=K) rfl (au T.cM (hr.mono (by first|decide|lia)) rfl (aa (pv 0) af))) (fun _ _ _ _=>(ay (i:=0) (show List.Nodup (["found"]:List Str)from by decide+kernel) rfl (Or.inl rfl))) (fun _ _ _ _=>bg) (fun _ _ _ _=>(ax bo (ax bo aw (au T.dg (hr.mono (by first|decide|lia)) rfl (aa (pv 0) af))) aw))) af)))),?_⟩
  have big:(10000000:Nat)<=sizeLine:=by decide
  obtain⟨f1,f2,f3⟩:=kS ho
  refine⟨rfl,_,rfl,t,n,xs,rfl,ht,ho,by lia,fun l ws H1 fl hl xw _ _ s1=>?_⟩
  have wl:=xw.length
  refine⟨l,rfl,⟨_,aC.of hl⟩,eF (K:=K) (a:=l) (xs:=ws) (k:=0) (fun i ys σ' H'=>ys=(((aU n xs).take i).map FK).map V.str/\(∃v0,σ'=[v0])/\ag H1 H') (by lia) ⟨rfl,⟨none,rfl⟩,ag.refl _⟩ (fun i ys σ' H' _ q=>aC.of (q.2.2 _ _ hl)) (fun i ys σ' H' q=>by rw[q.1,NY,NY,N5];lia) ?_ ?_⟩
  .rintro i ys σ' H2 x R hx' ⟨rfl,⟨v0,rfl⟩,s2⟩ done
   obtain⟨a,r,rfl,ha,hr'⟩:=xw.get hx'
   obtain⟨g1,g2,g3⟩:=f2 r (N9 hr')
   have g4:∀x∈r,0<=x/\x<10^9:=fun x hx=>by have:=g3 x hx;lia
   have tl:=mQ g4
   have bl:(NX "(").length=1:=by decide+kernel
   have cl:(NX ")").length=1:=by decide+kernel
   refine⟨_,rfl,a,r,rfl,s2 _ _ ha,by lia,g4,fun H3 s3=>⟨_,_,rfl,rfl,by lia,_,_,rfl,rfl,by rw[Str.length_append];lia,?_⟩⟩
   refine done _ _ _ ⟨?_,⟨_,rfl⟩,s2.trans s3⟩
   rw[aH FK hr',N2]
   rfl
  .rintro ys σ' H2 q ⟨rfl,⟨v0,rfl⟩,s2⟩ fq
   rw[List.take_of_length_le (by lia)]
   refine⟨_,q,(aU n xs).map FK,rfl,rfl,aC.of ae,bF (B:=202) (by decide+kernel) (fun y hy=>?_) (by decide) (by rw[NY];lia),k _ (s1.trans (s2.trans (ag.new fq)))⟩
   obtain⟨r,hr',rfl⟩:=List.mem_map.mp hy
   obtain⟨g1,g2,g3⟩:=f2 r hr'
   have tl:=mQ (r:=r) fun x hx=>by have:=g3 x hx;lia
   rw[←bA,qK,N3,N0,bA,List.length_singleton]
   lia
end
def vR(f:Int->Int)(e:Int×Int):Int->Int:=fun x=>if f x=f e.2 then f e.1 else f x
def aM(row:List (Int×Int)):Int->Int:=row.foldl vR id
theorem nV(row:List (Int×Int))(e:Int×Int):aM (row++[e])=vR (aM row) e:=by
 unfold aM
 rw[List.foldl_append]
 rfl
def j5(f:Int->Int)(acc:List (Int×List Int))(x:Int):List (Int×List Int):=
 if f x∈acc.map (·.1)then acc.map (fun p=>if p.1=f x then(p.1,p.2++[x])else p)else acc++[(f x,[x])]
def uB(f:Int->Int)(L:List Int):List (Int×List Int):=L.foldl (j5 f) []
theorem mV(f:Int->Int)(L:List Int)(x:Int):uB f (L++[x])=j5 f (uB f L) x:=by
 unfold uB
 rw[List.foldl_append]
 rfl
def bL(n:Int)(row:List (Int×Int)):List (List Int):=(uB (aM row) (bP 1 (n+1))).map (·.2)
section
variable{f:Int->Int}{acc:List (Int×List Int)}{x k:Int}{ms:List Int}{j:Nat}
theorem qR:∀{acc:List (Int×List Int)}{j:Nat},(acc.map (·.1)).Nodup->acc[j]?=some (f x,ms)->acc.map (fun p=>if p.1=f x then(p.1,p.2++[x])else p)=acc.set j (f x,ms++[x])
 |[],_,_,h=>by simp at h
 |p::acc,0,nd,h=>by
  have h:p=(f x,ms):=by simpa using h
  subst h
  rw[N4,List.nodup_cons]at nd
  rw[N4,if_pos rfl,List.set_cons_zero]
  congr 1
  rw[List.map_congr_left (g:=id) fun q hq=>?_,List.map_id]
  have:¬q.1=f x:=fun e=>nd.1 (by
   show f x∈_
   rw[←e]
   exact List.mem_map_of_mem (f:=(·.1)) hq)
  rw[if_neg this]
  rfl
 |p::acc,j+1,nd,h=>by
  rw[N4,List.nodup_cons]at nd
  have h:acc[j]?=some (f x,ms):=by simpa using h
  have:¬p.1=f x:=fun e=>nd.1 (by
   rw[e]
   exact List.mem_map_of_mem (f:=(·.1)) (N9 h))
  rw[N4,List.set_cons_succ,qR nd.2 h,if_neg this]
theorem pO(nd:(acc.map (·.1)).Nodup)(h:acc[j]?=some (f x,ms)):j5 f acc x=acc.set j (f x,ms++[x]):=by
 unfold j5
 rw[if_pos (List.mem_map_of_mem (f:=(·.1)) (N9 h)),qR nd h]
theorem iJ(h:f x∉acc.map (·.1)):j5 f acc x=acc++[(f x,[x])]:=by
 unfold j5
 rw[if_neg h]
theorem BJ(nd:(acc.map (·.1)).Nodup):((j5 f acc x).map (·.1)).Nodup:=by
 by_cases h:f x∈acc.map (·.1)
 .obtain⟨p,hp,e⟩:=List.mem_map.mp h
  obtain⟨j,hj,ej⟩:=List.mem_iff_getElem.mp hp
  have hj':acc[j]?=some (f x,p.2):=by rw[N1 hj,ej,←e]
  rw[pO nd hj',List.map_set]
  have:(acc.map (·.1)).set j (f x)=acc.map (·.1):=by
   apply List.ext_getElem?
   intro i
   by_cases e:j=i
   .subst e
    rw[List.getElem?_set_self (by rw[NY];exact hj),NZ,hj']
    rfl
   .rw[List.getElem?_set_ne e]
  rw[this]
  exact nd
 .rw[iJ h,N2]
  rw[List.nodup_append]
  refine⟨nd,by simp,fun a ha b hb e=>?_⟩
  rw[N4,List.map_nil,List.mem_singleton]at hb
  rw[e,hb]at ha
  exact h ha
structure EU(f:Int->Int)(L:List Int)(acc:List (Int×List Int)):Prop where
 nd:(acc.map (·.1)).Nodup
 mem:∀p∈acc,p.2=L.filter (fun y=>decide (f y=p.1))/\p.2≠[]
 all:∀y∈L,f y∈acc.map (·.1)
theorem EU.nil:EU f [] []:=⟨List.nodup_nil,fun p hp=>(by cases hp),fun y hy=>(by cases hy)⟩
theorem EU.snoc {L:List Int}(g:EU f L acc)(x:Int):EU f (L++[x]) (j5 f acc x):=by
 refine⟨BJ g.nd,fun p hp=>?_,fun y hy=>?_⟩
 .rw[List.filter_append]
  unfold j5 at hp
  by_cases h:f x∈acc.map (·.1)
  .rw[if_pos h]at hp
   obtain⟨q,hq,e⟩:=List.mem_map.mp hp
   obtain⟨g1,g2⟩:=g.mem q hq
   by_cases z:q.1=f x
   .rw[if_pos z]at e
    subst e
    have:[x].filter (fun y=>decide (f y=q.1))=[x]:=by simp[z]
    rw[this,←g1]
    exact⟨rfl,by simp⟩
   .rw[if_neg z]at e
    subst e
    have:[x].filter (fun y=>decide (f y=q.1))=[]:=by simp;exact fun e=>z e.symm
    rw[this,List.append_nil]
    exact⟨g1,g2⟩
  .rw[if_neg h]at hp
   rcases List.mem_append.mp hp with hp|hp
   .obtain⟨g1,g2⟩:=g.mem p hp
    have:[x].filter (fun y=>decide (f y=p.1))=[]:=by
     simp
     intro e
     exact h (e▸List.mem_map_of_mem hp)
    rw[this,List.append_nil]
    exact⟨g1,g2⟩
   .rw[List.mem_singleton.mp hp]
    have e1:L.filter (fun y=>decide (f y=f x))=[]:=by
     rw[List.filter_eq_nil_iff]
     intro y hy e
     have e:f y=f x:=of_decide_eq_true e
     exact h (e▸g.all y hy)
    refine⟨?_,by simp⟩
    show [x]=L.filter (fun y=>decide (f y=f x))++[x].filter (fun y=>decide (f y=f x))
    rw[e1]
    simp
 .have keep:∀k,k∈acc.map (·.1)->k∈(j5 f acc x).map (·.1):=fun k hk=>by
   unfold j5
   split
   .obtain⟨q,hq,e⟩:=List.mem_map.mp hk
    rw[N7]
    refine List.mem_map.mpr ⟨q,hq,?_⟩
    show(if q.1=f x then(q.1,q.2++[x])else q).1=k
    split<;>exact e
   .rw[N2]
    exact List.mem_append_left _ hk
  rcases List.mem_append.mp hy with hy|hy
  .exact keep _ (g.all y hy)
  .rw[List.mem_singleton.mp hy]
   by_cases h:f x∈acc.map (·.1)
   .exact keep _ h
   .rw[iJ h,N2]
    exact List.mem_append_right _ (by simp)
theorem md(f:Int->Int):∀L:List Int,EU f L (uB f L):=by
 intro L
 suffices h:∀(M:List Int)(acc:List (Int×List Int))(L0:List Int),EU f L0 acc->EU f (L0++M) (M.foldl (j5 f) acc) by
  have:=h L [] [] EU.nil
  rwa [List.nil_append]at this
 intro M
 induction M with
 |nil=>intro acc L0 g;rw[List.append_nil];exact g
 |cons x M ih=>
  intro acc L0 g
  have:=ih (j5 f acc x) (L0++[x]) (g.snoc x)
  rwa [List.append_assoc]at this
def zC(acc:List (Int×List Int)):Prop:=((acc.map fun p=>p.2.headD 0)).Pairwise (·<·)
theorem y0{L:List Int}(g:EU f L acc)(h:zC acc)(hx:∀y∈L,y<x):zC (j5 f acc x):=by
 unfold zC at h⊢
 by_cases hk:f x∈acc.map (·.1)
 .obtain⟨p,hp,e⟩:=List.mem_map.mp hk
  obtain⟨j,hj,ej⟩:=List.mem_iff_getElem.mp hp
  have hj':acc[j]?=some (f x,p.2):=by rw[N1 hj,ej,←e]
  rw[pO g.nd hj',List.map_set]
  have:(acc.map fun p=>p.2.headD 0).set j ((f x,p.2++[x]).2.headD 0)=acc.map fun p=>p.2.headD 0:=by
   apply List.ext_getElem?
   intro i
   by_cases e:j=i
   .subst e
    rw[List.getElem?_set_self (by rw[NY];exact hj),NZ,hj']
    have ne:=(g.mem p hp).2
    show some ((p.2++[x]).headD 0)=some (p.2.headD 0)
    cases q:p.2 with
    |nil=>exact absurd q ne
    |cons a r=>rfl
   .rw[List.getElem?_set_ne e]
  rw[this]
  exact h
 .rw[iJ hk,N2,List.pairwise_append]
  refine⟨h,by simp,fun a ha b hb=>?_⟩
  rw[N4,List.map_nil,List.mem_singleton]at hb
  obtain⟨p,hp,e⟩:=List.mem_map.mp ha
  obtain⟨m1,m2⟩:=g.mem p hp
  have:p.2.headD 0∈L:=by
   cases q:p.2 with
   |nil=>exact absurd q m2
   |cons c r=>
    have:c∈p.2:=by rw[q];exact List.mem_cons_self
    rw[m1]at this
    exact(List.mem_filter.mp this).1
  rw[hb,←e]
  exact hx _ this
theorem Eb{n a:Int}(h0:0<=a)(h1:a<=n):((bP 0 (n+1)).map f)[a.toNat]?=some (f a):=by
 rw[NZ,dt (by lia)]
 show some (f (0+(a.toNat:Int)))=_
 congr 2
 lia
theorem Dd{n a b:Int}:(((bP 0 (n+1)).map f).map fun p=>if p=f b then f a else p)=(bP 0 (n+1)).map (vR f (a,b)):=by
 rw[N7]
 rfl
theorem fM{n:Int}{i:Nat}(h:(i:Int)<n):(bP 1 (n+1)).take (i+1)=(bP 1 (n+1)).take i++[1+(i:Int)]:=by
 rw[List.take_succ,dt (by lia)]
 rfl
theorem uD{n y:Int}{i:Nat}(h:y∈(bP 1 (n+1)).take i):1<=y/\y<1+(i:Int):=by
 obtain⟨j,hj,e⟩:=List.mem_take_iff_getElem.mp h
 have:(bP 1 (n+1))[j]?=some y:=by rw[←e,N1]
 rw[dt (by have:=aJ 1 (n+1);lia)]at this
 have:=Option.some.inj this
 lia
theorem t5{n:Int}:∀i:Nat,(i:Int)<=n->zC (uB f ((bP 1 (n+1)).take i))
 |0,_=>by rw[List.take_zero];exact List.Pairwise.nil
 |i+1,h=>by
  rw[fM (by lia),mV]
  exact y0 (md f _) (t5 i (by lia)) fun y hy=>(uD hy).2
theorem mT{n:Int}:∀i:Nat,(i:Int)<=n->(uB f ((bP 1 (n+1)).take i)).length<=i
 |0,_=>by rw[List.take_zero];exact Nat.le_refl _
 |i+1,h=>by
  rw[fM (by lia),mV]
  have:=mT i (by lia:(i:Int)<=n)
  unfold j5
  split
  .rw[NY];lia
  .rw[N0,List.length_singleton];lia
end
theorem wy{kvs:List (Key×V)}{j:Nat}{k:Key}{v:V}(nd:(kvs.map (·.1)).Nodup)(h:kvs[j]?=some (k,v)):bZ kvs k=some v:=by
 induction kvs generalizing j with
 |nil=>simp at h
 |cons p r ih=>
  rw[N4,List.nodup_cons]at nd
  cases j with
  |zero=>
   have h:p=(k,v):=by simpa using h
   subst h
   exact cE rfl
  |succ j=>
   have h:r[j]?=some (k,v):=by simpa using h
   rw[cj (fun e=>nd.1 (by rw[e];exact List.mem_map_of_mem (f:=(·.1)) (N9 h)))]
   exact ih nd.2 h
theorem wY{kvs:List (Key×V)}{k:Key}(h:k∉kvs.map (·.1)):bZ kvs k=none:=by
 induction kvs with
 |nil=>rfl
 |cons p r ih=>
  rw[N4,N6,not_or]at h
  rw[cj (fun e=>h.1 e.symm)]
  exact ih h.2
theorem Cf{kvs:List (Key×V)}{k:Key}{v:V}(h:k∉kvs.map (·.1)):putK kvs k v=kvs++[(k,v)]:=by
 unfold putK
 rw[if_neg]
 rw[jV,wY h]
 exact Bool.false_ne_true
theorem snoc_ind{α:Type}{Pr:List α->Prop}(h0:Pr [])(hs:∀l x,Pr l->Pr (l++[x]))(l:List α):Pr l:=by
 have:∀r:List α,Pr r.reverse:=fun r=>by
  induction r with
  |nil=>exact h0
  |cons x r ih=>rw[List.reverse_cons];exact hs _ _ ih
 have q:=this l.reverse
 rwa [List.reverse_reverse]at q
theorem Bh{row:List (Int×Int)}:∀e∈row,aM row e.1=aM row e.2:=by
 induction row using snoc_ind with
 |h0=>intro e h;cases h
 |hs r d ih=>
  intro e he
  rw[nV]
  unfold vR
  rcases List.mem_append.mp he with he|he
  .rw[ih e he]
  .rw[List.mem_singleton.mp he,if_pos rfl]
   split<;>rfl
theorem wt{row:List (Int×Int)}{S:Int->Prop}:(∀e∈row,S e.1↔S e.2)->∀{x y:Int},aM row x=aM row y->(S x↔S y):=by
 induction row using snoc_ind with
 |h0=>intro _ x y e;have e:x=y:=e;rw[e]
 |hs r d ih=>
  intro h x y e
  have ih:∀{u v:Int},aM r u=aM r v->(S u↔S v):=fun z=>ih (fun q hq=>h q (List.mem_append_left _ hq)) z
  have hd:=h d (List.mem_append_right _ (List.mem_singleton.mpr rfl))
  rw[nV]at e
  unfold vR at e
  by_cases h1:aM r x=aM r d.2
  .by_cases h2:aM r y=aM r d.2
   .exact(ih h1).trans (ih h2).symm
   .rw[if_pos h1,if_neg h2]at e
    exact(ih h1).trans (hd.symm.trans (ih e))
  .by_cases h2:aM r y=aM r d.2
   .rw[if_neg h1,if_pos h2]at e
    exact(ih e).trans (hd.trans (ih h2).symm)
   .rw[if_neg h1,if_neg h2]at e
    exact ih e
def Ap(n:Int)(row:List (Int×Int))(x:Int):List Int:=(bP 1 (n+1)).filter fun y=>decide (aM row y=aM row x)
theorem CG{n:Int}{row:List (Int×Int)}{x y:Int}:y∈Ap n row x↔(1<=y/\y<=n)/\aM row y=aM row x:=by
 unfold Ap
 rw[List.mem_filter,cg]
 constructor
 .rintro⟨h1,h2⟩
  exact⟨⟨h1.1,by lia⟩,of_decide_eq_true h2⟩
 .rintro⟨h1,h2⟩
  exact⟨⟨h1.1,by lia⟩,decide_eq_true h2⟩
theorem J1(a b:Int):(bP a b).Pairwise (·<·):=by
 rw[List.pairwise_iff_getElem]
 intro i j hi hj hij
 have e1:=dt (lo:=a) (hi:=b) (i:=i) (by rw[aJ]at hi;exact hi)
 have e2:=dt (lo:=a) (hi:=b) (i:=j) (by rw[aJ]at hj;exact hj)
 rw[N1 hi]at e1
 rw[N1 hj]at e2
 rw[Option.some.inj e1,Option.some.inj e2]
 lia
theorem ED{n:Int}{row:List (Int×Int)}{x:Int}:(Ap n row x).Nodup:=(fg 1 (n+1)).sublist List.filter_sublist
theorem BI{n:Int}{row:List (Int×Int)}{x:Int}:(Ap n row x).Pairwise (·<·):=(J1 1 (n+1)).sublist List.filter_sublist
theorem Ia{n:Int}{row:List (Int×Int)}{x:Int}{fs ns:List Int}(nd:fs.Nodup)(hm:∀y,y∈fs↔(1<=y/\y<=n)/\aM row y=aM row x)(pm:ns.Perm fs)(pw:ns.Pairwise (·<=·)):ns=Ap n row x:=by
 refine List.Perm.eq_of_pairwise (le:=(·<=·)) (fun a b _ _ h1 h2=>by lia) pw (BI.imp fun h=>Int.le_of_lt h) (pm.trans ((List.perm_ext_iff_of_nodup nd ED).mpr fun y=>?_))
 rw[hm,CG]
theorem yR{n:Int}{fs:List Int}(h0:0<=n)(nd:fs.Nodup)(hm:∀y∈fs,1<=y/\y<=n):fs.length<=n.toNat:=by
 have:=List.Nodup.length_le_of_subset nd (l₂:=bP 1 (n+1)) fun y hy=>cg.mpr ⟨(hm y hy).1,by have:=(hm y hy).2;lia⟩
 rw[aJ]at this
 lia
section
variable{n:Int}{xs:List Int}{a b:Int}
theorem Dt(n:Int)(r:List (Int×Int))(e:Int×Int):bp n (r++[e])=(bp n r).map (bK · e):=by
 unfold bp
 rw[N7]
 refine List.map_congr_left fun x _=>?_
 rw[oG]
 rfl
theorem AL{r q:List (Int×Int)}(g:Good n (r++q)):Good n r:=fun e he=>g e (List.mem_append_left _ he)
theorem F6(o:Ord n xs)(ga:1<=a)(gab:a<b)(gb:b<=n):Ord n (xs.map (bK · (a,b))):=by
 have inv:∀x,bK (bK x (a,b)) (a,b)=x:=fun x=>pW x _
 refine(List.perm_ext_iff_of_nodup ?_ (fg _ _)).mpr fun y=>?_
 .rw[List.Nodup,List.pairwise_map]
  exact o.nodup.imp fun h e=>h ((inv _).symm.trans ((congrArg (fun z=>bK z (a,b)) e).trans (inv _)))
 .have sin:∀x,1<=x/\x<=n->1<=bK x (a,b)/\bK x (a,b)<=n:=fun x hx=>by
   unfold bK
   split
   .exact⟨by show 1<=b;lia,gb⟩
   .split
    .exact⟨ga,by show a<=n;lia⟩
    .exact hx
  rw[List.mem_map,cg]
  constructor
  .rintro⟨x,hx,rfl⟩
   have:=sin x (o.mem.mp hx)
   lia
  .intro hy
   have:=sin y ⟨hy.1,by lia⟩
   exact⟨bK y (a,b),o.mem.mpr this,inv y⟩
theorem Fw{row:List (Int×Int)}(g:Good n row):Ord n (bp n row):=by
 induction row using snoc_ind with
 |h0=>rw[wa];exact ud n
 |hs r e ih=>
  rw[Dt]
  have ge:=g e (List.mem_append_right _ (List.mem_singleton.mpr rfl))
  exact F6 (ih (AL g)) ge.1 ge.2.1 ge.2.2
def np(n:Int)(row:List (Int×Int)):Nat:=(bL n row).length
theorem Gj{f:Int->Int}{L:List Int}{k:Int}:k∈(uB f L).map (·.1)↔∃y∈L,f y=k:=by
 have G:=md f L
 constructor
 .intro h
  obtain⟨p,hp,rfl⟩:=List.mem_map.mp h
  obtain⟨e,ne⟩:=G.mem p hp
  cases q:p.2 with
  |nil=>exact absurd q ne
  |cons c r=>
   have:c∈p.2:=by rw[q];exact List.mem_cons_self
   rw[e]at this
   exact⟨c,(List.mem_filter.mp this).1,of_decide_eq_true (List.mem_filter.mp this).2⟩
 .rintro⟨y,hy,rfl⟩
  exact G.all y hy
theorem Ge(n:Int)(row:List (Int×Int)):np n row=((uB (aM row) (bP 1 (n+1))).map (·.1)).length:=by
 unfold np bL
 rw[NY,NY]
end
structure AU(k:Nat)(d:PyData):Prop where
 lay:d.canLay0=true
 dp:d.depth<=k
theorem K4{k:Nat}(i:Int):AU k (.int i):=⟨rfl,by unfold PyData.depth;lia⟩
theorem DL{k:Nat}{x:Str}(h:PyData.strOk x=true):AU k (.str x):=⟨h,by unfold PyData.depth;lia⟩
theorem dZ(s:String):PyData.strOk (NX s)=true:=by
 unfold PyData.strOk
 rw[Str.ofString_eq_toList]
 rw[Array.all_eq_true_iff_forall_mem]
 intro c hc
 have hc:c∈List.map Char.toNat s.toList:=by simpa using hc
 obtain⟨ch,_,rfl⟩:=List.mem_map.mp hc
 have:=ch.valid
 refine decide_eq_true ?_
 show ch.val.toNat<1114112
 rcases this with h|⟨_,h⟩
 .exact Nat.lt_trans h (by decide)
 .exact h
theorem xf{k:Nat}:∀{ds:List PyData},(∀d∈ds,AU k d)->PyData.canLayAll0 ds=true/\PyData.depthAll ds<=k
 |[],_=>⟨rfl,by unfold PyData.depthAll;lia⟩
 |d::ds,h=>by
  obtain⟨h1,h2⟩:=xf fun e he=>h e (List.mem_cons_of_mem _ he)
  have h0:=h d List.mem_cons_self
  refine⟨?_,?_⟩
  .unfold PyData.canLayAll0;rw[h1,h0.lay];rfl
  .unfold PyData.depthAll
   have:=h0.dp
   lia
theorem AK{k:Nat}{ds:List PyData}(h:∀d∈ds,AU k d):AU (k+1) (.list ds):=by
 obtain⟨h1,h2⟩:=xf h
 exact⟨by unfold PyData.canLay0;exact h1,by unfold PyData.depth;lia⟩
def K2(n:Int)(rs:List (List Int)):Prop:=(∀r∈rs,r≠[]/\∀x∈r,1<=x/\x<=n)/\rs.flatten.Nodup
instance{n:Int}{rs:List (List Int)}:Decidable (K2 n rs):=by unfold K2;infer_instance
def nx:List (List Int)->Int->Int
 |[],x=>x
 |r::rs,x=>if x∈r then Mq r x else nx rs x
def xi(n:Int)(rs:List (List Int)):List Int:=(bP 1 (n+1)).map (nx rs)
theorem HE:∀{rs:List (List Int)}{r:List Int}{j:Nat}{x:Int},rs.flatten.Nodup->r∈rs->r[j]?=some x->nx rs x=r.getD ((j+1)%r.length) 0
 |[],_,_,_,_,h,_=>by cases h
 |a::rs,r,j,x,nd,h,hj=>by
  rw[List.flatten_cons,List.nodup_append]at nd
  obtain⟨na,nr,dis⟩:=nd
  show(if x∈a then Mq a x else nx rs x)=_
  rcases List.mem_cons.mp h with rfl|h
  .rw[if_pos (N9 hj),JE na hj]
  .have:x∉a:=fun z=>dis x z x (List.mem_flatten.mpr ⟨r,h,N9 hj⟩) rfl
   rw[if_neg this,HE nr h hj]
theorem uy(n:Int)(rs:List (List Int)):(xi n rs).length=n.toNat:=by
 unfold xi
 rw[NY,aJ]
 lia
theorem Gi{n:Int}{rs:List (List Int)}{x:Int}(h1:1<=x)(h2:x<=n):ld (xi n rs) x=nx rs x:=by
 unfold ld xi
 rw[N8,NZ,dt (by lia)]
 show nx rs (1+((x-1).toNat:Int))=nx rs x
 congr 1
 lia
theorem Ek{n x:Int}:x∈bP 1 (n+1)↔1<=x/\x<=n:=(ud n).mem
end Sw
namespace L2
open PySem PySem.Spec PyProof.Rows
theorem Nl{i:Nat}{v:V}{σ:St}{H:Hp}{k:St->Hp->Prop}(h:k (σ.set i (some v)) H):cF i v σ H k:=h
theorem Ab{t u:TS}{D:Ends}{σ:St}{H:Hp}(R:St->Hp->Prop)(h1:∀D':Ends,(∀σ' H',R σ' H'->D'.nx σ' H')->t D' σ H)(h2:∀σ' H',R σ' H'->u D σ' H'):DJ t u D σ H:=h1 _ h2
end L2
namespace Sw
open PySem L2 PyProof.Rows
theorem DX{n:Int}(hn:n<1000){r q:List (Int×Int)}(gr:Good n r)(gq:Good n q)(h:lA r=lA q):r=q:=by
 have b:∀{z:List (Int×Int)},Good n z->∀e∈z,0<=e.1/\0<=e.2:=fun g e he=>by have:=g e he;lia
 by_cases hr:r=[]
 .by_cases hq:q=[]
  .rw[hr,hq]
  .exact absurd (h.symm.trans (by rw[hr];rfl)) (jN hq (b gq))
 .by_cases hq:q=[]
  .exact absurd (h.trans (by rw[hq];rfl)) (jN hr (b gr))
  .have e:=jd hr (b gr)
   rw[h,jd hq (b gq)]at e
   clear h hr hq
   induction r generalizing q with
   |nil=>cases q with
    |nil=>rfl
    |cons _ _=>cases e
   |cons x r ih=>cases q with
    |nil=>cases e
    |cons y q=>
     rw[N4,N4]at e
     injection e with e1 e2
     have gx:=gr x List.mem_cons_self
     have gy:=gq y List.mem_cons_self
     have p:=Ar (a:=y.1) (b:=y.2) (by lia) (by lia)
     rw[show i6 (y.1,y.2)=i6 (x.1,x.2)from e1,Ar (by lia) (by lia)]at p
     injection p with p1 p2
     injection p2 with _ p3
     rw[ih (fun e he=>gr e (List.mem_cons_of_mem _ he)) (fun e he=>gq e (List.mem_cons_of_mem _ he)) e2,
      Prod.ext (qc (by lia) (by lia) (by lia) (by lia) p1) (qc (by lia) (by lia) (by lia) (by lia) p3)]
def DP(r:List Int):Prop:=r≠[]/\∀i∈r,0<=i/\i<10^9
def AO(x:Str)(r:List Int):Prop:=x=oh r/\DP r
theorem pb:∀{r q:List Int},(∀i∈r,0<=i/\i<10^9)->(∀i∈q,0<=i/\i<10^9)->r.map aF=q.map aF->r=q
 |[],[],_,_,_=>rfl
 |[],_::_,_,_,h=>by cases h
 |_::_,[],_,_,h=>by cases h
 |a::r,b::q,h1,h2,h=>by
  rw[N4,N4]at h
  injection h with h3 h4
  have ha:=h1 a List.mem_cons_self
  have hb:=h2 b List.mem_cons_self
  rw[qc ha.1 hb.1 (by lia) (by lia) h3,pb (fun i hi=>h1 i (List.mem_cons_of_mem _ hi)) (fun i hi=>h2 i (List.mem_cons_of_mem _ hi)) h4]
theorem AO.split {x:Str}{r:List Int}(h:AO x r):Txt.split x (NX " ")=r.map aF:=by
 rw[h.1];exact C7 h.2.1 fun i hi=>(h.2.2 i hi).1
theorem AO.uniq {x:Str}{r q:List Int}(h:AO x r)(g:AO x q):r=q:=pb h.2.2 g.2.2 (h.split.symm.trans g.split)
theorem qC:∀{S T:List (List Int)},(∀r∈S,DP r)->(∀r∈T,DP r)->S.map oh=T.map oh->S=T
 |[],[],_,_,_=>rfl
 |[],_::_,_,_,h=>by cases h
 |_::_,[],_,_,h=>by cases h
 |a::r,b::q,h1,h2,h=>by
  rw[N4,N4]at h
  injection h with h3 h4
  rw[AO.uniq ⟨rfl,h1 a List.mem_cons_self⟩ ⟨h3,h2 b List.mem_cons_self⟩,qC (fun i hi=>h1 i (List.mem_cons_of_mem _ hi)) (fun i hi=>h2 i (List.mem_cons_of_mem _ hi)) h4]
structure Nb(P:Program)(w:World)(K:W.Frag)(mg:Str->Option Value)(base:Heap):Prop extends T1 mg K where
 iD:mg "min" =none
 nu:FnAt P w K mg base "round_from" 1 ["order","first"] Lx
section
variable{P:Program}{w:World}{K:W.Frag}{mg:Str->Option Value}{base:Heap}
theorem fJ:az ["order","first","found","thing"] ["order","first"] (ar (top 23)):=⟨rfl,rfl,rfl,by decide+kernel,rfl,by decide+kernel,by decide+kernel⟩
theorem Lf{f:Addr}{fd:FuncData}(F:dh K "round_from" "round_from" (top 23) f fd):aR P w K mg base hZ 1 f fd ["order","first"] Lx:=by
 refine F.ok fJ (fun vs H Q E h=>?_) (fun cdv A outer s H vs Q E hr h=>?_)
 .obtain⟨t,n,x,xs,rfl,_⟩:=h
  rfl
 .obtain⟨t,n,x,xs,rfl,ht,o,hn,x1,x2,k⟩:=h
  refine⟨_,(ah (aB (i:=2) fJ.nd rfl (Or.inl rfl) (aZ (aa (pv 1) af)))
   (ah (aB (i:=3) fJ.nd rfl (Or.inl rfl) (aQ (kP (K:=K) rfl) (pv 0) (ax cx (pv 1) ak) (fun _ _=>rfl)))
   (ah (qJ PassesOwn.never (aI lG (pv 3) (pv 1) (aL _)) (ah (cB (br (K:=K) rfl PySem.F.plainAttrs_list PySem.F.slot_list_append PySem.F.type_list_append cz (pv 2) (aa (pv 3) af)))
   (ai (aB (i:=3) fJ.nd rfl (Or.inl rfl) (aQ (kP (K:=K) rfl) (pv 0) (ax cx (pv 3) ak) (fun _ _=>rfl))))))
   (ai (aA (pv 2)))))),?_⟩
  have ol:=o.length
  have big:(100000:Nat)<=sizeLine:=by decide
  refine⟨_,rfl,(by show 1<=sizeLine;decide),fun l hl=>?_⟩
  have s1:ag H (upd H l (.lst [V.int x])):=ag.new hl
  refine⟨_,rfl,_,rfl,_,_,rfl,rfl,t,_,_,_,rfl,rfl,e8.of (s1 _ _ ht),ma (by lia) (n8 o x1 x2),?_⟩
  refine⟨fun m σ H'=>∃i,m=hU xs x-i/\1<=i/\i<=hU xs x/\σ=[some (.ref t),some (.int x),some (.ref l),some (.int (eY (ld xs) i x))]/\ag H H'/\H' l=some (.lst (((List.range i).map fun k=>eY (ld xs) k x).map V.int)),⟨_,1,rfl,Nat.le_refl _,by unfold hU;lia,rfl,s1,ae⟩,?_⟩
  rintro m σ H' ⟨i,rfl,i1,i2,rfl,s2,h2⟩
  have pl:=yd o x1 x2
  have ir:=dE o x1 x2 i
  refine⟨_,rfl,_,rfl,rfl,_,rfl,dQ (fun c=>?_) (fun c=>?_)⟩
  .have c:eY (ld xs) i x≠x:=by simpa using c
   have lt:i<hU xs x:=by
    by_cases e:i=hU xs x
    .rw[e]at c;exact absurd (qk o x1 x2) c
    .lia
   refine⟨fun σ' H'=>σ'=[some (.ref t),some (.int x),some (.ref l),some (.int (eY (ld xs) (i+1) x))]/\ag H H'/\H' l=some (.lst (((List.range (i+1)).map fun k=>eY (ld xs) k x).map V.int)),fun σ' H' ⟨e1,e2,e3⟩=>⟨_,(by show hU xs x-(i+1)<_;lia),i+1,rfl,by lia,by lia,e1,e2,e3⟩,?_⟩
   refine⟨_,rfl,.inl ⟨rfl,_,aC.of h2⟩,_,rfl,l,_,_,rfl,rfl,h2,by simp;lia,?_⟩
   have s3:ag H (upd H' l (.lst (((List.range i).map fun k=>eY (ld xs) k x).map V.int++[.int (eY (ld xs) i x)]))):=fun b ob e=>by rw[ao (aj e hl)];exact s2 b ob e
   refine⟨_,rfl,_,rfl,_,_,rfl,rfl,t,_,_,_,rfl,rfl,e8.of (s3 _ _ ht),ma (by lia) (n8 o ir.1 ir.2),?_⟩
   refine⟨rfl,s3,?_⟩
   rw[ae,List.range_succ,N2,N2]
   rfl
  .have c:eY (ld xs) i x=x:=by simpa using c
   have e:i=hU xs x:=by
    apply Classical.byContradiction
    intro z
    exact yk (by lia) (by lia) c
   subst e
   exact⟨_,rfl,k l H' hl h2 s2⟩
theorem uh:az ["order","begun"] ["order"] (ar (top 24)):=⟨rfl,rfl,rfl,by decide+kernel,rfl,by decide+kernel,by decide+kernel⟩
theorem Bb{f:Addr}{fd:FuncData}(F:dh K "rounds" "rounds" (top 24) f fd)(T:Nb P w K mg base):aR P w K mg base hZ 3 f fd ["order"] de:=by
 refine F.ok uh (fun vs H Q E h=>?_) (fun cdv A outer s H vs Q E hr h=>?_)
 .obtain⟨t,n,xs,rfl,_⟩:=h
  rfl
 .obtain⟨t,n,xs,rfl,ht,o,hn,k⟩:=h
  refine⟨_,(ah (mL (i:=1) uh.nd rfl rfl (N:=(["first","order"]:List Str)) (ix:=([none,some 0]:List (Option Nat))) (bc rfl rfl) rfl (fh rfl T.cQ (aa ak (aa (ax bw (aq (aK (K:=K) rfl) rfl T.bV (by decide+kernel) (aa (pv 0) af)) ak) af))) (fun _ _ _ _=>(ay (i:=0) (show List.Nodup (["first","order"]:List Str)from by decide+kernel) rfl (Or.inl rfl))) (fun _ _ _ _=>bg) (fun _ _ _ _=>(au T.nu (hr.mono (by first|decide|lia)) rfl (aa (pv 1) (aa (pv 0) af)))))
   (ai (aA (bQ (N:=(["found"]:List Str)) (ix:=([none]:List (Option Nat))) (bc rfl rfl) rfl (aT (K:=K) rfl (pv 1)) (fun _ _ _ _=>(ay (i:=0) (show List.Nodup (["found"]:List Str)from by decide+kernel) rfl (Or.inl rfl))) (fun _ _ _ _=>(Gk (aI cG (aQ (av (K:=K) rfl) (pv 0) ak (fun _ _=>rfl)) (aq (Bz (K:=K) rfl rfl) rfl T.iD (by decide+kernel) (aa (pv 0) af)) (aL _)))) (fun _ _ _ _=>(pv 0)))))),?_⟩
  have ol:=o.length
  have big:(100000:Nat)<=sizeLine:=by decide
  refine⟨_,rfl,t,_,rfl,.inr (e8.of ht),_,_,rfl,rfl,1,_,rfl,⟨by decide,by decide,by lia,by rw[NY];lia⟩,L7 (k:=0) (fun i ys σ' H'=>(∃v,σ'=[v,some (.ref t)])/\ag H H'/\cb H' ys (((bP 1 (n+1)).take i).map (jJ xs))/\gw H ys/\ys.length=i) (by rw[NY];lia) ⟨⟨none,rfl⟩,ag.refl _,.nil,gw.nil,rfl⟩ (fun i ys σ' H' q=>Nat.le_of_eq q.2.2.2.2) ?_ ?_⟩
  .rintro i ys σ' H' R hi ⟨⟨v,rfl⟩,s1,x1,f1,l1⟩ done
   rw[NY]at hi
   refine⟨_,rfl,_,rfl,t,n,1+(i:Int),xs,rfl,s1 _ _ ht,o,hn,by lia,by lia,fun l H2 hl h2 s2=>done _ _ _ ⟨⟨_,rfl⟩,s1.trans s2,?_,f1.snoc x1 hl (s1.free hl),?_⟩⟩
   .rw[aH (jJ xs) (dt (lo:=1) (hi:=n+1) (i:=i) (by lia))]
    exact(x1.keep s2).snoc h2
   .rw[N0,l1];rfl
  .rintro ys σ' H' p ⟨⟨v,rfl⟩,s1,x1,f1,l1⟩ hp
   have et:(bP 1 (n+1)).take (((xs.map V.int).length:Int)+1-1).toNat=bP 1 (n+1):=List.take_of_length_le (by rw[aJ,NY];lia)
   rw[et]at x1
   rw[NY]at l1
   have s2:=s1.trans (ag.new (o:= .lst ys) hp)
   have x2:=x1.keep (ag.new (o:= .lst ys) hp)
   have h2:upd H' p (.lst ys) p=some (.lst ys):=ae
   generalize upd H' p (.lst ys)=H2 at s2 x2 h2⊢
   refine⟨_,rfl,p,rfl,⟨_,aC.of h2⟩,Fx (K:=K) (a:=p) (xs:=ys) (k:=0) (fun i zs σ' H''=>(∃v,σ'=[v])/\H''=H2/\zs.Sublist (ys.take i)/\cb H2 zs ((((bP 1 (n+1)).take i).filter (least xs)).map (jJ xs))) (by lia) ⟨⟨none,rfl⟩,rfl,List.nil_sublist _,.nil⟩
    (fun i zs σ' H'' _ q=>by rw[q.2.1];exact aC.of h2) (fun i zs σ' H'' q=>by have:=q.2.2.1.length_le;rw[N5]at this;lia) ?_ ?_⟩
   .rintro i zs σ' H'' x R hx ⟨⟨v,rfl⟩,rfl,sb,lx⟩ done
    obtain⟨a,ns,rfl,ha,hns⟩:=x2.get hx
    rw[NZ]at hns
    have hi:i<(n+1-1).toNat:=by
     have:=List.getElem?_eq_some_iff.mp hx
     obtain⟨z,_⟩:=this
     rw[x2.length,NY,aJ]at z
     exact z
    have gi:=dt hi
    rw[gi]at hns
    cases hns
    have ib1:(1:Int)<=1+i:=by lia
    have ib2:(1:Int)+i<=n:=by lia
    have h0:(jJ xs (1+i))[0]?=some (1+(i:Int)):=by
     unfold jJ
     rw[NZ,List.getElem?_range (by unfold hU;lia)]
     rfl
    have et2:(ys.take (i+1))=ys.take i++[.ref a]:=by rw[List.take_succ,hx];rfl
    have ef:((bP 1 (n+1)).take (i+1))=(bP 1 (n+1)).take i++[1+(i:Int)]:=by rw[List.take_succ,gi];rfl
    obtain⟨M,M1,M2⟩:∃M,M∈jJ xs (1+i)/\∀b∈jJ xs (1+i),M<=b:=rL (List.ne_nil_of_mem (N9 h0))
    refine⟨_,rfl,a,_,_,_,rfl,rfl,aC.of ha,ma (by lia) h0,_,rfl,a,_,M,rfl,aC.of ha,M1,M2,rfl,_,rfl,?_⟩
    have el:decide (V.int (1+(i:Int))=V.int M)=least xs (1+i):=by
     rw[Bool.eq_iff_iff]
     unfold least
     rw[List.all_eq_true]
     simp only[decide_eq_true_eq]
     constructor
     .intro e b hb
      cases e
      exact M2 b hb
     .intro h
      have e1:=h M M1
      have e2:=M2 _ (N9 h0)
      rw[Int.le_antisymm e1 e2]
    rw[el]
    cases hL:least xs (1+(i:Int))with
    |true=>
     refine sk ⟨_,rfl,done _ _ _ ⟨⟨_,rfl⟩,rfl,?_,?_⟩⟩
     .rw[et2];exact sb.append (List.Sublist.refl _)
     .rw[ef,List.filter_append,N2,List.filter_cons_of_pos hL]
      exact lx.snoc ha
    |false=>
     refine sF (done _ _ _ ⟨⟨_,rfl⟩,rfl,?_,?_⟩)
     .rw[et2];exact sb.trans (List.sublist_append_left _ _)
     .rw[ef,List.filter_append,N2,List.filter_cons_of_neg (by rw[hL];decide),List.filter_nil,List.map_nil,List.append_nil]
      exact lx
   .rintro zs σ' H'' q ⟨⟨v,rfl⟩,rfl,sb,lx⟩ hq
    rw[List.take_of_length_le (Nat.le_refl _)]at sb
    have e3:(bP 1 (n+1)).take ys.length=bP 1 (n+1):=List.take_of_length_le (by rw[aJ,l1];lia)
    rw[e3]at lx
    refine k q zs _ (s2.free hq) ae (lx.keep (ag.new hq)) (f1.sub sb) (fun z=>?_) (s2.trans (ag.new hq))
    obtain⟨ns,e⟩:=lx.mem z
    rw[hq]at e
    cases e
end
theorem xc{n:Int}{xs:List Int}(o:Ord n xs):xi n (aU n xs)=xs:=by
 have R:=DY o
 refine Gr (n:=n) (uy n _) o.length fun x a b=>?_
 rw[Gi a b]
 obtain⟨r,hr,hx⟩:=List.mem_flatten.mp (uw o a b)
 obtain⟨j,hj⟩:=List.mem_iff_getElem?.mp hx
 rw[HE R.nd hr hj]
 obtain⟨_,_,c3⟩:=(R.NG r hr).2 j x hj
 rw[N8,c3]
 rfl
def rB(d:PyData)(n:Int)(xs:List Int):Prop:=d= .str (om (aU n xs))/\Ord n xs/\1<=n/\n<=12
theorem qA{n:Int}{xs:List Int}(o:Ord n xs)(n1:1<=n)(n12:n<=12):aU n xs≠[]/\(∀r∈aU n xs,DP r)/\(∀r∈aU n xs,∀i∈r,1<=i/\i<=n)/\((aU n xs).flatten.length:Int)=n:=by
 obtain⟨f1,f2,_⟩:=kS o
 refine⟨fun z=>?_,fun r hr=>⟨(f2 r hr).1,fun i hi=>by have:=(f2 r hr).2.2 i hi;lia⟩,fun r hr=>(f2 r hr).2.2,by lia⟩
 rw[z]at f1;simp at f1;lia
theorem rB.split {d:PyData}{n:Int}{xs:List Int}{x:Str}(h:rB d n xs)(e:d= .str x):Txt.split (Txt.slice x (some 1) (some (-1))) (NX ")(")=(aU n xs).map oh/\(∀r∈aU n xs,DP r):=by
 obtain⟨h1,o,n1,n12⟩:=h
 obtain⟨a,b,_,_⟩:=qA o n1 n12
 rw[e]at h1
 injection h1 with h1
 rw[h1]
 exact⟨Br a fun r hr i hi=>((b r hr).2 i hi).1,b⟩
theorem rB.uniq {d:PyData}{n m:Int}{xs ys:List Int}(h:rB d n xs)(g:rB d m ys):xs=ys/\n=m:=by
 obtain⟨e1,b1⟩:=h.split h.1
 obtain⟨e2,b2⟩:=g.split h.1
 have e:=qC b1 b2 (e1.symm.trans e2)
 have l1:=(qA h.2.1 h.2.2.1 h.2.2.2).2.2.2
 have l2:=(qA g.2.1 g.2.2.1 g.2.2.2).2.2.2
 rw[e]at l1
 have nm:n=m:=by lia
 subst nm
 exact⟨by rw[←xc h.2.1,e,xc g.2.1],rfl⟩
def yh(C:Addr):Sp:=fun vs H Q E=>∃(v:V)(d:PyData),vs=[v]/\DT H (fun _=>True) v d/\(∀x,d= .str x->x.length<=990)/\(∀n xs,rB d n xs->∀t H',H t=none->H' t=some (.tup (xs.map V.int))->ag H H'->Q (.ref t) H')/\((∀n xs,¬rB d n xs)->∀bb H',ag H H'->E (.ref C) bb H')
def Ca(c d k:Nat):Nat:=if k=c then d else k
theorem pS(c d:Nat):∀{l:List Nat},c∉l->l.map (Ca c d)=l
 |[],_=>rfl
 |k::r,h=>by
  rw[N4,pS c d (fun z=>h (List.mem_cons_of_mem _ z))]
  congr 1
  exact if_neg fun(z:k=c)=>h (by rw[z];exact List.mem_cons_self)
theorem uZ(c d:Nat):∀{ps:List (List Nat)},(∀p∈ps,c∉p)->(glue c ps).map (Ca c d)=glue d ps
 |[],_=>rfl
 |[p],h=>pS c d (h p List.mem_cons_self)
 |p::q::r,h=>by
  have ih:=uZ c d (ps:=q::r) fun a ha=>h a (List.mem_cons_of_mem _ ha)
  have e1:glue c (p::q::r)=p++c::glue c (q::r):=rfl
  have e2:glue d (p::q::r)=p++d::glue d (q::r):=rfl
  rw[e1,e2,N2,N4,ih,pS c d (h p List.mem_cons_self)]
  congr 2
  exact if_pos rfl
theorem tM(x:Str)(c d:Nat):signs (Txt.replace x ⟨#[c]⟩ ⟨#[d]⟩)=(signs x).map (Ca c d):=by
 have e:=StrLaws.join_split x ⟨#[c]⟩
 have f:=StrLaws.split_free x c
 rw[StrLaws.replace_one,bU]
 conv=>rhs;rw[←e]
 rw[bU,uZ]
 intro p hp
 obtain⟨q,hq,rfl⟩:=List.mem_map.mp hp
 exact f q hq
theorem LJ:NX " " =⟨#[32]⟩:=by decide+kernel
theorem MS:NX "," =⟨#[44]⟩:=by decide+kernel
def cm(x:Str):Str:=Txt.replace x (NX " ") (NX ",")
def bl(x:Str):Str:=Txt.replace x (NX ",") (NX " ")
theorem cH(x:Str):signs (cm x)=(signs x).map (Ca 32 44):=by unfold cm;rw[LJ,MS];exact tM x 32 44
theorem xo(x:Str):signs (bl x)=(signs x).map (Ca 44 32):=by unfold bl;rw[LJ,MS];exact tM x 44 32
theorem Iv(x:Str):(cm x).length=x.length:=by rw[←bA,cH,NY,bA]
theorem EA(x:Str):(bl x).length=x.length:=by rw[←bA,xo,NY,bA]
theorem z8{c d:Nat}:∀{l:List Nat},d∉l->(l.map (Ca c d)).map (Ca d c)=l
 |[],_=>rfl
 |k::r,h=>by
  rw[N4,N4,z8 (fun z=>h (List.mem_cons_of_mem _ z))]
  congr 1
  have:k≠d:=fun(z:k=d)=>h (by rw[z];exact List.mem_cons_self)
  unfold Ca
  by_cases e:k=c
  .rw[if_pos e,if_pos rfl,e]
  .rw[if_neg e,if_neg this]
theorem KL{x:Str}(h:44∉signs x):bl (cm x)=x:=bT (by rw[xo,cH,z8 h])
theorem CS(x y:Str):cm (x++y)=cm x++cm y:=bT (by rw[cH,bq,bq,N2,cH,cH])
theorem uV{x:Str}(h:32∉signs x):cm x=x:=bT (by rw[cH,pS _ _ h])
theorem Ly(x:Str):32∉signs (cm x):=by
 rw[cH]
 intro z
 obtain⟨k,_,e⟩:=List.mem_map.mp z
 unfold Ca at e
 split at e
 .cases e
 .rename_i h;exact h e
theorem zF{ts:List Str}(h:∀t∈ts,32∉signs t):cm (Str.join (NX " ") ts)=Str.join (NX ",") ts:=by
 refine bT ?_
 rw[cH,LJ,MS,bU,bU,uZ]
 intro p hp
 obtain⟨q,hq,rfl⟩:=List.mem_map.mp hp
 exact h q hq
theorem IE:∀(ts:List Str),cm (Str.join (NX "") ts)=Str.join (NX "") (ts.map cm):=fun ts=>by
 refine bT ?_
 rw[cH,lb,lb,List.map_flatten,N7,N7]
 congr 1
 exact List.map_congr_left fun t _=>(cH t).symm
def mh(R:List (Int×Int)):Str:=if R=[]then NX "none"else Str.join (NX ",") (R.map i6)
theorem Az{R:List (Int×Int)}(h:∀e∈R,0<=e.1/\0<=e.2):cm (lA R)=mh R:=by
 unfold lA mh
 by_cases c:R=[]
 .rw[if_pos (by rw[c];rfl),if_pos c]
  exact uV (by decide+kernel)
 .rw[if_neg (by intro z;exact c (List.length_eq_zero_iff.mp z)),if_neg c]
  refine zF fun p hp=>?_
  obtain⟨e,he,rfl⟩:=List.mem_map.mp hp
  intro z
  have:=ex_free (h e he).1 (h e he).2 32 z
  lia
theorem Ff{R:List (Int×Int)}(h:∀e∈R,0<=e.1/\0<=e.2):44∉signs (lA R):=by
 unfold lA
 split
 .decide+kernel
 .rw[LJ,bU]
  intro z
  have key:∀{ps:List (List Nat)},44∈glue 32 ps->∃p∈ps,44∈p:=by
   intro ps
   induction ps with
   |nil=>intro z;cases z
   |cons p r ih=>
    intro z
    cases r with
    |nil=>exact⟨p,List.mem_cons_self,z⟩
    |cons q r=>
     have e1:glue 32 (p::q::r)=p++32::glue 32 (q::r):=rfl
     rw[e1]at z
     rcases List.mem_append.mp z with z|z
     .exact⟨p,List.mem_cons_self,z⟩
     .rcases List.mem_cons.mp z with z|z
      .cases z
      .obtain⟨a,ha,q⟩:=ih z
       exact⟨a,List.mem_cons_of_mem _ ha,q⟩
  obtain⟨p,hp,q⟩:=key z
  obtain⟨s,hs,rfl⟩:=List.mem_map.mp hp
  obtain⟨e,he,rfl⟩:=List.mem_map.mp hs
  have:=ex_free (h e he).1 (h e he).2 44 q
  lia
theorem EZ{R:List (Int×Int)}(h:∀e∈R,0<=e.1/\0<=e.2):bl (mh R)=lA R:=by rw[←Az h];exact KL (Ff h)
theorem E9{R:List (Int×Int)}(h:∀e∈R,0<=e.1/\0<=e.2):32∉signs (mh R):=by rw[←Az h];exact Ly _
def pV(r:List Int):Str:=Str.join (NX ",") (r.map aF)
theorem yA{r:List Int}(h:∀x∈r,0<=x):cm (oh r)=pV r:=zF fun p hp=>by
 obtain⟨x,hx,rfl⟩:=List.mem_map.mp hp
 exact iN (h x hx) (by lia)
def jL(rs:List (List Int)):Str:=Str.join (NX "") (rs.map fun r=>NX "(" ++pV r++NX ")")
theorem Gx{rs:List (List Int)}(h:∀r∈rs,∀x∈r,0<=x):cm (om rs)=jL rs:=by
 unfold om jL
 rw[IE,N7]
 congr 1
 refine List.map_congr_left fun r hr=>?_
 show cm (NX "(" ++oh r++NX ")")=_
 rw[CS,CS,yA (h r hr),uV (by decide+kernel),uV (by decide+kernel)]
theorem IA{i:Int}(h:0<=i):32∉signs (aF i):=iN h (by lia)
theorem kg{ts:List Str}(ne:ts≠[])(h:∀t∈ts,32∉signs t):Txt.split (Str.join (NX " ") ts) (NX " ")=ts:=by
 rw[LJ];exact fQ ne h
end Sw
namespace L2
open PySem PySem.Spec PyProof.Rows
def Lw(x:Str):It:=⟨fun i _=>i<x.length,fun i H v H'=>H'=H/\∃c,x.cps[i]?=some c/\v= .str ⟨#[c]⟩,fun i _=>x.length<=i⟩
theorem A1{P:Program}{w:World}{K:W.Frag}{tg:Expr}(it:Addr)(x:Str)(t:Tok):
  Turn P w K tg (Lw x) [it] it (fun i h=>h.IsStrIter it "str_ascii_iterator" x t i)where
 mem:=by simp
 obj:=fun i h st b hb=>by
  have e:b=it:=by simpa using hb
  subst e
  obtain⟨o,e,c,d⟩:=st
  exact⟨o,e,fun v z=>by rw[d]at z;cases z⟩
 keep:=fun i h h' st k=>by
  obtain⟨o,e,c,d⟩:=st
  exact⟨o,k it (by simp) o e,c,d⟩
 item:=by
  intro X hP hw hK hc i pins s σ H E I hf st hg
  subst hP hw hK
  have hi:i<x.cps.size:=hg
  obtain⟨f0,f1,f2,f3,f4,f5⟩:=hf it (by simp)
  refine wpAny_pyNext_ascii_item st (c:=x.cps[i]) (by simp[hi]) fun h' st' sb=>?_
  have I1:Inv X pins σ H {s with heap:=h',toks:=s.toks+1}:=I.turned (fun b o hb e=>(sb.2 b hb).trans e) f0 f1 f3 f4 f5
  obtain⟨o,e,c,d⟩:=id st'
  exact⟨_,rfl,wM (s:={s with heap:=h',toks:=s.toks+1}) e c d (by decide) ⟨.str ⟨#[x.cps[i]]⟩,H,I1,⟨_,rfl⟩,⟨rfl,_,by simp[hi],rfl⟩,st',fun b hb=>(hf b hb).1⟩⟩
 done:=by
  intro X hP hw hK hc i pins s σ H E I hf st hg
  subst hP hw hK
  have hi:x.cps.size<=i:=hg
  obtain⟨f0,f1,f2,f3,f4,f5⟩:=hf it (by simp)
  exact wpAny_pyNext_ascii_end (I.ok.hd hc) st (by simp;lia) fun h' eb=>⟨rfl,I.turned (t':=s.toks) (fun b o hb e=>eb b o hb e) f0 f1 f3 f4 f5⟩
 self:=fun _ _ _ _ _ st h=>wpAny_pyIter_striter_ascii st h
theorem Bx{P:Program}{w:World}{K:W.Frag}{tg:Expr}(it:Addr)(x:Str)(t:Tok):
  Turn P w K tg (Lw x) [it] it (fun i h=>h.IsStrIter it "str_iterator" x t i)where
 mem:=by simp
 obj:=fun i h st b hb=>by
  have e:b=it:=by simpa using hb
  subst e
  obtain⟨o,e,c,d⟩:=st
  exact⟨o,e,fun v z=>by rw[d]at z;cases z⟩
 keep:=fun i h h' st k=>by
  obtain⟨o,e,c,d⟩:=st
  exact⟨o,k it (by simp) o e,c,d⟩
 item:=by
  intro X hP hw hK hc i pins s σ H E I hf st hg
  subst hP hw hK
  have hi:i<x.cps.size:=hg
  obtain⟨f0,f1,f2,f3,f4,f5⟩:=hf it (by simp)
  refine wpAny_pyNext_wide_item st (c:=x.cps[i]) (by simp[hi]) fun h' st' sb=>?_
  have I1:Inv X pins σ H {s with heap:=h',toks:=s.toks+1}:=I.turned (fun b o hb e=>(sb.2 b hb).trans e) f0 f1 f3 f4 f5
  obtain⟨o,e,c,d⟩:=id st'
  exact⟨_,rfl,wM (s:={s with heap:=h',toks:=s.toks+1}) e c d (by decide) ⟨.str ⟨#[x.cps[i]]⟩,H,I1,⟨_,rfl⟩,⟨rfl,_,by simp[hi],rfl⟩,st',fun b hb=>(hf b hb).1⟩⟩
 done:=by
  intro X hP hw hK hc i pins s σ H E I hf st hg
  subst hP hw hK
  have hi:x.cps.size<=i:=hg
  obtain⟨f0,f1,f2,f3,f4,f5⟩:=hf it (by simp)
  exact wpAny_pyNext_wide_end (I.ok.hd hc) st (by simp;lia) fun h' eb=>⟨rfl,I.turned (t':=s.toks) (fun b o hb e=>eb b o hb e) f0 f1 f3 f4 f5⟩
 self:=fun _ _ _ _ _ st h=>wpAny_pyIter_striter_wide st h
def MC(te:TE):TI:=fun σ H R=>te σ H fun v H1=>∃x,v= .str x/\R (Lw x) H1
theorem JO{X:Cx}{e tg:Expr}{te:TE}(he:PE X e te):PI X tg e (MC te):=by
 intro pins s σ H R I h
 refine aW (he pins s σ H _ I h) fun u s2 ⟨v,H2,I2,rv,x,ev,hR⟩=>?_
 subst ev
 obtain⟨t,rfl⟩:=rv
 have fp:∀b∈[s2.heap.objs.size],j4 X pins H2 b:=fun b hb=>by
  have e:b=s2.heap.objs.size:=by simpa using hb
  subst e
  exact I2.Bf (Nat.le_refl _) (I2.aY.fresh (Nat.le_refl _))
 cases ha:x.cps.all (·<128)
 .exact wpAny_pyIter_wide ha ⟨s2.heap.objs.size,[s2.heap.objs.size],_,_,H2,rfl,I2.kept (t':=s2.toks) fun b o e=>Heap.get?_push_of_some _ e,Bx _ x t,⟨_,Heap.get?_push_size _ rfl,rfl,rfl⟩,fp,hR⟩
 .exact wpAny_pyIter_ascii ha ⟨s2.heap.objs.size,[s2.heap.objs.size],_,_,H2,rfl,I2.kept (t':=s2.toks) fun b o e=>Heap.get?_push_of_some _ e,A1 _ x t,⟨_,Heap.get?_push_size _ rfl,rfl,rfl⟩,fp,hR⟩
theorem Fs{ix:List (Option Nat)}{tc:TT}{te:TE}{σ:St}{Q:VK}{H:Hp}{x:Str}{k:Nat}(Pv:Nat->List V->St->Hp->Prop)(hn:x.length<=1000000)(h0:Pv 0 [] (dC ix σ) H)
  (hlen:∀i ys σ H,Pv i ys σ H->ys.length<=i)
  (hs:∀i ys σ H c(R:St->List V->Hp->Prop),x.cps[i]?=some c->Pv i ys σ H->(∀σ2 ys2 H5,Pv (i+1) ys2 σ2 H5->R σ2 ys2 H5)->
   tc (σ.set k (some (.str ⟨#[c]⟩))) H fun b H4=>if b=true then te (σ.set k (some (.str ⟨#[c]⟩))) H4 fun v H5=>R (σ.set k (some (.str ⟨#[c]⟩))) (ys++[v]) H5 else R (σ.set k (some (.str ⟨#[c]⟩))) ys H4)
  (hd:∀ys σ' H' p,Pv x.length ys σ' H'->H' p=none->Q (.ref p) (upd H' p (.lst ys))):hW ix (cF k) tc te σ Q (Lw x) H:=by
 refine iY Pv hn h0 (fun i ys σ H hi p=>hi) (fun ys σ H p=>Nat.le_refl _) hlen (fun i ys σ H v H2 R hi p y r=>?_) hd
 obtain⟨rfl,c,hc,rfl⟩:=y
 unfold cF
 exact hs i ys σ _ c R hc p r
theorem Lj{ix:List (Option Nat)}{te:TE}{σ:St}{Q:VK}{H:Hp}{x:Str}{k:Nat}(Pv:Nat->List V->St->Hp->Prop)(hn:x.length<=1000000)(h0:Pv 0 [] (dC ix σ) H)
  (hlen:∀i ys σ H,Pv i ys σ H->ys.length<=i)
  (hs:∀i ys σ H c(R:St->List V->Hp->Prop),x.cps[i]?=some c->Pv i ys σ H->(∀σ2 ys2 H5,Pv (i+1) ys2 σ2 H5->R σ2 ys2 H5)->
   te (σ.set k (some (.str ⟨#[c]⟩))) H fun v H5=>R (σ.set k (some (.str ⟨#[c]⟩))) (ys++[v]) H5)
  (hd:∀ys σ' H' p,Pv x.length ys σ' H'->H' p=none->Q (.ref p) (upd H' p (.lst ys))):hW ix (cF k) gT te σ Q (Lw x) H:=by
 refine Fs Pv hn h0 hlen (fun i ys σ H c R hc p r=>?_) hd
 unfold gT
 simp only[if_true]
 exact hs i ys σ H c R hc p r
def MF:R2:=fun x y H Q=>∃a b,x= .str a/\y= .str b/\Q (.bl (Txt.contains b a)) H
theorem JW{X:Cx}:lg X (compareOp .In) MF:=by
 intro pins s σ H x y v u Q I rx ry h
 obtain⟨a,b,rfl,rfl,q⟩:=h
 obtain⟨t,rfl⟩:=rx
 obtain⟨t',rfl⟩:=ry
 exact P.in_str ⟨.bl _,H,I,rfl,q⟩
end L2
namespace Sw
open PySem L2
def isNm(w:Str):Prop:=1<=w.length/\w.length<=8/\∀c∈signs w,97<=c/\c<=122
theorem yP(c:Nat):Txt.contains (NX "abcdefghijklmnopqrstuvwxyz") ⟨#[c]⟩=decide (97<=c/\c<=122):=by
 unfold Txt.contains
 rw[StrLaws.found_one,Bool.eq_iff_iff,decide_eq_true_eq,decide_eq_true_eq]
 have e:(NX "abcdefghijklmnopqrstuvwxyz").cps.toList=List.range' 97 26:=by decide+kernel
 rw[e,List.mem_range'_1]
 lia
open Classical in
noncomputable def dY(n:Int)(d w:Str):Option Wd:=
 if d=NX "number"then(if h:∃i:Int,w=aF i/\0<=i/\i<10^9 then some (.num h.choose)else none)
 else if d=NX "row"then(if h:∃R,qr n (.str (bl w)) R then some (.row h.choose)else none)
 else if d=NX "order"then(if h:∃xs,rB (.str (bl w)) n xs then some (.ord h.choose)else none)
 else if isNm w then some (.txt w)else none
theorem vZ{n:Int}{w:Str}(h:isNm w):dY n (NX "name") w=some (.txt w):=by
 unfold dY
 rw[if_neg (by decide+kernel),if_neg (by decide+kernel),if_neg (by decide+kernel),if_pos h]
theorem Fm{n:Int}{w:Str}(h:isNm w):dY n (NX "new") w=some (.txt w):=by
 unfold dY
 rw[if_neg (by decide+kernel),if_neg (by decide+kernel),if_neg (by decide+kernel),if_pos h]
theorem zI{n i:Int}(h0:0<=i)(h9:i<10^9):dY n (NX "number") (aF i)=some (.num i):=by
 unfold dY
 have h:∃j:Int,aF i=aF j/\0<=j/\j<10^9:=⟨i,rfl,h0,h9⟩
 rw[if_pos rfl,dif_pos h]
 have:=h.choose_spec
 rw[qc (a:=h.choose) (b:=i) this.2.1 h0 (by lia) (by lia) this.1.symm]
theorem DC{n:Int}{w:Str}(h:¬vN w):dY n (NX "number") w=none:=by
 unfold dY
 rw[if_pos rfl]
 exact dif_neg h
theorem wk{n:Int}{w:Str}{R:List (Int×Int)}(hn:n<1000)(h:qr n (.str (bl w)) R):dY n (NX "row") w=some (.row R):=by
 unfold dY
 have hx:∃R',qr n (.str (bl w)) R':=⟨R,h⟩
 rw[if_neg (by decide+kernel),if_pos rfl,dif_pos hx]
 have q:=hx.choose_spec
 have q1:=q.1.symm.trans h.1
 injection q1 with q1
 rw[DX hn q.2.1 h.2.1 q1]
theorem CQ{n:Int}{w:Str}(h:∀R,¬qr n (.str (bl w)) R):dY n (NX "row") w=none:=by
 unfold dY
 rw[if_neg (by decide+kernel),if_pos rfl,dif_neg (fun⟨R,z⟩=>h R z)]
theorem Ea{n:Int}{w:Str}{xs:List Int}(h:rB (.str (bl w)) n xs):dY n (NX "order") w=some (.ord xs):=by
 unfold dY
 have hx:∃ys,rB (.str (bl w)) n ys:=⟨xs,h⟩
 rw[if_neg (by decide+kernel),if_neg (by decide+kernel),if_pos rfl,dif_pos hx,(hx.choose_spec.uniq h).1]
theorem wU{n:Int}{w:Str}(h:∀xs,¬rB (.str (bl w)) n xs):dY n (NX "order") w=none:=by
 unfold dY
 rw[if_neg (by decide+kernel),if_neg (by decide+kernel),if_pos rfl,dif_neg (fun⟨R,z⟩=>h R z)]
theorem xq{n:Int}{d w:Str}(h1:d≠NX "number")(h2:d≠NX "row")(h3:d≠NX "order"):(isNm w->dY n d w=some (.txt w))/\(¬isNm w->dY n d w=none):=by
 unfold dY
 rw[if_neg h1,if_neg h2,if_neg h3]
 exact⟨fun h=>if_pos h,fun h=>if_neg h⟩
theorem FI{n:Int}{R:List (Int×Int)}(hn:n<1000)(g:Good n R)(l:R.length<=60):dY n (NX "row") (mh R)=some (.row R):=
 wk hn ⟨by rw[EZ fun e he=>by have:=g e he;lia],g,l⟩
def LZ:Sp:=fun vs H Q _=>∃t:Str,vs=[.str t]/\t.length<=100000/\Q (.str (cm t)) H
def Hn(C:Addr):Sp:=fun vs H Q E=>∃x:Str,vs=[.str x]/\x.length<=1000/\(isNm x->∀v H',ag H H'->Q v H')/\(¬isNm x->∀H',ag H H'->E (.ref C) none H')
structure L8(mg:Str->Option Value)(K:W.Frag)(u8 ul:Value)(C:Addr):Prop extends T1 mg K where
 jX:mg "MOST_LETTERS" =some u8
 jP:RelV (.int 8) u8
 t8:mg "LETTERS" =some ul
 ua:RelV (.str (NX "abcdefghijklmnopqrstuvwxyz")) ul
 bf:mg "NoText" =some (.ref C)
 bO:iH K C
def Ir(C:Addr)(L:dX):Sp:=fun vs H Q E=>L.okd (NX "number")=true/\yC C vs H Q E
def Iu(C:Addr)(L:dX):Sp:=fun vs H Q E=>L.okd (NX "row")=true/\yE C vs H Q E
def IM(C:Addr)(L:dX):Sp:=fun vs H Q E=>L.okd (NX "order")=true/\yh C vs H Q E
structure LF(P:Program)(w:World)(K:W.Frag)(mg:Str->Option Value)(base:Heap)(L:dX):Prop extends T1 mg K where
 bS:iE P w K mg base "read_number" 1 ["word"] (Ir L.CT L)
 qW:iE P w K mg base "read_row" 7 ["n","text"] (Iu L.CT L)
 mO:iE P w K mg base "read_order" 5 ["text"] (IM L.CT L)
 nB:iE P w K mg base "check_name" 1 ["word"] (Hn L.CT)
 bf:mg "NoText" =some (.ref L.CT)
 bO:iH K L.CT
section
variable{P:Program}{w:World}{K:W.Frag}{mg:Str->Option Value}{base:Heap}{u8 ul:Value}{C:Addr}{L:dX}
theorem wm:az ["text"] ["text"] (ar (top 94)):=⟨rfl,rfl,rfl,by decide+kernel,rfl,by decide+kernel,by decide+kernel⟩
theorem K7{f:Addr}{fd:FuncData}(F:dh K "one_word" "one_word" (top 94) f fd):iB P w K mg base (jG P w) 1 f fd ["text"] LZ:=by
 refine F.Mz wm (fun vs H Q E h=>?_) (fun cdv A outer s H vs Q E hr h=>?_)
 .obtain⟨t,rfl,_⟩:=h
  rfl
 .obtain⟨t,rfl,ht,k⟩:=h
  exact⟨_,(mH (qu (uT (by decide+kernel) (by decide+kernel) (QE.of (pv 0)) ⟨rfl,rfl,rfl,rfl⟩))),_,rfl,t,rfl,ht,k⟩
theorem sP:az ["word"] ["word"] (ar (top 96)):=⟨rfl,rfl,rfl,by decide+kernel,rfl,by decide+kernel,by decide+kernel⟩
theorem JZ{f:Addr}{fd:FuncData}(F:dh K "check_name" "check_name" (top 96) f fd)(T:L8 mg K u8 ul C):aR P w K mg base (jG P w) 1 f fd ["word"] (Hn C):=by
 refine F.Be sP (fun vs H Q E h=>?_) (fun cdv A outer s H vs Q E hr h=>?_)
 .obtain⟨x,rfl,_⟩:=h
  rfl
 .obtain⟨x,rfl,xl,kY,kN⟩:=h
  refine⟨_,(ai (bt (PW.pt (lL (dz (Df zY zY ak (aq jg rfl T.bV (by decide+kernel) (aa (pv 0) af)) (cT rfl T.jX T.jP))) (j9 (dz (cC (aq (nU (K:=K) rfl rfl) rfl T.zG (by decide+kernel) (aa (bQ (N:=(["letter"]:List Str)) (ix:=([none]:List (Option Nat))) (bc rfl rfl) rfl (JO (pv 0)) (fun _ _ _ _=>(ay (i:=0) (show List.Nodup (["letter"]:List Str)from by decide+kernel) rfl (Or.inl rfl))) (fun _ _ _ _=>bg) (fun _ _ _ _=>(fH JW (pv 0) (cT rfl T.t8 T.ua) rfl))) af))))))) (ai (cJ pH T.bO rfl rfl T.bf (aa aw af))) aE)),?_⟩
  have big:(10000000:Nat)<=sizeLine:=by decide
  have one:1<=sizeLine:=by decide
  have no:¬isNm x->(1:Nat)<=sizeLine/\E (.ref C) none H:=fun z=>⟨one,kN z H (ag.refl _)⟩
  refine⟨_,rfl,x,rfl,by lia,_,_,rfl,rfl,_,rfl,?_⟩
  by_cases c1:1<=x.length
  case neg=>
   rw[if_neg (by rw[decide_eq_true_eq];lia)]
   exact⟨_,rfl,no fun z=>c1 z.1⟩
  rw[if_pos (by rw[decide_eq_true_eq];lia)]
  refine⟨_,_,rfl,rfl,_,rfl,?_⟩
  by_cases c2:x.length<=8
  case neg=>
   rw[decide_eq_false (by lia)]
   exact no fun z=>c2 z.2.1
  rw[decide_eq_true (by lia)]
  refine⟨_,rfl,x,rfl,?_⟩
  refine Lj (fun i ys σ' H'=>H'=H/\(∃v0,σ'=[v0])/\∃bs:List Bool,ys=bs.map V.bl/\bs=((signs x).take i).map fun c=>decide (97<=c/\c<=122)) (by lia) ⟨rfl,⟨none,rfl⟩,[],rfl,rfl⟩ (fun i ys σ' H' ⟨_,_,bs,e1,e2⟩=>by
   rw[e1,NY,e2,NY,N5];lia) (fun i ys σ' H' c R hc ⟨eH,⟨v0,e0⟩,bs,e1,e2⟩ r=>?_) (fun ys σ' H' l ⟨eH,_,bs,e1,e2⟩ fl=>?_)
  .subst e0
   refine⟨_,rfl,_,_,rfl,rfl,r _ _ _ ⟨eH,⟨_,rfl⟩,bs++[decide (97<=c/\c<=122)],?_,?_⟩⟩
   .rw[e1,N2,yP]
    rfl
   .have hs:(signs x)[i]?=some c:=by unfold signs;simpa using hc
    rw[e2,List.take_succ,hs,N2]
    rfl
  .subst eH
   subst e1
   refine⟨l,bs,rfl,aC.of ae,_,rfl,?_⟩
   have e3:bs.all id=true↔∀c∈signs x,97<=c/\c<=122:=by
    rw[e2,List.take_of_length_le (by rw[bA];exact Nat.le_refl _),List.all_eq_true]
    simp
   cases e4:bs.all id with
   |true=>exact kY ⟨c1,c2,e3.mp e4⟩ _ _ (ag.new fl)
   |false=>exact⟨one,kN (fun z=>by rw[e3.mpr z.2.2]at e4;cases e4) _ (ag.new fl)⟩
theorem m8:az ["n","due","word","order"] ["n","due","word"] (ar (top 97)):=⟨rfl,rfl,rfl,by decide+kernel,rfl,by decide+kernel,by decide+kernel⟩
theorem Ln{f:Addr}{fd:FuncData}(F:dh K "read_word" "read_word" (top 97) f fd)(hL:L.E6=dY)(T:LF P w K mg base L):aR P w K mg base (jG P w) 9 f fd ["n","due","word"] (Kw L):=by
 refine F.Be m8 (fun vs H Q E h=>?_) (fun cdv A outer s H vs Q E hr h=>?_)
 .obtain⟨n,d,w',rfl,_⟩:=h
  rfl
 .obtain⟨n,d,w',rfl,n1,n2,wl,aY,kY,kN⟩:=h
  refine⟨_,(tE (KU (Fy cG (pv 1) le_str (aL _)) (ai (aA (dN T.bS j7 (hr.mono (by decide)) rfl (aa (pv 2) af)))) aE)
   (di (CJ (aI cG (pv 1) aw (aL _)) (mH (qu (pZ T.qW.toQ j7 (hr.mono (by decide)) rfl (nv (QE.of (pv 0)) (nv (uT (by decide+kernel) (by decide+kernel) (QE.of (pv 2)) ⟨rfl,rfl,rfl,rfl⟩) uA))))) (ya.of aE))
   (di (CJ (aI cG (pv 1) aw (aL _)) (di (IL (i:=3) m8.nd rfl (Or.inl rfl) (pZ T.mO.toQ j7 (hr.mono (by decide)) rfl (nv (uT (by decide+kernel) (by decide+kernel) (QE.of (pv 2)) ⟨rfl,rfl,rfl,rfl⟩) uA)))
   (ya.of (ah (bt (aI lG (aq (aK (K:=K) rfl) rfl T.bV (by decide+kernel) (aa (pv 3) af)) (pv 0) (aL _)) (ai (cJ pH T.bO rfl rfl T.bf (aa aw af))) aE)
   (ai (aA (pv 3)))))) (ya.of aE))
   (ya.of (ah (cB (dN T.nB j7 (hr.mono (by decide)) rfl (aa (pv 2) af)))
   (ai (aA (pv 2)))))))),?_⟩
  have one:1<=sizeLine:=by decide
  rw[hL]at kY kN
  refine⟨_,rfl,rfl,_,rfl,dQ (fun c=>?_) (fun c1=>?_)⟩
  .obtain rfl:d=NX "number" :=by simpa using c
   refine⟨_,rfl,aY,?_⟩
   by_cases hn:vN w'
   .obtain⟨i,rfl,i0,i9⟩:=hn
    exact .inl ⟨i,rfl,i0,i9,kY _ (zI i0 i9) _ _ rfl (ag.refl _)⟩
   .exact .inr ⟨w',rfl,by lia,hn,kN (DC hn) none H (ag.refl _)⟩
  refine⟨_,rfl,rfl,_,rfl,dQ (fun c=>?_) (fun c2=>?_)⟩
  .obtain rfl:d=NX "row" :=by simpa using c
   refine⟨_,rfl,_,rfl,w',rfl,by lia,aY,?_⟩
   by_cases hn:∃R,qr n (.str (bl w')) R
   .obtain⟨R,hR⟩:=hn
    have e:=hR.1
    injection e with e
    refine .inl ⟨n,R,by rw[←e];rfl,hR.2.1,by lia,hR.2.2,fun l es H' fl hl hx sm=>kY _ (wk (by lia) hR) _ _ ⟨l,es,rfl,hl,hx⟩ sm⟩
   .have hn:∀R,¬qr n (.str (bl w')) R:=fun R z=>hn ⟨R,z⟩
    exact .inr ⟨n,_,fun _=>True,_,rfl,.str _,fun x z=>by cases z;rw[show(Txt.replace w' (NX ",") (NX " ")).length=w'.length from EA w'];exact wl,hn,fun H' sm=>kN (CQ hn) none H' sm⟩
  refine⟨_,rfl,rfl,_,rfl,dQ (fun c=>?_) (fun c3=>?_)⟩
  .obtain rfl:d=NX "order" :=by simpa using c
   refine⟨_,rfl,w',rfl,by lia,aY,?_⟩
   refine⟨_,.str (bl w'),rfl,.str _,fun x z=>by cases z;rw[EA];exact wl,fun m xs ho t H' ft ht sm=>?_,fun hn bb H' sm=>kN (wU (hn n)) bb H' sm⟩
   refine⟨_,rfl,_,_,rfl,.inr (e8.of ht),_,rfl,rfl,_,rfl,dQ (fun c=>?_) (fun c=>?_)⟩
   .refine⟨one,kN (wU fun ys hy=>?_) none H' sm⟩
    have:=(ho.uniq hy)
    have hl:=Ord.length hy.2.1
    rw[this.1]at c
    simp only[NY,Bool.not_eq_true',decide_eq_false_iff_not,V.int.injEq]at c
    lia
   .have hl:=Ord.length ho.2.1
    simp only[NY,Bool.not_eq_true',decide_eq_false_iff_not,V.int.injEq]at c
    have:m=n:=by lia
    subst this
    exact⟨_,rfl,kY _ (Ea ho) _ _ ⟨t,rfl,ht⟩ sm⟩
  have ne:∀x:Str,decide (V.str d=V.str x)≠true->d≠x:=fun x z e=>z (by rw[e];simp)
  have q:=xq (n:=n) (w:=w') (ne _ c1) (ne _ c2) (ne _ c3)
  exact⟨_,rfl,w',rfl,by lia,fun hn v H' sm=>⟨_,rfl,kY _ (q.1 hn) _ _ rfl sm⟩,fun hn H' sm=>kN (q.2 hn) none H' sm⟩
end
section
variable{P:Program}{w:World}{K:W.Frag}{mg:Str->Option Value}{base:Heap}
theorem ja:az ["exchange","thing","a","b"] ["exchange","thing"] (ar (top 32)):=⟨rfl,rfl,rfl,by decide+kernel,rfl,by decide+kernel,by decide+kernel⟩
theorem HD{f:Addr}{fd:FuncData}(F:dh K "exchanged" "exchanged" (top 32) f fd):aR P w K mg base hZ 1 f fd ["exchange","thing"] FL:=by
 refine F.ok ja (fun vs H Q E h=>?_) (fun cdv A outer s H vs Q E hr h=>?_)
 .obtain⟨t,a,b,x,rfl,_⟩:=h
  rfl
 .obtain⟨t,a,b,x,rfl,ht,k⟩:=h
  refine⟨_,(ah (qG (pv 0) (eD (K:=K) (n:=2) rfl rfl (bh (ay (i:=2) ja.nd rfl (Or.inl rfl)) (bh (ay (i:=3) ja.nd rfl (Or.inl rfl)) dW))))
   (ah (bt (aI cG (pv 1) (pv 2) (aL _)) (ai (aA (pv 3))) aE)
   (ah (bt (aI cG (pv 1) (pv 3) (aL _)) (ai (aA (pv 2))) aE)
   (ai (aA (pv 1)))))),?_⟩
  refine⟨_,rfl,t,_,rfl,e8.of ht,rfl,_,_,rfl,_,_,rfl,rfl,?_⟩
  unfold bK at k
  refine⟨_,rfl,_,rfl,rfl,_,rfl,dQ (fun c=>?_) (fun c=>?_)⟩
  .have c:x=a:=by simpa using c
   rw[if_pos c]at k
   exact⟨_,rfl,k⟩
  .have c:¬x=a:=by simpa using c
   rw[if_neg c]at k
   refine⟨_,rfl,_,rfl,rfl,_,rfl,dQ (fun c=>?_) (fun c=>?_)⟩
   .have c:x=b:=by simpa using c
    rw[if_pos c]at k
    exact⟨_,rfl,k⟩
   .have c:¬x=b:=by simpa using c
    rw[if_neg c]at k
    exact⟨_,rfl,k⟩
end
theorem dB.take {H:Hp}:∀{vs:List V}{r:List (Int×Int)}(k:Nat),dB H vs r->dB H (vs.take k) (r.take k)
 |_,_,_,.nil=>by rw[List.take_nil,List.take_nil];exact .nil
 |_,_,0,.cons _ _=> .nil
 |_,_,k+1,.cons h x=> .cons h (x.take k)
theorem dB.drop {H:Hp}:∀{vs:List V}{r:List (Int×Int)}(k:Nat),dB H vs r->dB H (vs.drop k) (r.drop k)
 |_,_,_,.nil=>by rw[List.drop_nil,List.drop_nil];exact .nil
 |_,_,0,.cons h x=> .cons h x
 |_,_,k+1,.cons h x=>x.drop k
theorem dB.ins {H:Hp}{vs:List V}{r:List (Int×Int)}{t:Addr}{a b:Int}(x:dB H vs r)(k:Nat)(h:H t=some (.tup [.int a,.int b])):dB H (vs.take k++ .ref t::vs.drop k) (r.take k++(a,b)::r.drop k):=(x.take k).append (.cons h (x.drop k))
theorem Dk{n:Int}{r:List (Int×Int)}{e:Int×Int}(g:Good n r)(h:1<=e.1/\e.1<e.2/\e.2<=n)(k:Nat):Good n (r.take k++e::r.drop k):=fun d hd=>by
 rcases List.mem_append.mp hd with z|z
 .exact g d (List.mem_of_mem_take z)
 .rcases List.mem_cons.mp z with rfl|z
  .exact h
  .exact g d (List.mem_of_mem_drop z)
theorem Ft{xs:List V}{a:Int}(h0:0<=a)(h:a<=xs.length):ow xs none (some a)=xs.take a.toNat:=by
 have e:HT.sS xs.length 0 none=0:=rfl
 have e2:HT.sS xs.length xs.length (some a)=a.toNat:=by
  simp[HT.sS]
  rw[if_neg (by lia)]
  lia
 unfold ow
 rw[e,e2,List.drop_zero,Nat.sub_zero]
theorem cutD{xs:List V}{a:Int}(h0:0<=a):ow xs (some a) none=xs.drop a.toNat:=by
 have e:HT.sS xs.length 0 (some a)=min a.toNat xs.length:=by
  show(if a<0 then(a+(xs.length:Int)).toNat else min a.toNat xs.length)=_
  rw[if_neg (by lia)]
 have e2:HT.sS xs.length xs.length none=xs.length:=rfl
 unfold ow
 rw[e,e2,List.take_of_length_le (by rw[List.length_drop];exact Nat.le_refl _)]
 by_cases h:a.toNat<=xs.length
 .rw[Nat.min_eq_left h]
 .rw[Nat.min_eq_right (by lia),List.drop_length,List.drop_eq_nil_of_le (by lia)]
def HV:Sp:=fun vs H Q _=>∃(t1 t2:Addr)(a b c d:Int),vs=[.ref t1,.ref t2]/\H t1=some (.tup [.int a,.int b])/\H t2=some (.tup [.int c,.int d])/\∀t H',H t=none->H' t=some (.tup [.int (Ga (a,b) (c,d)).1,.int (Ga (a,b) (c,d)).2])->ag H H'->Q (.ref t) H'
def Am(C:Addr):Sp:=fun vs H Q E=>∃(l:Addr)(es:List V)(row:List (Int×Int))(k:Int)(way:Str),vs=[.ref l,.int k,.str way]/\H l=some (.lst es)/\dB H es row/\row.length<=1000/\
 (∀f:Bool,way=eX f->1<=k->k<row.length->∀l' es' H',H l'=none->H' l'=some (.lst es')->dB H' es' (x9 row (k-1).toNat f)->ag H H'->Q (.ref l') H')/\
 (¬(1<=k/\k<row.length/\∃f,way=eX f)->∀H',ag H H'->E (.ref C) none H')
def kO:List (Str×Str):=[(NX "forth",NX "back"),(NX "back",NX "forth")]
structure Nd(P:Program)(w:World)(K:W.Frag)(mg:Str->Option Value)(base:Heap):Prop extends T1 mg K where
 bC:mg "sorted" =none
 fN:FnAt P w K mg base "exchanged" 1 ["exchange","thing"] FL
structure Nc(P:Program)(w:World)(K:W.Frag)(mg:Str->Option Value)(base:Heap)(U C:Addr):Prop extends T1 mg K where
 eG:FnAt P w K mg base "is_between" 2 ["thing","low","high"] LP
 og:FnAt P w K mg base "carried" 2 ["exchange","other"] HV
 ue:mg "UNDOING" =some (.ref U)
 t6:RelV (.ref U) (.ref U)
 tL:Dh K w.params U kO
 iO:mg "NoMove" =some (.ref C)
 qM:iH K C
theorem Ma{p q:Int}{ns:List Int}(pm:ns.Perm [p,q])(pw:ns.Pairwise (·<=·)):ns=[min p q,max p q]:=by
 have hl:=pm.length_eq
 match ns,hl with
 |[x,y],_=>
  have xy:x<=y:=(List.pairwise_cons.mp pw).1 y (by simp)
  have hx:x∈[p,q]:=pm.mem_iff.mp (by simp)
  have hp:p∈[x,y]:=pm.mem_iff.mpr (by simp)
  have hq:q∈[x,y]:=pm.mem_iff.mpr (by simp)
  have hy:y∈[p,q]:=pm.mem_iff.mp (by simp)
  simp only[N6,List.not_mem_nil,or_false]at hx hp hq hy
  have e1:x=min p q:=by lia
  have e2:y=max p q:=by lia
  rw[e1,e2]
section
variable{P:Program}{w:World}{K:W.Frag}{mg:Str->Option Value}{base:Heap}{U C:Addr}
theorem yI:az ["exchange","other"] ["exchange","other"] (ar (top 63)):=⟨rfl,rfl,rfl,by decide+kernel,rfl,by decide+kernel,by decide+kernel⟩
theorem J7{f:Addr}{fd:FuncData}(F:dh K "carried" "carried" (top 63) f fd)(T:Nd P w K mg base):aR P w K mg base hZ 2 f fd ["exchange","other"] HV:=by
 refine F.ok yI (fun vs H Q E h=>?_) (fun cdv A outer s H vs Q E hr h=>?_)
 .obtain⟨t1,t2,a,b,c,d,rfl,_⟩:=h
  rfl
 .obtain⟨t1,t2,a,b,c,d,rfl,h1,h2,k⟩:=h
  refine⟨_,(ai (aA (aO (cN (K:=K) rfl) rfl T.hJ (by decide+kernel) (aa (aq (h7 (K:=K) rfl) rfl T.bC (by decide+kernel) (aa (bQ (N:=(["thing","other"]:List Str)) (ix:=([none,some 1]:List (Option Nat))) (bc rfl rfl) rfl (Ae (K:=K) rfl (pv 0)) (fun _ _ _ _=>(ay (i:=0) (show List.Nodup (["thing","other"]:List Str)from by decide+kernel) rfl (Or.inl rfl))) (fun _ _ _ _=>bg) (fun _ _ _ _=>(au T.fN (hr.mono (by first|decide|lia)) rfl (aa (pv 1) (aa (pv 0) af))))) af)) af)))),?_⟩
  refine⟨_,rfl,t1,rfl,⟨_,e8.of h1⟩,Ic (K:=K) (a:=t1) (xs:=[a,b].map V.int) (k:=0) (fun i ys σ' H'=>ys=(([a,b].take i).map fun x=>V.int (bK x (c,d)))/\(∃v,σ'=[v,some (.ref t2)])/\H'=H) (by show 2<=1000000;decide) ⟨rfl,⟨none,rfl⟩,rfl⟩ (fun i ys σ' H' _ q=>by rw[q.2.2];exact e8.of h1) (fun i ys σ' H' q=>by rw[q.1,NY,N5];lia) ?_ ?_⟩
  .rintro i ys σ' H' z R hz ⟨rfl,⟨v,rfl⟩,rfl⟩ done
   obtain⟨x,rfl,hx⟩:=iU hz
   refine⟨_,rfl,_,rfl,t2,c,d,x,rfl,h2,?_⟩
   refine done _ _ _ ⟨?_,⟨_,rfl⟩,rfl⟩
   rw[aH _ hx]
  .rintro ys σ' Hb q ⟨rfl,⟨v,rfl⟩,e0⟩ fq
   have e0:=e0.symm
   subst e0
   have s1:ag H (upd H q (.lst [.int (bK a (c,d)),.int (bK b (c,d))])):=ag.new fq
   refine⟨q,[bK a (c,d),bK b (c,d)],rfl,aC.of ae,(by show 2<64;decide),fun l2 ns' f2 pm pw=>?_⟩
   have en:=Ma pm pw
   subst en
   have s2:=s1.trans (ag.new (o:= .lst ([min (bK a (c,d)) (bK b (c,d)),max (bK a (c,d)) (bK b (c,d))].map V.int)) f2)
   refine⟨l2,_,rfl,.inl ⟨aC.of ae,fun t ft=>?_⟩⟩
   exact k t _ (s2.free ft) ae (s2.trans (ag.new ft))
theorem qP:az ["row","k","way","pair","s","t"] ["row","k","way"] (ar (top 64)):=⟨rfl,rfl,rfl,by decide+kernel,rfl,by decide+kernel,by decide+kernel⟩
theorem IU{f:Addr}{fd:FuncData}(F:dh K "moved" "moved" (top 64) f fd)(T:Nc P w K mg base U C):aR P w K mg base (jG P w) 3 f fd ["row","k","way"] (Am C):=by
 refine F.Be qP (fun vs H Q E h=>?_) (fun cdv A outer s H vs Q E hr h=>?_)
 .obtain⟨l,es,row,k,way,rfl,_⟩:=h
  rfl
 .obtain⟨l,es,row,k,way,rfl,hl,hx,rl,kQ,kE⟩:=h
  refine⟨_,(ah (bt (dz (cC (au T.eG (hr.mono (by first|decide|lia)) rfl (@aa _ _ _ _ _ (pv 1) (@aa _ _ _ _ _ ak (@aa _ _ _ _ _ (ax cx (aq (aK (K:=K) rfl) rfl T.bV (by decide+kernel) (aa (pv 0) af)) ak) af yB) n6) du)))) (ai (cJ pH T.qM rfl rfl T.iO (aa aw af))) aE)
   (ah (bt (rh (Bv T.tL (pv 2) (cT rfl T.ue T.t6))) (ai (cJ pH T.qM rfl rfl T.iO (aa aw af))) aE)
   (ah (Jj (i:=4) (j:=5) rfl qP.nd rfl rfl (by decide) rfl rfl (aa (aQ (av (K:=K) rfl) (pv 0) (ax cx (pv 1) ak) (fun _ _=>rfl)) (aa (aQ (av (K:=K) rfl) (pv 0) (pv 1) (fun _ _=>rfl)) af)) rfl)
   (ah (aB (i:=3) qP.nd rfl (Or.inl rfl) (j8 (aI cG (pv 2) aw (aL _)) (aZ (aa (pv 5) (aa (au T.og (hr.mono (by first|decide|lia)) rfl (aa (pv 4) (aa (pv 5) af))) af))) (aZ (aa (au T.og (hr.mono (by first|decide|lia)) rfl (aa (pv 5) (aa (pv 4) af))) (aa (pv 4) af)))))
   (ai (aA (ax gP (ax gP (gG (gU (K:=K) rfl) (pv 0) iZ (i8 (ax cx (pv 1) ak))) (pv 3)) (gG (gU (K:=K) rfl) (pv 0) (i8 (ax bw (pv 1) ak)) iZ)))))))),?_⟩
  have big:(10000000:Nat)<=sizeLine:=by decide
  have two:2<=sizeLine:=by decide
  have xl:=hx.length
  refine⟨_,rfl,_,rfl,l,_,rfl,.inl (aC.of hl),_,_,rfl,rfl,k,1,_,rfl,_,rfl,?_⟩
  by_cases hk:1<=k/\k<=(es.length:Int)-1
  .refine lW (by rw[decide_eq_true hk];rfl) ?_
   refine⟨_,rfl,way,rfl,rfl,_,rfl,?_⟩
   by_cases hw:way∈kO.map (·.1)
   .refine lW (by rw[decide_eq_true hw];rfl) ?_
    obtain⟨v1,hv1⟩:∃v,es[(k-1).toNat]?=some v:=⟨_,N1 (by lia)⟩
    obtain⟨v2,hv2⟩:∃v,es[k.toNat]?=some v:=⟨_,N1 (by lia)⟩
    obtain⟨ts,a,b,rfl,hts,hr1⟩:=hx.get hv1
    obtain⟨tt,c,d,rfl,htt,hr2⟩:=hx.get hv2
    have er1:row.getD (k-1).toNat (0,0)=(a,b):=by rw[N8,hr1];rfl
    have er2:row.getD ((k-1).toNat+1) (0,0)=(c,d):=by rw[show(k-1).toNat+1=k.toNat by lia,N8,hr2];rfl
    have at1:rF es (k-1)=some (.ref ts):=by rw[←Int.toNat_of_nonneg (show 0<=k-1 by lia)];exact aX hv1
    have at2:rF es k=some (.ref tt):=by rw[←Int.toNat_of_nonneg (show 0<=k by lia)];exact aX hv2
    refine⟨_,rfl,_,rfl,_,_,rfl,rfl,l,_,_,_,rfl,rfl,aC.of hl,at1,_,rfl,_,rfl,l,_,_,_,rfl,rfl,aC.of hl,at2,_,_,rfl,?_⟩
    have s1:ag H H:=ag.refl H
    refine⟨_,rfl,rfl,_,rfl,dQ (fun cw=>?_) (fun cw=>?_)⟩
    .have hway:way=eX true:=by
      have:=of_decide_eq_true cw
      injection this
     refine⟨_,rfl,_,rfl,_,rfl,ts,tt,a,b,c,d,rfl,s1 _ _ hts,s1 _ _ htt,fun tn HA ftn htn sA=>⟨two,fun lp flp=>?_⟩⟩
     have s2:=(s1.trans sA).trans (ag.new (o:= .lst [.ref tt,.ref tn]) flp)
     have hlp:upd HA lp (.lst [.ref tt,.ref tn]) lp=some (.lst [.ref tt,.ref tn]):=ae
     have htn2:=ag.new (o:= .lst [.ref tt,.ref tn]) flp _ _ htn
     generalize upd HA lp (.lst [.ref tt,.ref tn])=H2 at s2 hlp htn2⊢
     have xp:dB H2 [.ref tt,.ref tn] (FY (a,b) (c,d) true):= .cons (s2 _ _ htt) (.cons htn2 .nil)
     obtain⟨ps,eps⟩:∃ps:List V,ps=[.ref tt,.ref tn]:=⟨_,rfl⟩
     rw[←eps]at hlp xp
     have psl:ps.length=2:=by rw[eps];rfl
     have el2:es.length=row.length:=xl
     have hl2:=s2 _ _ hl
     have hx2:=hx.keep (ag.cy s2)
     refine⟨_,rfl,_,rfl,_,_,rfl,rfl,k-1,rfl,l,es,rfl,aC.of hl2,fun p1 f1=>?_⟩
     rw[Ft (by lia) (by lia)]
     have s3:ag H2 (upd H2 p1 (.lst (es.take (k-1).toNat))):=ag.new f1
     have h3:upd H2 p1 (.lst (es.take (k-1).toNat)) p1=some (.lst (es.take (k-1).toNat)):=ae
     generalize upd H2 p1 (.lst (es.take (k-1).toNat))=H3 at s3 h3⊢
     refine⟨_,rfl,p1,lp,_,_,rfl,rfl,h3,s3 _ _ hlp,by rw[N5];lia,fun p2 f2=>?_⟩
     have s4:=s3.trans (ag.new (o:= .lst (es.take (k-1).toNat++ps)) f2)
     have h4:upd H3 p2 (.lst (es.take (k-1).toNat++ps)) p2=some (.lst (es.take (k-1).toNat++ps)):=ae
     generalize upd H3 p2 (.lst (es.take (k-1).toNat++ps))=H4 at s4 h4⊢
     refine⟨_,rfl,_,rfl,_,_,rfl,rfl,k+1,rfl,?_⟩
     unfold m6
     refine⟨l,es,rfl,aC.of (s4 _ _ hl2),fun p3 f3=>?_⟩
     rw[cutD (by lia)]
     have s5:=s4.trans (ag.new (o:= .lst (es.drop (k+1).toNat)) f3)
     have h5:upd H4 p3 (.lst (es.drop (k+1).toNat)) p3=some (.lst (es.drop (k+1).toNat)):=ae
     have h45:=ag.new (o:= .lst (es.drop (k+1).toNat)) f3 _ _ h4
     generalize upd H4 p3 (.lst (es.drop (k+1).toNat))=H5 at s5 h5 h45⊢
     refine⟨p2,p3,_,_,rfl,rfl,h45,h5,by rw[N0,N5,List.length_drop];lia,fun p4 f4=>?_⟩
     have s6:=s5.trans (ag.new (o:= .lst (es.take (k-1).toNat++ps++es.drop (k+1).toNat)) f4)
     refine kQ true hway (by lia) (by lia) p4 _ _ ((s2.trans s5).free f4) ae ?_ (s2.trans s6)
     unfold x9
     rw[er1,er2,show(k-1).toNat+2=(k+1).toNat by lia]
     exact(((hx2.keep (ag.cy s6)).take _).append (xp.keep (ag.cy s6))).append ((hx2.keep (ag.cy s6)).drop _)
    .have hway:way=eX false:=by
      have cw:¬way=NX "forth" :=fun z=>cw (decide_eq_true (by rw[z]))
      have:way=NX "forth"\/way=NX "back" :=by simpa [kO]using hw
      exact this.resolve_left cw
     refine⟨_,rfl,_,rfl,tt,ts,c,d,a,b,rfl,s1 _ _ htt,s1 _ _ hts,fun tn HA ftn htn sA=>⟨_,rfl,two,fun lp flp=>?_⟩⟩
     have s2:=(s1.trans sA).trans (ag.new (o:= .lst [.ref tn,.ref ts]) flp)
     have hlp:upd HA lp (.lst [.ref tn,.ref ts]) lp=some (.lst [.ref tn,.ref ts]):=ae
     have htn2:=ag.new (o:= .lst [.ref tn,.ref ts]) flp _ _ htn
     generalize upd HA lp (.lst [.ref tn,.ref ts])=H2 at s2 hlp htn2⊢
     have xp:dB H2 [.ref tn,.ref ts] (FY (a,b) (c,d) false):= .cons htn2 (.cons (s2 _ _ hts) .nil)
     obtain⟨ps,eps⟩:∃ps:List V,ps=[.ref tn,.ref ts]:=⟨_,rfl⟩
     rw[←eps]at hlp xp
     have psl:ps.length=2:=by rw[eps];rfl
     have el2:es.length=row.length:=xl
     have hl2:=s2 _ _ hl
     have hx2:=hx.keep (ag.cy s2)
     refine⟨_,rfl,_,rfl,_,_,rfl,rfl,k-1,rfl,l,es,rfl,aC.of hl2,fun p1 f1=>?_⟩
     rw[Ft (by lia) (by lia)]
     have s3:ag H2 (upd H2 p1 (.lst (es.take (k-1).toNat))):=ag.new f1
     have h3:upd H2 p1 (.lst (es.take (k-1).toNat)) p1=some (.lst (es.take (k-1).toNat)):=ae
     generalize upd H2 p1 (.lst (es.take (k-1).toNat))=H3 at s3 h3⊢
     refine⟨_,rfl,p1,lp,_,_,rfl,rfl,h3,s3 _ _ hlp,by rw[N5];lia,fun p2 f2=>?_⟩
     have s4:=s3.trans (ag.new (o:= .lst (es.take (k-1).toNat++ps)) f2)
     have h4:upd H3 p2 (.lst (es.take (k-1).toNat++ps)) p2=some (.lst (es.take (k-1).toNat++ps)):=ae
     generalize upd H3 p2 (.lst (es.take (k-1).toNat++ps))=H4 at s4 h4⊢
     refine⟨_,rfl,_,rfl,_,_,rfl,rfl,k+1,rfl,?_⟩
     unfold m6
     refine⟨l,es,rfl,aC.of (s4 _ _ hl2),fun p3 f3=>?_⟩
     rw[cutD (by lia)]
     have s5:=s4.trans (ag.new (o:= .lst (es.drop (k+1).toNat)) f3)
     have h5:upd H4 p3 (.lst (es.drop (k+1).toNat)) p3=some (.lst (es.drop (k+1).toNat)):=ae
     have h45:=ag.new (o:= .lst (es.drop (k+1).toNat)) f3 _ _ h4
     generalize upd H4 p3 (.lst (es.drop (k+1).toNat))=H5 at s5 h5 h45⊢
     refine⟨p2,p3,_,_,rfl,rfl,h45,h5,by rw[N0,N5,List.length_drop];lia,fun p4 f4=>?_⟩
     have s6:=s5.trans (ag.new (o:= .lst (es.take (k-1).toNat++ps++es.drop (k+1).toNat)) f4)
     refine kQ false hway (by lia) (by lia) p4 _ _ ((s2.trans s5).free f4) ae ?_ (s2.trans s6)
     unfold x9
     rw[er1,er2,show(k-1).toNat+2=(k+1).toNat by lia]
     exact(((hx2.keep (ag.cy s6)).take _).append (xp.keep (ag.cy s6))).append ((hx2.keep (ag.cy s6)).drop _)
   .have e0:decide (way∈kO.map (·.1))=false:=decide_eq_false hw
    rw[e0]
    refine sk ⟨(by show 1<=sizeLine;decide),kE (fun z=>?_) _ (ag.refl H)⟩
    obtain⟨_,_,f,rfl⟩:=z
    refine hw ?_
    cases f<;>simp[kO,eX]
  .have e0:decide (1<=k/\k<=(es.length:Int)-1)=false:=decide_eq_false hk
   rw[e0]
   refine sk ⟨(by show 1<=sizeLine;decide),kE (fun z=>hk ?_) _ (ag.refl H)⟩
   lia
end
open Classical in
noncomputable def uj(U:Str->Bool)(CB CM:Addr)(word:Str)(xs:List Wd):Option (Except Addr (List (Int×Int))):=
 if U word=false then none else
 match xs with
 |[.txt _,.ord os]=>if word=NX "star"/\Ord (os.length:Int) os/\os.length<=12 then some (.ok (Ep (os.length:Int) os))else if word=NX "home"/\Ord (os.length:Int) os/\os.length<=12 then some (.ok (Dm os))else none
 |[.txt _,.row R]=>if word=NX "row"\/word=NX "copy"then some (.ok R)else none
 |[.txt _,.row R,.row S]=>if word=NX "join"/\R.length<=60/\S.length<=60 then(if 60<R.length+S.length then some (.error CB)else some (.ok (R++S)))else none
 |[.row R,.num k]=>if R.length<=60 then(if word=eX true then some (if 1<=k/\k<R.length then .ok (x9 R (k-1).toNat true)else .error CM)else if word=eX false then some (if 1<=k/\k<R.length then .ok (x9 R (k-1).toNat false)else .error CM)else none)else none
 |_=>none
inductive xj(U:Str->Bool)(CB CM:Addr):Str->List Wd->Except Addr (List (Int×Int))->Prop
 |star (x:Str) (os:List Int):U (NX "star")=true->Ord (os.length:Int) os->os.length<=12->xj U CB CM (NX "star") [.txt x,.ord os] (.ok (Ep (os.length:Int) os))
 |Kx (x:Str) (os:List Int):U (NX "home")=true->Ord (os.length:Int) os->os.length<=12->xj U CB CM (NX "home") [.txt x,.ord os] (.ok (Dm os))
 |row (x:Str) (R:List (Int×Int)):xj U CB CM (NX "row") [.txt x,.row R] (.ok R)
 |copy (x:Str) (R:List (Int×Int)):xj U CB CM (NX "copy") [.txt x,.row R] (.ok R)
 |join (x:Str) (R S:List (Int×Int)):U (NX "join")=true->R.length<=60->S.length<=60->xj U CB CM (NX "join") [.txt x,.row R,.row S] (if 60<R.length+S.length then .error CB else .ok (R++S))
 |move (R:List (Int×Int)) (k:Int) (f:Bool):U (eX f)=true->R.length<=60->xj U CB CM (eX f) [.row R,.num k] (if 1<=k/\k<R.length then .ok (x9 R (k-1).toNat f)else .error CM)
theorem By{U:Str->Bool}{CB CM:Addr}{word:Str}{xs:List Wd}{r:Except Addr (List (Int×Int))}(h:uj U CB CM word xs=some r):xj U CB CM word xs r:=by
 unfold uj at h
 by_cases hu:U word=false
 .rw[if_pos hu]at h;cases h
 rw[if_neg hu]at h
 have hu:U word=true:=by simpa using hu
 split at h
 .rename_i x os
  split at h
  .rename_i c
   cases h
   rw[c.1]at hu⊢
   exact .star x os hu c.2.1 c.2.2
  .split at h
   .rename_i c
    cases h
    rw[c.1]at hu⊢
    exact .Kx x os hu c.2.1 c.2.2
   .cases h
 .rename_i x R
  split at h
  .rename_i c
   cases h
   rcases c with c|c
   .rw[c];exact .row x R
   .rw[c];exact .copy x R
  .cases h
 .rename_i x R S
  split at h
  .rename_i c
   rw[c.1]at hu⊢
   have q:=xj.join (CB:=CB) (CM:=CM) x R S hu c.2.1 c.2.2
   split at h
   .rename_i d
    cases h
    rw[if_pos d]at q
    exact q
   .rename_i d
    cases h
    rw[if_neg d]at q
    exact q
  .cases h
 .rename_i R k
  split at h
  .rename_i l
   split at h
   .rename_i c
    cases h
    rw[c]at hu⊢
    exact .move R k true hu l
   .split at h
    .rename_i c
     cases h
     rw[c]at hu⊢
     exact .move R k false hu l
    .cases h
  .cases h
 .cases h
def Gq(U:Str->Bool):Sp:=fun vs H Q E=>U (NX "star")=true/\∃(t:Addr)(n:Int)(xs:List Int),vs=[.ref t]/\H t=some (.tup (xs.map V.int))/\Ord n xs/\n<=50/\∀l es H',H l=none->H' l=some (.lst es)->dB H' es (Ep n xs)->ag H H'->Q (.ref l) H'
def F5(U:Str->Bool):Sp:=fun vs H Q E=>U (NX "home")=true/\Jx vs H Q E
structure Nh(P:Program)(w:World)(K:W.Frag)(mg:Str->Option Value)(base:Heap)(U:Str->Bool)(u60:Value)(CB CM:Addr):Prop extends T1 mg K where
 Cy:FnAt P w K mg base "star" 6 ["order"] (Gq U)
 DK:FnAt P w K mg base "home" 6 ["order"] (F5 U)
 Ao:iE P w K mg base "moved" 6 ["row","k","way"] (Am CM)
 cn:mg "MOST_EXCHANGES" =some u60
 ck:RelV (.int 60) u60
 iL:mg "NoBound" =some (.ref CB)
 uc:iH K CB
section
variable{P:Program}{w:World}{K:W.Frag}{mg:Str->Option Value}{base:Heap}{U:Str->Bool}{u60:Value}{CB CM:Addr}{L:dX}
theorem qi:az ["word","given","row"] ["word","given"] (ar (top 98)):=⟨rfl,rfl,rfl,by decide+kernel,rfl,by decide+kernel,by decide+kernel⟩
theorem JM{f:Addr}{fd:FuncData}(F:dh K "row_due" "row_due" (top 98) f fd)(hL:L.Ie=uj U CB CM)(T:Nh P w K mg base U u60 CB CM):aR P w K mg base (jG P w) 9 f fd ["word","given"] (Lh L):=by
 refine F.Be qi (fun vs H Q E h=>?_) (fun cdv A outer s H vs Q E hr h=>?_)
 .obtain⟨word,l,us,xs,rfl,_⟩:=h
  rfl
 .obtain⟨word,l,us,xs,rfl,hl,hw,h⟩:=h
  refine⟨_,(ah (bt (aI cG (pv 0) aw (aL _)) (ai (aA (au T.Cy (hr.mono (by first|decide|lia)) rfl (aa (aQ (av (K:=K) rfl) (pv 1) ak (fun _ _=>rfl)) af)))) aE)
   (ah (bt (aI cG (pv 0) aw (aL _)) (ai (aA (au T.DK (hr.mono (by first|decide|lia)) rfl (aa (aQ (av (K:=K) rfl) (pv 1) ak (fun _ _=>rfl)) af)))) aE)
   (ah (bt (aI cG (pv 0) aw (aL _)) (ah (aB (i:=2) qi.nd rfl (Or.inl rfl) (ax gP (aQ (av (K:=K) rfl) (pv 1) ak (fun _ _=>rfl)) (aQ (av (K:=K) rfl) (pv 1) ak (fun _ _=>rfl))))
   (ah (bt (aI qB (aq (aK (K:=K) rfl) rfl T.bV (by decide+kernel) (aa (pv 2) af)) (cT rfl T.cn T.ck) (aL _)) (ai (cJ pH T.uc rfl rfl T.iL (aa aw af))) aE)
   (ai (aA (pv 2))))) aE)
   (ah (bt (PW.pt (lL (aI cG (pv 0) aw (aL _)) (j9 (aI cG (pv 0) aw (aL _))))) (ai (aA (dN T.Ao j7 (hr.mono (by decide)) rfl (@aa _ _ _ _ _ (aQ (av (K:=K) rfl) (pv 1) ak (fun _ _=>rfl)) (@aa _ _ _ _ _ (aQ (av (K:=K) rfl) (pv 1) ak (fun _ _=>rfl)) (@aa _ _ _ _ _ (pv 0) af du) oi) oi)))) aE)
   (ai (aA (aQ (av (K:=K) rfl) (pv 1) ak (fun _ _=>rfl)))))))),?_⟩
  have hc:∃r,L.Ie word xs=some r:=by
   rcases h with⟨R,e,_⟩|⟨c,e,_⟩
   .exact⟨_,e⟩
   .exact⟨_,e⟩
  obtain⟨r,er⟩:=hc
  have kY:∀R,r= .ok R->∀v H',df H' v R->ag H H'->Q v H':=fun R z=>by
   rcases h with⟨R',e,k⟩|⟨c,e,_⟩
   .rw[er,z]at e;cases e;exact k
   .rw[er,z]at e;cases e
  have kN:∀c,r= .error c->∀b H',ag H H'->E (.ref c) b H':=fun c z=>by
   rcases h with⟨R',e,k⟩|⟨c',e,k⟩
   .rw[er,z]at e;cases e
   .rw[er,z]at e;cases e;exact k
  clear h
  rw[hL]at er
  have one:1<=sizeLine:=by decide
  cases By er with
  |star x os hu o lo=>
   cases hw with
   |cons w1 hw=>cases hw with
    |cons w2 hw=>cases hw with
     |nil=>
      obtain⟨t,rfl,ht⟩:=w2
      refine⟨_,rfl,rfl,_,rfl,BW (by decide) ?_⟩
      exact⟨_,rfl,l,_,1,_,rfl,rfl,aC.of hl,aX (j:=1) rfl,hu,t,_,os,rfl,ht,o,by lia,fun l' es H' _ h1 h2 sm=>kY _ rfl _ _ ⟨l',es,rfl,h1,h2⟩ sm⟩
  |Kx x os hu o lo=>
   cases hw with
   |cons w1 hw=>cases hw with
    |cons w2 hw=>cases hw with
     |nil=>
      obtain⟨t,rfl,ht⟩:=w2
      refine⟨_,rfl,rfl,_,rfl,fW (by decide) ?_⟩
      refine⟨_,rfl,rfl,_,rfl,BW (by decide) ?_⟩
      exact⟨_,rfl,l,_,1,_,rfl,rfl,aC.of hl,aX (j:=1) rfl,hu,t,_,os,rfl,ht,o,by lia,fun l' es H' _ h1 h2 sm=>kY _ rfl _ _ ⟨l',es,rfl,h1,h2⟩ sm⟩
  |row x R=>
   cases hw with
   |cons w1 hw=>cases hw with
    |cons w2 hw=>cases hw with
     |nil=>
      refine⟨_,rfl,rfl,_,rfl,fW (by decide) ?_⟩
      refine⟨_,rfl,rfl,_,rfl,fW (by decide) ?_⟩
      refine⟨_,rfl,rfl,_,rfl,fW (by decide) ?_⟩
      refine⟨_,rfl,rfl,_,rfl,fW (by decide) ?_⟩
      refine⟨_,rfl,rfl,_,rfl,fW (by decide) ?_⟩
      exact⟨_,rfl,l,_,1,_,rfl,rfl,aC.of hl,aX (j:=1) rfl,kY _ rfl _ _ w2 (ag.refl _)⟩
  |copy x R=>
   cases hw with
   |cons w1 hw=>cases hw with
    |cons w2 hw=>cases hw with
     |nil=>
      refine⟨_,rfl,rfl,_,rfl,fW (by decide) ?_⟩
      refine⟨_,rfl,rfl,_,rfl,fW (by decide) ?_⟩
      refine⟨_,rfl,rfl,_,rfl,fW (by decide) ?_⟩
      refine⟨_,rfl,rfl,_,rfl,fW (by decide) ?_⟩
      refine⟨_,rfl,rfl,_,rfl,fW (by decide) ?_⟩
      exact⟨_,rfl,l,_,1,_,rfl,rfl,aC.of hl,aX (j:=1) rfl,kY _ rfl _ _ w2 (ag.refl _)⟩
  |join x R S hu l1 l2=>
   cases hw with
   |cons w1 hw=>cases hw with
    |cons w2 hw=>cases hw with
     |cons w3 hw=>cases hw with
      |nil=>
       obtain⟨b1,es1,rfl,g1,x1⟩:=w2
       obtain⟨b2,es2,rfl,g2,x2⟩:=w3
       refine⟨_,rfl,rfl,_,rfl,fW (by decide) ?_⟩
       refine⟨_,rfl,rfl,_,rfl,fW (by decide) ?_⟩
       refine⟨_,rfl,rfl,_,rfl,BW (by decide) ?_⟩
       refine⟨_,rfl,l,_,1,_,rfl,rfl,aC.of hl,aX (j:=1) rfl,_,rfl,l,_,2,_,rfl,rfl,aC.of hl,aX (j:=2) rfl,b1,b2,es1,es2,rfl,rfl,g1,g2,?_⟩
       have e1:=x1.length
       have e2:=x2.length
       refine⟨Nat.le_trans (by lia:es1.length+es2.length<=120) (by decide),fun p fp=>?_⟩
       refine⟨_,rfl,p,_,rfl,.inl (aC.of ae),_,_,rfl,rfl,_,rfl,dQ (fun c=>?_) (fun c=>?_)⟩
       .have c:60<R.length+S.length:=by
         rw[decide_eq_true_eq,N0]at c
         lia
        exact⟨one,kN _ (if_pos c) none _ (ag.new fp)⟩
       .have c:¬60<R.length+S.length:=by
         rw[decide_eq_true_eq,N0]at c
         lia
        exact⟨_,rfl,kY _ (if_neg c) _ _ ⟨p,_,rfl,ae,(x1.append x2).keep fun b xs hb=>ag.new fp b _ hb⟩ (ag.new fp)⟩
  |move R k f hu l1=>
   cases hw with
   |cons w1 hw=>cases hw with
    |cons w2 hw=>cases hw with
     |nil=>
      cases(show _=V.int k from w2)
      obtain⟨b1,es1,rfl,g1,x1⟩:=w1
      have fin:∀(way:Str),way=eX f->Am CM [.ref b1,.int k,.str way] H Q E:=fun way hw=>⟨b1,es1,R,k,way,rfl,g1,x1,by lia,fun g eg k1 k2 l' es' H' _ h1 h2 sm=>by
       obtain rfl:=CH (hw.symm.trans eg)
       exact kY _ (if_pos ⟨k1,k2⟩) _ _ ⟨l',es',rfl,h1,h2⟩ sm,fun nc H' sm=>kN _ (if_neg fun c=>nc ⟨c.1,c.2,f,hw⟩) none H' sm⟩
      have go:∀c:Bool,U (eX f)=true->FH (rJ (Am CM) [] E (kj (zE (yW K) (lj 1) (tC (V.int 0))) (kj (zE (yW K) (lj 1) (tC (V.int 1))) (kj (lj 0) u6)))) {nx:=fun x H'=>Q V.cP H',rt:=Q} (L2.start [NX "word",NX "given",NX "row"] [V.str (eX f),V.ref l]) H:=fun _ _=>
       ⟨_,rfl,l,_,0,_,rfl,rfl,aC.of hl,aX (j:=0) rfl,_,rfl,l,_,1,_,rfl,rfl,aC.of hl,aX (j:=1) rfl,_,rfl,fin _ rfl⟩
      cases f with
      |true=>exact⟨_,rfl,rfl,_,rfl,fW (by decide) ⟨_,rfl,rfl,_,rfl,fW (by decide) ⟨_,rfl,rfl,_,rfl,fW (by decide) ⟨_,rfl,rfl,_,rfl,BW (by decide) (go true hu)⟩⟩⟩⟩
      |false=>exact⟨_,rfl,rfl,_,rfl,fW (by decide) ⟨_,rfl,rfl,_,rfl,fW (by decide) ⟨_,rfl,rfl,_,rfl,fW (by decide) ⟨_,rfl,rfl,_,rfl,fW (by decide) ⟨_,rfl,rfl,_,rfl,go false hu⟩⟩⟩⟩⟩
end
def IB:List (Str×List Str):=[("row",["new","row"]),("star",["new","order"]),("home",["new","order"]),("copy",["new","name"]),("join",["new","name","name"]),("forth",["name","number"]),("back",["name","number"]),("drop",["name"]),
 ("show",["name"]),("order",["name"]),("kind",["name"]),("least",["name"]),("parts",["name"]),("holes",["name"]),("lead",["name","name"]),("tree",["name"]),("cars",["name"]),("begun",["name","number"]),("count",["name","number"]),("joined",["name","number"]),("names",[])]
def Bn:List Str:=["show","order","kind","least","parts","holes","lead","tree","cars","begun","count","joined"]
def xt(w:Str):Option (List Str):=(IB.find? fun p=>p.1=w).map (·.2)
noncomputable def pC(okd:Str->Bool)(ans:Str->Int->List Wd->Option (Except Addr Str))(U:Str->Bool)(CT CN CB CM:Addr):dX:=
 {wC:=xt,okd:=okd,E6:=dY,isA:=fun w=>decide (w∈Bn),ans:=ans,Ie:=uj U CB CM,CT:=CT,CN:=CN}
theorem BL(a b:Str):a++NX " " ++b=Str.join (NX " ") [a,b]:=rfl
theorem tX(a b c:Str):a++NX " " ++b++NX " " ++c=Str.join (NX " ") [a,b,c]:=by
 refine bT ?_
 show signs (a++NX " " ++b++NX " " ++c)=signs (a++NX " " ++(b++NX " " ++c))
 simp only[bq,List.append_assoc]
theorem DQ{w:Str}(h:isNm w):32∉signs w:=fun z=>by have:=h.2.2 32 z;lia
section
variable{okd:Str->Bool}{ans:Str->Int->List Wd->Option (Except Addr Str)}{U:Str->Bool}{CT CN CB CM:Addr}{n:Int}{m:Kept}{nm:Str}
theorem FJ{R:List (Int×Int)}(h1:okd "new" =true)(h2:okd "row" =true)(hu:U "row" =true)(hn:isNm nm)(n12:n<=12)(g:Good n R)(l:R.length<=60):
  (pC okd ans U CT CN CB CM).out n m [NX "row",nm,mh R]=some (.put nm R):=by
 have e1:xt (NX "row")=some [NX "new",NX "row"]:=by decide+kernel
 have e2:decide (NX "row"∈Bn)=false:=by decide+kernel
 have r1:dY n (NX "new") nm=some (.txt nm):=Fm hn
 have r2:dY n (NX "row") (mh R)=some (.row R):=FI (by lia) g l
 have r3:uj U CB CM (NX "row") [.txt nm,.row R]=some (.ok R):=by
  unfold uj
  rw[if_neg (by rw[show U (NX "row")=true from hu];decide)]
  dsimp only
  rw[if_pos (.inl rfl)]
 have g1:vL m (NX "new") (.txt nm)=some (.txt nm):=if_neg (by decide+kernel)
 have g2:vL m (NX "row") (.row R)=some (.row R):=if_neg (by decide+kernel)
 unfold dX.out pC
 dsimp only
 rw[e1]
 dsimp only
 rw[if_neg (by simp),if_neg (by show¬([NX "new",NX "row"].all okd=false);rw[List.all_cons,List.all_cons,List.all_nil,show okd (NX "new")=true from h1,show okd (NX "row")=true from h2];decide)]
 simp only[List.zip_cons_cons,List.zip_nil_right,gE,r1,r2,Option.map_some,g1,g2,e2]
 rw[if_neg (by decide+kernel),if_neg (by decide),if_neg (by decide+kernel),r3]
theorem EJ{R:List (Int×Int)}{k:Int}{f:Bool}(h1:okd "name" =true)(h2:okd "number" =true)(hu:U (eX f)=true)(hn:isNm nm)(k0:0<=k)(k9:k<10^9)(hR:rowOf m nm=some R)(l:R.length<=60):
  (pC okd ans U CT CN CB CM).out n m [eX f,nm,aF k]=some (if 1<=k/\k<R.length then .put nm (x9 R (k-1).toNat f)else .jR CM):=by
 have e1:xt (eX f)=some [NX "name",NX "number"]:=by cases f<;>decide+kernel
 have e2:decide (eX f∈Bn)=false:=by cases f<;>decide+kernel
 have r1:dY n (NX "name") nm=some (.txt nm):=vZ hn
 have r2:dY n (NX "number") (aF k)=some (.num k):=zI k0 k9
 have r3:uj U CB CM (eX f) [.row R,.num k]=some (if 1<=k/\k<R.length then .ok (x9 R (k-1).toNat f)else .error CM):=by
  unfold uj
  rw[if_neg (by rw[hu];decide)]
  dsimp only
  rw[if_pos l]
  cases f with
  |true=>rw[if_pos rfl]
  |false=>rw[if_neg (by decide+kernel),if_pos rfl]
 have g1:vL m (NX "name") (.txt nm)=some (.row R):=by
  unfold vL
  rw[if_pos rfl]
  dsimp only
  rw[hR]
  rfl
 have g2:vL m (NX "number") (.num k)=some (.num k):=if_neg (by decide+kernel)
 unfold dX.out pC
 dsimp only
 rw[e1]
 dsimp only
 rw[if_neg (by simp),if_neg (by show¬([NX "name",NX "number"].all okd=false);rw[List.all_cons,List.all_cons,List.all_nil,show okd (NX "name")=true from h1,show okd (NX "number")=true from h2];decide)]
 simp only[List.zip_cons_cons,List.zip_nil_right,gE,r1,r2,Option.map_some,g1,g2,e2]
 rw[if_neg (by cases f<;>decide+kernel),if_neg (by decide),if_neg (by cases f<;>decide+kernel),r3]
 by_cases c:1<=k/\k<R.length
 .rw[if_pos c,if_pos c]
 .rw[if_neg c,if_neg c]
theorem FX{word:Str}(h1:okd "name" =true)(e1:xt word=some [NX "name"])(e2:decide (word∈Bn)=true)(hn:isNm nm):
  (rowOf m nm=none->(pC okd ans U CT CN CB CM).out n m [word,nm]=some (.jR CN))/\
  ∀R,rowOf m nm=some R->(∀s,ans word n [.row R]=some (.ok s)->(pC okd ans U CT CN CB CM).out n m [word,nm]=some (.ans s))/\∀c,ans word n [.row R]=some (.error c)->(pC okd ans U CT CN CB CM).out n m [word,nm]=some (.jR c):=by
 have r1:dY n (NX "name") nm=some (.txt nm):=vZ hn
 have nn:¬word=NX "names" :=fun z=>by rw[z]at e1;revert e1;decide+kernel
 have ok:¬([NX "name"].all okd=false):=by rw[List.all_cons,List.all_nil,show okd (NX "name")=true from h1];decide
 constructor
 .intro e
  have g1:vL m (NX "name") (.txt nm)=none:=by
   unfold vL
   rw[if_pos rfl]
   dsimp only
   rw[e]
   rfl
  unfold dX.out pC
  dsimp only
  rw[e1]
  dsimp only
  rw[if_neg (by simp),if_neg ok]
  simp only[List.zip_cons_cons,List.zip_nil_right,gE,r1,Option.map_some,g1]
 .intro R e
  have g1:vL m (NX "name") (.txt nm)=some (.row R):=by
   unfold vL
   rw[if_pos rfl]
   dsimp only
   rw[e]
   rfl
  constructor
  .intro s es
   unfold dX.out pC
   dsimp only
   rw[e1]
   dsimp only
   rw[if_neg (by simp),if_neg ok]
   simp only[List.zip_cons_cons,List.zip_nil_right,gE,r1,Option.map_some,g1,e2]
   rw[if_neg nn,if_pos trivial,es]
  .intro s es
   unfold dX.out pC
   dsimp only
   rw[e1]
   dsimp only
   rw[if_neg (by simp),if_neg ok]
   simp only[List.zip_cons_cons,List.zip_nil_right,gE,r1,Option.map_some,g1,e2]
   rw[if_neg nn,if_pos trivial,es]
theorem pU{a b:Str}(ha:PyData.strOk a=true)(hb:PyData.strOk b=true):PyData.strOk (a++b)=true:=by
 unfold PyData.strOk at*
 rw[Array.all_eq_true_iff_forall_mem]at*
 intro c hc
 have hc:c∈signs (a++b):=by simpa [signs]using hc
 rw[bq]at hc
 rcases List.mem_append.mp hc with h|h
 .exact ha c (by simpa [signs]using h)
 .exact hb c (by simpa [signs]using h)
theorem mU{z:Str}(hz:PyData.strOk z=true):∀{ts:List Str},(∀t∈ts,PyData.strOk t=true)->PyData.strOk (Str.join z ts)=true
 |[],_=>by show PyData.strOk (⟨#[]⟩:Str)=true;decide+kernel
 |[t],h=>h t List.mem_cons_self
 |t::u::r,h=>by
  have e:Str.join z (t::u::r)=t++z++Str.join z (u::r):=rfl
  rw[e]
  exact pU (pU (h t List.mem_cons_self) hz) (mU hz fun x hx=>h x (List.mem_cons_of_mem _ hx))
theorem Aa(i:Int):PyData.strOk (aF i)=true:=dZ _
theorem qj(r:List Int):PyData.strOk (pV r)=true:=mU (dZ ",") fun t ht=>by
 obtain⟨i,_,rfl⟩:=List.mem_map.mp ht
 exact Aa i
theorem J0{K:W.Frag}{H:Hp}{l k:Addr}{ss:List Str}{Q:VK}(h1:H l=some (.lst (ss.map V.str)))(h2:H k=some (.lst (ss.map V.str)))(ok:∀x∈ss,PyData.strOk x=true)(q:Q (.bl false) H):IX K (.ref l) (.ref k) H Q:=by
 have ds:∀{ss:List Str},mf H (fun _=>True) (ss.map V.str) (ss.map PyData.str):=fun{ss}=>by
  induction ss with
  |nil=>exact .nil
  |cons x r ih=>exact .cons (.str x) ih
 have nn:AU 2 (.list (ss.map PyData.str)):=AK fun d hd=>by
  obtain⟨x,hx,rfl⟩:=List.mem_map.mp hd
  exact DL (ok x hx)
 refine⟨fun _=>True,_,_,(DT.lst h1 trivial ds).dat,(DT.lst h2 trivial ds).dat,nn.lay,nn.lay,by have:=nn.dp;lia,?_⟩
 rw[PySem.SeqAt.eqv_refl _ nn.lay]
 exact q
theorem yD(p:Str×List (Int×Int))(m:Kept)(y:Str):rowOf (p::m) y=if p.1=y then some p.2 else rowOf m y:=by
 unfold rowOf
 by_cases c:p.1=y
 .rw[List.find?_cons_of_pos (by simpa using c),if_pos c]
  rfl
 .rw[List.find?_cons_of_neg (by simpa using c),if_neg c]
theorem dM{x:Str}{R:List (Int×Int)}:∀{m:Kept},rowOf m x=some R->(x,R)∈m
 |[],h=>by cases h
 |p::m,h=>by
  rw[yD]at h
  by_cases c:p.1=x
  .rw[if_pos c]at h
   cases h
   rw[←c]
   exact List.mem_cons_self
  .rw[if_neg c]at h
   exact List.mem_cons_of_mem _ (dM h)
def lF(n:Int)(m:Kept):Prop:=∀p∈m,Good n p.2/\p.2.length<=60/\isNm p.1
theorem lF.put {x:Str}{R:List (Int×Int)}(h:lF n m)(hx:isNm x)(g:Good n R)(l:R.length<=60):lF n (qz m x R):=by
 intro p hp
 unfold qz at hp
 split at hp
 .obtain⟨q,hq,rfl⟩:=List.mem_map.mp hp
  have:=h q hq
  split
  .exact⟨g,l,this.2.2⟩
  .exact this
 .rcases List.mem_append.mp hp with hp|hp
  .exact h p hp
  .rw[List.mem_singleton.mp hp]
   exact⟨g,l,hx⟩
theorem lF.names {m:Kept}{n:Int}(h:lF n m):∀p∈m,p.1.length<=990:=fun p hp=>Nat.le_trans (h p hp).2.2.2.1 (by decide)
theorem df.off {H H':Hp}{v:V}{R:List (Int×Int)}{d:Addr}{q:List (Key×V)}(h:df H v R)(e:H d=some (.dK q))(k:∀b o,b≠d->H b=some o->H' b=some o):df H' v R:=by
 obtain⟨l,es,e1,h1,h2⟩:=h
 have ne:∀b o,H b=some o->(∀q,o≠.dK q)->b≠d:=fun b o hb hn z=>by rw[z,e]at hb;cases hb;exact hn _ rfl
 exact⟨l,es,e1,k _ _ (ne _ _ h1 fun q z=>nomatch z) h1,h2.keep fun b xs hb=>k _ _ (ne _ _ hb fun q z=>nomatch z) hb⟩
theorem bj.off {H H':Hp}{ks:List (Key×V)}{m:Kept}{d:Addr}{q:List (Key×V)}(h:bj H ks m)(e:H d=some (.dK q))(k:∀b o,b≠d->H b=some o->H' b=some o):bj H' ks m:=Paired.yn h fun _ _ z=>⟨z.1,z.2.off e k⟩
theorem bW.off {C:Addr}{H H':Hp}{a b d:Addr}{n:Int}{m:Kept}{q:List (Key×V)}(h:bW C H a b n m)(e:H d=some (.dK q))(ne:b≠d)(k:∀b o,b≠d->H b=some o->H' b=some o):bW C H' a b n m:=by
 obtain⟨dx,fs,kvs,ha,hf,hd,ne2,km,ml⟩:=h
 exact⟨dx,fs,kvs,k _ _ (fun z=>by rw[z,e]at ha;cases ha) ha,hf,k _ _ ne hd,ne2,km.off e k,ml⟩
end
theorem MG{K:W.Frag}{H:Hp}{l m:Addr}{vs ws:List V}{r q:List (Int×Int)}{Q:VK}(h1:H l=some (.lst vs))(x1:dB H vs r)(h2:H m=some (.lst ws))(x2:dB H ws q)(hq:Q (.bl (decide (r=q))) H):LO K (.ref l) (.ref m) H Q:=by
 obtain⟨P,dx,dy,d1,d2,c1,c2,dd,e⟩:=Ny (K:=K) (Q:=fun v _=>v= .bl (!decide (r=q))) h1 x1 h2 x2 rfl
 refine⟨P,dx,dy,d1,d2,c1,c2,dd,?_⟩
 have:PyData.eqv dx dy=decide (r=q):=by
  injection e with e
  simpa using e
 rw[this]
 exact hq
def Mv(row:List (Int×Int)):Prop:=∀e∈row,0<=e.1/\0<=e.2/\e.1<100/\e.2<100
theorem D7{row:List (Int×Int)}(h:Mv row):(mh row).length<=row.length*6+4:=by
 unfold mh
 split
 .rename_i z
  rw[z];decide+kernel
 .have h1:=StrLaws.join_length_le (NX ",") (row.map i6)
  have h2:=StrLaws.sumLen_le (B:=5) (row.map i6) (fun y hy=>by
   obtain⟨⟨a,b⟩,he,rfl⟩:=List.mem_map.mp hy
   obtain⟨a0,b0,a9,b9⟩:=h _ he
   unfold i6
   rw[Str.length_append,Str.length_append]
   have l1:(aF a).length<=2:=PyProof.Rows.toString_length_le a0 (by decide) (show a<10^2 by lia)
   have l2:(aF b).length<=2:=PyProof.Rows.toString_length_le b0 (by decide) (show b<10^2 by lia)
   have:(NX "-").length=1:=by decide+kernel
   dsimp only
   lia)
  have h3:(NX ",").length=1:=by decide+kernel
  rw[NY]at h1 h2
  rw[h3]at h1
  lia
def D4:Sp:=fun vs H Q _=>∃(l:Addr)(es:List V)(row:List (Int×Int)),vs=[.ref l]/\H l=some (.lst es)/\dB H es row/\row.length<=70/\Mv row/\∀H',ag H H'->Q (.str (mh row)) H'
structure MZ(mg:Str->Option Value)(K:W.Frag):Prop extends T1 mg K where
 cI:mg "str" =none
def He:Sp:=fun vs H Q _=>∃(t:Addr)(n:Int)(xs:List Int),vs=[.ref t]/\H t=some (.tup (xs.map V.int))/\Ord n xs/\1<=n/\n<=12/\∀H',ag H H'->Q (.str (jL (aU n xs))) H'
structure M9(P:Program)(w:World)(K:W.Frag)(mg:Str->Option Value)(base:Heap):Prop extends T1 mg K where
 cI:mg "str" =none
 c0:FnAt P w K mg base "_law_rounds" 1 ["_law_order"] de
def Mp(r:List Int):Str:=NX "(" ++pV r++NX ")"
theorem uI{r:List Int}(h:∀x∈r,1<=x/\x<=12)(l:r.length<=12):(pV r).length<=40:=by
 rw[←yA fun x hx=>by have:=h x hx;lia,Iv]
 have h1:=StrLaws.join_length_le (NX " ") (r.map aF)
 have h2:=StrLaws.sumLen_le (B:=2) (r.map aF) (fun y hy=>by
  obtain⟨a,ha,rfl⟩:=List.mem_map.mp hy
  have:=h a ha
  exact PyProof.Rows.toString_length_le (by lia) (by decide) (show a<10^2 by lia))
 have h3:(NX " ").length=1:=by decide+kernel
 rw[NY]at h1 h2
 rw[h3]at h1
 unfold oh
 lia
section
variable{P:Program}{w:World}{K:W.Frag}{mg:Str->Option Value}{base:Heap}
theorem oj:az ["_law_row_here"] ["_law_row_here"] (ar (top 123)):=⟨rfl,rfl,rfl,by decide+kernel,rfl,by decide+kernel,by decide+kernel⟩
theorem IH{f:Addr}{fd:FuncData}(F:dh K "_law_row_word" "_law_row_word" (top 123) f fd)(T:MZ mg K):aR P w K mg base hZ 1 f fd ["_law_row_here"] D4:=by
 refine F.ok oj (fun vs H Q E h=>?_) (fun cdv A outer s H vs Q E hr h=>?_)
 .obtain⟨l,es,row,rfl,_⟩:=h
  rfl
 .obtain⟨l,es,row,rfl,hl,hx,h60,hs,k⟩:=h
  refine⟨_,(ah (bt (aI (Ji hr.units) (pv 0) (aZ af) (aL _)) (ai (aA aw)) aE)
   (ai (aA (br (K:=K) rfl PySem.F.plainAttrs_str PySem.F.slot_str_join PySem.F.type_str_join (fL (K:=K) rfl) aw (aa (bQ (N:=(["_law_a","_law_b"]:List Str)) (ix:=([none,none]:List (Option Nat))) (bc rfl rfl) rfl (aT (K:=K) rfl (pv 0)) (fun _ _ _ _=>(eD (K:=K) (n:=2) rfl rfl (bh (ay (i:=0) (show List.Nodup (["_law_a","_law_b"]:List Str)from by decide+kernel) rfl (Or.inl rfl)) (bh (ay (i:=1) (show List.Nodup (["_law_a","_law_b"]:List Str)from by decide+kernel) rfl (Or.inl rfl)) dW)))) (fun _ _ _ _=>bg) (fun _ _ _ _=>(ax bo (ax bo (aO bH rfl T.cI (by decide+kernel) (aa (pv 0) af)) aw) (aO bH rfl T.cI (by decide+kernel) (aa (pv 1) af))))) af))))),?_⟩
  have big:(10000000:Nat)<=sizeLine:=by decide
  have el:=hx.length
  refine⟨_,rfl,Nat.zero_le _,fun le fle=>?_⟩
  have s1:ag H (upd H le (.lst [])):=ag.new fle
  refine MG (s1 _ _ hl) (hx.keep (ag.cy s1)) (ws:=[]) (q:=[]) ae .nil ⟨_,rfl,?_⟩
  generalize upd H le (.lst [])=H1 at s1⊢
  by_cases hz:row=[]
  .subst hz
   exact BV (decide_eq_true rfl) (k H1 s1)
  .refine lW (decide_eq_false hz) ?_
   have rl:=List.length_pos_iff.mpr hz
   have hl1:=s1 _ _ hl
   have hx1:=hx.keep (ag.cy s1)
   refine⟨rfl,_,rfl,l,rfl,⟨_,aC.of hl1⟩,IK (K:=K) (a:=l) (xs:=es) (fun j ys σ' H'=>ys=((row.take j).map i6).map V.str/\(∃v0 v1,σ'=[v0,v1])/\H'=H1) (by lia) ⟨rfl,⟨none,none,rfl⟩,rfl⟩ (fun j ys σ' H' _ q=>by rw[q.2.2];exact aC.of hl1) (fun j ys σ' H' q=>by rw[q.1,NY,NY,N5];lia) ?_ ?_⟩
   .rintro j ys σ' H' x R hx' ⟨rfl,⟨v0,v1,rfl⟩,rfl⟩ done
    obtain⟨t,b,c,rfl,ht,hr'⟩:=hx1.get hx'
    obtain⟨a0,b0,a9,b9⟩:=hs (b,c) (N9 hr')
    dsimp only at a0 b0 a9 b9
    have al:=dv a0 (by lia)
    have bl:=dv b0 (by lia)
    have dl:(NX "-").length=1:=by decide+kernel
    refine⟨t,_,rfl,e8.of ht,rfl,_,_,rfl,_,_,rfl,rfl,?_⟩
    refine⟨_,rfl,b,rfl,fi a0 (by lia),_,_,rfl,rfl,(by show(aF b).length+(NX "-").length<=sizeLine;lia),_,rfl,c,rfl,fi b0 (by lia),_,_,rfl,rfl,(by show(aF b++NX "-").length+(aF c).length<=sizeLine;rw[Str.length_append];lia),?_⟩
    refine done _ _ _ ⟨?_,⟨_,_,rfl⟩,rfl⟩
    rw[aH i6 hr',N2]
    rfl
   .rintro ys σ' H' q ⟨rfl,⟨v0,v1,rfl⟩,e0⟩ fq
    have e0:=e0.symm
    subst e0
    rw[List.take_of_length_le (by lia)]
    refine⟨_,q,row.map i6,rfl,rfl,aC.of ae,bF (B:=19) (by decide+kernel) (fun y hy=>?_) (by decide) (by rw[NY];lia),?_⟩
    .obtain⟨⟨b,c⟩,he,rfl⟩:=List.mem_map.mp hy
     obtain⟨a0,b0,a9,b9⟩:=hs _ he
     exact uv a0 b0 (by lia) (by lia)
    .have kk:=k _ (s1.trans (ag.new (o:= .lst ((row.map i6).map V.str)) fq))
     unfold mh at kk
     rw[if_neg hz]at kk
     exact kk
theorem gN:az ["_law_order","_law_some"] ["_law_order"] (ar (top 124)):=⟨rfl,rfl,rfl,by decide+kernel,rfl,by decide+kernel,by decide+kernel⟩
theorem Jv{f:Addr}{fd:FuncData}(F:dh K "_law_order_word" "_law_order_word" (top 124) f fd)(T:M9 P w K mg base):aR P w K mg base hZ 2 f fd ["_law_order"] He:=by
 refine F.ok gN (fun vs H Q E h=>?_) (fun cdv A outer s H vs Q E hr h=>?_)
 .obtain⟨l,ws,S,rfl,_⟩:=h
  rfl
 .obtain⟨t,n,xs,rfl,ht,o,n1,n2,k⟩:=h
  refine⟨_,(ah (mL (i:=1) gN.nd rfl rfl (N:=(["_law_part"]:List Str)) (ix:=([none]:List (Option Nat))) (bc rfl rfl) rfl (aT (K:=K) rfl (au T.c0 (hr.mono (by first|decide|lia)) rfl (aa (pv 0) af))) (fun _ _ _ _=>(ay (i:=0) (show List.Nodup (["_law_part"]:List Str)from by decide+kernel) rfl (Or.inl rfl))) (fun _ _ _ _=>bg) (fun _ _ _ _=>(br (K:=K) rfl PySem.F.plainAttrs_str PySem.F.slot_str_join PySem.F.type_str_join (fL (K:=K) rfl) aw (aa (bQ (N:=(["_law_thing"]:List Str)) (ix:=([none]:List (Option Nat))) (bc rfl rfl) rfl (aT (K:=K) rfl (pv 0)) (fun _ _ _ _=>(ay (i:=0) (show List.Nodup (["_law_thing"]:List Str)from by decide+kernel) rfl (Or.inl rfl))) (fun _ _ _ _=>bg) (fun _ _ _ _=>(aO bH rfl T.cI (by decide+kernel) (aa (pv 0) af)))) af))))
   (ai (aA (br (K:=K) rfl PySem.F.plainAttrs_str PySem.F.slot_str_join PySem.F.type_str_join (fL (K:=K) rfl) aw (aa (bQ (N:=(["_law_word"]:List Str)) (ix:=([none]:List (Option Nat))) (bc rfl rfl) rfl (aT (K:=K) rfl (pv 1)) (fun _ _ _ _=>(ay (i:=0) (show List.Nodup (["_law_word"]:List Str)from by decide+kernel) rfl (Or.inl rfl))) (fun _ _ _ _=>bg) (fun _ _ _ _=>(ax bo (ax bo aw (pv 0)) aw))) af))))),?_⟩
  have big:(10000000:Nat)<=sizeLine:=by decide
  have q:=kS o
  have rl:=ic (rs:=aU n xs) fun r hr=>(q.2.1 r hr).1
  refine⟨_,rfl,t,n,xs,rfl,ht,o,by lia,fun l ws H1 fl hl xl _ _ s1=>?_⟩
  have wl:=xl.length
  have gg:∀r∈aU n xs,r.length<=12/\∀x∈r,1<=x/\x<=12:=fun r hr'=>⟨by have:=(q.2.1 r hr').2.1;lia,fun x hx=>by have:=(q.2.1 r hr').2.2 x hx;lia⟩
  refine⟨l,rfl,⟨_,aC.of hl⟩,eF (K:=K) (a:=l) (xs:=ws) (k:=0) (fun i ys σ' H'=>ys=(((aU n xs).take i).map pV).map V.str/\(∃v0,σ'=[v0])/\ag H1 H') (by lia) ⟨rfl,⟨none,rfl⟩,ag.refl _⟩ (fun i ys σ' H' _ q=>aC.of (q.2.2 _ _ hl)) (fun i ys σ' H' q=>by rw[q.1,NY,NY,N5];lia) ?_ ?_⟩
  .rintro i ys σ' H2 x R hx ⟨rfl,⟨v0,rfl⟩,s2⟩ done
   obtain⟨b,r,rfl,hb,hr'⟩:=(xl.keep s2).get hx
   have g:=gg r (N9 hr')
   refine⟨rfl,_,rfl,b,rfl,⟨_,aC.of hb⟩,eF (K:=K) (a:=b) (xs:=r.map V.int) (k:=0) (fun i ys σ' H'=>ys=((r.take i).map aF).map V.str/\(∃v0,σ'=[v0])/\H'=H2) (by rw[NY];lia) ⟨rfl,⟨none,rfl⟩,rfl⟩ (fun i ys σ' H' _ q=>by rw[q.2.2];exact aC.of hb) (fun i ys σ' H' q=>by rw[q.1,NY,NY,N5];lia) ?_ ?_⟩
   .rintro j zs σ2 H' x' R' hx' ⟨rfl,⟨v1,rfl⟩,rfl⟩ done'
    obtain⟨z,rfl,hz⟩:=iU hx'
    have zz:=g.2 z (N9 hz)
    refine⟨_,rfl,z,rfl,fi (by lia) (by lia),done' _ _ _ ⟨?_,⟨_,rfl⟩,rfl⟩⟩
    rw[aH aF hz,N2]
    rfl
   .rintro zs σ2 H' q' ⟨rfl,⟨v1,rfl⟩,e0⟩ fq
    have e0:=e0.symm
    subst e0
    rw[List.take_of_length_le (by rw[NY];lia)]
    refine⟨_,q',r.map aF,rfl,rfl,aC.of ae,bF (B:=9) (by decide+kernel) (fun y hy=>?_) (by decide) (by rw[NY];lia),done _ _ _ ⟨?_,⟨_,rfl⟩,s2.trans (ag.new fq)⟩⟩
    .obtain⟨z,hz,rfl⟩:=List.mem_map.mp hy
     have:=g.2 z hz
     exact dv (by lia) (by lia)
    .rw[aH pV hr',N2]
     rfl
  .rintro ys σ' H2 lq ⟨rfl,⟨v0,rfl⟩,s2⟩ fq
   rw[List.take_of_length_le (by lia)]
   have s3:=s1.trans (s2.trans (ag.new (o:= .lst (((aU n xs).map pV).map V.str)) fq))
   have hq:upd H2 lq (.lst (((aU n xs).map pV).map V.str)) lq=some (.lst (((aU n xs).map pV).map V.str)):=ae
   generalize upd H2 lq (.lst (((aU n xs).map pV).map V.str))=H3 at s3 hq⊢
   refine⟨rfl,_,rfl,lq,rfl,⟨_,aC.of hq⟩,eF (K:=K) (a:=lq) (xs:=((aU n xs).map pV).map V.str) (k:=0) (fun i ys σ' H'=>ys=(((aU n xs).take i).map Mp).map V.str/\(∃v0,σ'=[v0])/\H'=H3) (by rw[NY,NY];lia) ⟨rfl,⟨none,rfl⟩,rfl⟩ (fun i ys σ' H' _ q=>by rw[q.2.2];exact aC.of hq) (fun i ys σ' H' q=>by rw[q.1,NY,NY,N5];lia) ?_ ?_⟩
   .rintro i ys σ' H' x R hx ⟨rfl,⟨v0,rfl⟩,rfl⟩ done
    obtain⟨r,hr',rfl⟩:∃r,(aU n xs)[i]?=some r/\x= .str (pV r):=by
     rw[NZ,NZ]at hx
     cases e:(aU n xs)[i]? with
     |none=>rw[e]at hx;cases hx
     |some r=>rw[e]at hx;exact⟨r,rfl,(Option.some.inj hx).symm⟩
    have g:=gg r (N9 hr')
    have tl:=uI g.2 g.1
    have bl:(NX "(").length=1:=by decide+kernel
    have cl:(NX ")").length=1:=by decide+kernel
    refine⟨_,rfl,_,_,rfl,rfl,(by show(NX "(").length+(pV r).length<=sizeLine;lia),_,_,rfl,rfl,(by show(NX "(" ++pV r).length+(NX ")").length<=sizeLine;rw[Str.length_append];lia),done _ _ _ ⟨?_,⟨_,rfl⟩,rfl⟩⟩
    rw[aH Mp hr',N2]
    rfl
   .rintro ys σ' H' lr ⟨rfl,⟨v0,rfl⟩,e0⟩ fr
    have e0:=e0.symm
    subst e0
    rw[List.take_of_length_le (by rw[NY,NY];exact Nat.le_refl _)]
    refine⟨_,lr,(aU n xs).map Mp,rfl,rfl,aC.of ae,bF (B:=202) (by decide+kernel) (fun y hy=>?_) (by decide) (by rw[NY];lia),k _ (s3.trans (ag.new fr))⟩
    obtain⟨r,hr',rfl⟩:=List.mem_map.mp hy
    have g:=gg r hr'
    have tl:=uI g.2 g.1
    have bl:(NX "(").length=1:=by decide+kernel
    have cl:(NX ")").length=1:=by decide+kernel
    unfold Mp
    rw[Str.length_append,Str.length_append]
    lia
end
end Sw
namespace L2
open PySem PySem.Spec PyProof.Rows PySem.SeqAt
section
variable{X:Cx}{K:W.Frag}
def Fv(K:W.Frag):R2:=fun x y H Q=>∃(b p:Addr)(ms:List Int)(xs:List V)(rs:List (List Int)),x= .ref b/\y= .ref p/\H b=some (.lst (ms.map V.int))/\H p=some (.lst xs)/\xs.length=rs.length/\
 (∀(i:Nat)(v:V),xs[i]?=some v->∃(a:Addr)(ns:List Int),v= .ref a/\H a=some (.lst (ns.map V.int))/\rs[i]?=some ns)/\Q (.bl (!decide (ms∈rs))) H
def sameAt(H:Hp)(ms:List Int):Value->Bool
 | .ref a=>match H a with
  |some (.lst xs)=>decide (xs=ms.map V.int)
  |_=>false
 |_=>false
theorem rG:∀{a b:List Int},a.map V.int=b.map V.int->a=b
 |[],[],_=>rfl
 |[],_::_,h=>by simp at h
 |_::_,[],h=>by simp at h
 |x::a,y::b,h=>by
  rw[N4,N4]at h
  injection h with h1 h2
  injection h1 with h1
  rw[h1,rG h2]
theorem LH(ns ms:List Int):PyData.eqv (.list (ns.map PyData.int)) (.list (ms.map PyData.int))=decide (ns.map V.int=ms.map V.int):=by
 unfold PyData.eqv
 rw[Sw.xh,Bool.eq_iff_iff,decide_eq_true_iff,decide_eq_true_iff]
 exact⟨fun h=>by rw[h],rG⟩
theorem AN(hK:X.K=K)(hu:X.A.units+64<cLine):lg X (compareOp .NotIn) (Fv K):=by
 subst hK
 intro pins s σ H x y v u Q I rx ry h
 obtain⟨b,p,ms,xs,rs,rfl,rfl,hb,hp,hl,ha,q⟩:=h
 cases rx
 cases ry
 obtain⟨its,r,pl,hz⟩:=I.list (aC.of hp)
 have hlen:=r.length
 have each:∀j(hj:j<its.length),∃(a:Addr)(ns:List Int),its[j]= .ref a/\H a=some (.lst (ns.map V.int))/\rs[j]?=some ns:=fun j hj=>by
  obtain⟨a,ns,e1,e2,e3⟩:=ha j xs[j] (N1 (by lia))
  obtain⟨w',hw,rw'⟩:=r.get (i:=j) (x:=xs[j]) (N1 (by lia))
  rw[e1]at rw'
  cases rw'
  refine⟨a,ns,?_,e2,e3⟩
  rw[N1 hj]at hw
  exact Option.some.inj hw
 have at_:∀{a:Addr}{ns:List Int},H a=some (.lst (ns.map V.int))->sameAt H ms (.ref a)=decide (ns.map V.int=ms.map V.int):=fun{a ns} e=>by
  show(match H a with|some (.lst xs)=>decide (xs=ms.map V.int)|_=>false)=_
  rw[e]
 refine SeqAt.notIn_listAt (sameAt H ms) pl.isList (fun w hw=>?_) ⟨.bl _,H,I,rfl,?_⟩
 .obtain⟨j,hj,rfl⟩:=List.mem_iff_getElem.mp (show w∈its from by simpa using hw)
  obtain⟨a,ns,e1,e2,e3⟩:=each j hj
  rw[e1]
  have d1:Dat X.K H (fun _=>True) (.ref a) (.list (ns.map PyData.int)):= .lst (aC.of e2) True.intro (Sw.rb _)
  have d2:Dat X.K H (fun _=>True) (.ref b) (.list (ms.map PyData.int)):= .lst (aC.of hb) True.intro (Sw.rb _)
  obtain⟨as,qa⟩:=I.reads d1 rfl
  obtain⟨bs,qb⟩:=I.reads d2 rfl
  rw[at_ e2,←LH]
  refine eqAt_reads _ _ _ _ _ _ _ _ qa qb ?_ ?_ ?_
  .unfold PyData.canLay0
   exact Sw.lay_ints ns
  .unfold PyData.canLay0
   exact Sw.lay_ints ms
  .have:(PyData.list (ns.map PyData.int)).depth<=1:=by unfold PyData.depth;rw[Sw.ql];exact Nat.le_refl _
   have:X.A.in1.units<=X.A.units+1:=by show _<=_;first|exact Nat.le_refl _|exact Nat.le_succ _
   lia
 .have:its.toArray.any (sameAt H ms)=decide (ms∈rs):=by
   rw[Bool.eq_iff_iff,Array.any_eq_true,decide_eq_true_iff]
   constructor
   .rintro⟨j,hj,e⟩
    have hj:j<its.length:=by simpa using hj
    obtain⟨a,ns,e1,e2,e3⟩:=each j hj
    have e:sameAt H ms its[j]=true:=by simpa using e
    rw[e1,at_ e2]at e
    rw[rG (of_decide_eq_true e)]at e3
    exact N9 e3
   .intro hm
    obtain⟨j,hj,ej⟩:=List.mem_iff_getElem.mp hm
    have hj':j<its.length:=by lia
    refine⟨j,by simpa using hj',?_⟩
    obtain⟨a,ns,e1,e2,e3⟩:=each j hj'
    rw[N1 hj,ej]at e3
    have e3:=Option.some.inj e3
    have:sameAt H ms its[j]=true:=by rw[e1,at_ e2,←e3];exact decide_eq_true rfl
    simpa using this
  rw[this]
  exact q
end
end L2
namespace Sw
open PySem L2
theorem Mm{x:Int}{ns:List Int}:Kj (.int x) (ns.map V.int)=decide (x∈ns):=zR _ _
def HQ:Sp:=fun vs H Q _=>∃(n:Int)(l:Addr)(es:List V)(row:List (Int×Int)),vs=[.int n,.ref l]/\0<=n/\n<=50/\H l=some (.lst es)/\dB H es row/\Good n row/\
 ∀lp ws H',H lp=none->H' lp=some (.lst ws)->cb H' ws (bL n row)->ag H H'->Q (.ref lp) H'
structure Mx(mg:Str->Option Value)(K:W.Frag):Prop extends T1 mg K where
 bC:mg "sorted" =none
def IQ(n:Int)(row:List (Int×Int))(k:Int):List Int:=(bP 1 (n+1)).filter fun y=>decide (aM row y=k)
theorem EI(n:Int)(row:List (Int×Int)):(uB (aM row) (bP 1 (n+1))).map (fun p=>IQ n row p.1)=bL n row:=by
 unfold bL
 refine List.map_congr_left fun p hp=>?_
 exact((md (aM row) (bP 1 (n+1))).mem p hp).1.symm
section
variable{P:Program}{w:World}{K:W.Frag}{mg:Str->Option Value}{base:Heap}
theorem bG:az ["_law_n","_law_row_here","_law_found","_law_first","_law_part","_law_grew","_law_a","_law_b"] ["_law_n","_law_row_here"] (ar (top 122)):=⟨rfl,rfl,rfl,by decide+kernel,rfl,by decide+kernel,by decide+kernel⟩
theorem J2{f:Addr}{fd:FuncData}(F:dh K "_law_parts" "_law_parts" (top 122) f fd)(T:Mx mg K):aR P w K mg base hZ 3 f fd ["_law_n","_law_row_here"] HQ:=by
 refine F.ok bG (fun vs H Q E h=>?_) (fun cdv A outer s H vs Q E hr h=>?_)
 .obtain⟨n,l,es,row,rfl,_⟩:=h
  rfl
 .obtain⟨n,l,es,row,rfl,n0,n1,hl,hx,hg,k⟩:=h
  refine⟨_,(ah (aB (i:=2) bG.nd rfl (Or.inl rfl) (aZ af))
   (ah (eu PassesOwn.never rfl (fh rfl T.cQ (aa ak (aa (ax bw (pv 0) ak) af))) (ay (i:=3) bG.nd rfl (Or.inl rfl)) (ah (aB (i:=4) bG.nd rfl (Or.inl rfl) (aZ (aa (pv 3) af)))
   (ah (aB (i:=5) bG.nd rfl (Or.inl rfl) iK)
   (ah (qJ PassesOwn.never (cC (pv 5)) (ah (aB (i:=5) bG.nd rfl (Or.inl rfl) iK)
   (ai (eu PassesOwn.never rfl (aT (K:=K) rfl (pv 1)) (eD (K:=K) (n:=2) rfl rfl (bh (ay (i:=6) bG.nd rfl (Or.inl rfl)) (bh (ay (i:=7) bG.nd rfl (Or.inl rfl)) dW))) (ai (bt (aI lG (fH (yy (K:=K) rfl) (pv 6) (pv 4) rfl) (fH (yy (K:=K) rfl) (pv 7) (pv 4) rfl) (aL _)) (ah (cB (br (K:=K) rfl PySem.F.plainAttrs_list PySem.F.slot_list_append PySem.F.type_list_append cz (pv 4) (aa (aQ (av (K:=K) rfl) (aZ (aa (pv 6) (aa (pv 7) af))) (aO kR rfl T.qL (by decide+kernel) (aa (fH (yy (K:=K) rfl) (pv 6) (pv 4) rfl) af)) (fun _ _=>rfl)) af)))
   (ai (aB (i:=5) bG.nd rfl (Or.inl rfl) iK))) aE))))))
   (ai (bt (aI (AN (K:=K) rfl hr.units) (aq (h7 (K:=K) rfl) rfl T.bC (by decide+kernel) (aa (pv 4) af)) (pv 2) rfl) (ai (cB (br (K:=K) rfl PySem.F.plainAttrs_list PySem.F.slot_list_append PySem.F.type_list_append cz (pv 2) (aa (aq (h7 (K:=K) rfl) rfl T.bC (by decide+kernel) (aa (pv 4) af)) af)))) aE))))))
   (ai (aA (pv 2))))),?_⟩
  have big:(10000000:Nat)<=sizeLine:=by decide
  have xl:=hx.length
  refine⟨Nat.zero_le _,fun lo flo=>?_⟩
  refine⟨_,rfl,_,_,rfl,rfl,1,n+1,rfl,⟨by decide,by decide,by lia,by lia⟩,cU (fun i σ H'=>(∃v3 v4 v5 v6 v7,σ=[some (.int n),some (.ref l),some (.ref lo),v3,v4,v5,v6,v7])/\ag H H'/\∃ws,H' lo=some (.lst ws)/\cb H' ws ((uB (aM row) ((bP 1 (n+1)).take i)).map fun p=>IQ n row p.1)/\V.ref lo∉ws)
   ⟨⟨_,_,_,_,_,rfl⟩,ag.new flo,[],ae,.nil,by simp⟩ ?_ ?_⟩
  .rintro i σ H1 hi ⟨⟨v3,v4,v5,v6,v7,rfl⟩,s1,ws,h1,x1,nl1⟩
   have hi:(i:Int)<n:=by lia
   have G:=md (aM row) ((bP 1 (n+1)).take i)
   have gl:=mT (f:=aM row) i (by lia:(i:Int)<=n)
   rw[fM hi,mV]
   generalize uB (aM row) ((bP 1 (n+1)).take i)=acc at x1 G gl⊢
   have xl2:=x1.length
   rw[NY]at xl2
   obtain⟨x,hxe⟩:∃x:Int,x=1+(i:Int):=⟨_,rfl⟩
   rw[←hxe]
   have x1':1<=x:=by lia
   have x2':x<=n:=by lia
   refine⟨_,rfl,(by show 1<=sizeLine;decide),fun lf flf=>?_⟩
   have hl1:=s1 _ _ hl
   refine⟨fun m σ H'=>∃fs g v6 v7,m=2*(50-fs.length)+(if g=true then 1 else 0)/\σ=[some (.int n),some (.ref l),some (.ref lo),some (.int x),some (.ref lf),some (.bl g),v6,v7]/\ag H1 H'/\H' lf=some (.lst (fs.map V.int))/\fs.Nodup/\x∈fs/\(∀y∈fs,(1<=y/\y<=n)/\aM row y=aM row x)/\(g=false->∀e∈row,e.1∈fs↔e.2∈fs),
    ⟨_,[x],true,_,_,rfl,rfl,ag.new flf,ae,by simp,by simp,fun y hy=>by rw[List.mem_singleton.mp hy];exact⟨⟨x1',x2'⟩,rfl⟩,fun z=>by cases z⟩,?_⟩
   rintro m σ HW ⟨fs,g,v6,v7,rfl,rfl,sw,hw,nd,xin,fin,cl⟩
   have fl:=yR n0 nd fun y hy=>(fin y hy).1
   refine⟨_,rfl,_,rfl,?_⟩
   cases g with
   |false=>
    refine sF ?_
    have hm:∀y,y∈fs↔(1<=y/\y<=n)/\aM row y=aM row x:=fun y=>⟨fin y,fun z=>(wt (S:=fun u=>u∈fs) (cl rfl) z.2).mpr xin⟩
    have ml:(Ap n row x)∈(acc.map fun p=>IQ n row p.1)↔aM row x∈acc.map (·.1):=by
     constructor
     .intro z
      obtain⟨p,hp,e⟩:=List.mem_map.mp z
      have:x∈IQ n row p.1:=by
       rw[e]
       exact CG.mpr ⟨⟨by lia,by lia⟩,rfl⟩
      have:=of_decide_eq_true (List.mem_filter.mp this).2
      rw[this]
      exact List.mem_map_of_mem (f:=(·.1)) hp
     .intro z
      obtain⟨p,hp,e⟩:=List.mem_map.mp z
      refine List.mem_map.mpr ⟨p,hp,?_⟩
      rw[e]
      rfl
    refine⟨_,rfl,lf,fs,rfl,aC.of hw,by lia,fun lr ns flr pm pw=>?_⟩
    obtain rfl:=Ia nd hm pm pw
    have s3:=ag.new (o:= .lst ((Ap n row x).map V.int)) flr
    have x2:=x1.keep (sw.trans s3)
    have hlr:upd HW lr (.lst ((Ap n row x).map V.int)) lr=some (.lst ((Ap n row x).map V.int)):=ae
    have sw3:=sw.trans s3
    have hw3:=s3 _ _ hw
    generalize upd HW lr (.lst ((Ap n row x).map V.int))=HX at s3 x2 hlr sw3 hw3⊢
    refine⟨_,rfl,lr,lo,_,ws,_,rfl,rfl,hlr,sw3 _ _ h1,x2.length,fun j v hv=>x2.get hv,_,rfl,?_⟩
    by_cases hin:aM row x∈acc.map (·.1)
    .refine lW (by rw[decide_eq_true (ml.mpr hin)];rfl) ?_
     refine⟨⟨_,_,_,_,_,rfl⟩,s1.trans sw3,ws,sw3 _ _ h1,?_,nl1⟩
     have e:((j5 (aM row) acc x).map fun p=>IQ n row p.1)=acc.map fun p=>IQ n row p.1:=by
      unfold j5
      rw[if_pos hin,N7]
      refine List.map_congr_left fun p _=>?_
      show IQ n row (if p.1=_ then(p.1,p.2++[_])else p).1=_
      split<;>rfl
     rw[e]
     exact x2
    .refine BV (by rw[decide_eq_false (fun z=>hin (ml.mp z))];rfl) ?_
     refine⟨_,rfl,.inl ⟨rfl,_,aC.of (sw3 _ _ h1)⟩,_,rfl,lf,fs,rfl,aC.of hw3,by lia,fun lq ns flq pm2 pw2=>?_⟩
     obtain rfl:=Ia nd hm pm2 pw2
     have s4:=ag.new (o:= .lst ((Ap n row x).map V.int)) flq
     have hlo:=s4 _ _ (sw3 _ _ h1)
     have nlp:lo≠lq:=aj (sw3 _ _ h1) flq
     have hlq:upd HX lq (.lst ((Ap n row x).map V.int)) lq=some (.lst ((Ap n row x).map V.int)):=ae
     have x4:=x2.keep s4
     have sA:=(s1.trans sw3).trans s4
     generalize upd HX lq (.lst ((Ap n row x).map V.int))=HY at s4 hlo hlq x4 sA⊢
     refine⟨lo,_,_,rfl,rfl,hlo,by lia,⟨_,_,_,_,_,rfl⟩,ag.put sA flo,ws++[.ref lq],ae,?_,?_⟩
     .rw[iJ hin,N2]
      refine(x4.snoc hlq).off (fun z=>?_)
      rcases List.mem_append.mp z with z|z
      .exact nl1 z
      .exact nlp (V.ref.inj (List.mem_singleton.mp z))
     .intro z
      rcases List.mem_append.mp z with z|z
      .exact nl1 z
      .exact nlp (V.ref.inj (List.mem_singleton.mp z))
   |true=>
    refine sk ⟨fun σ' H'=>∃fs' g' v6 v7,σ'=[some (.int n),some (.ref l),some (.ref lo),some (.int x),some (.ref lf),some (.bl g'),v6,v7]/\ag H1 H'/\H' lf=some (.lst (fs'.map V.int))/\fs'.Nodup/\x∈fs'/\(∀y∈fs',(1<=y/\y<=n)/\aM row y=aM row x)/\(g'=false->fs'=fs/\∀e∈row,e.1∈fs↔e.2∈fs)/\(g'=true->fs.length<fs'.length),?_,?_⟩
    .rintro σ' H' ⟨fs',g',v6',v7',e,s',h',nd',xin',fin',c1,c2⟩
     have fl':=yR n0 nd' fun y hy=>(fin' y hy).1
     refine⟨2*(50-fs'.length)+(if g'=true then 1 else 0),?_,fs',g',v6',v7',rfl,e,s',h',nd',xin',fin',fun z=>?_⟩
     .cases g' with
      |false=>rw[(c1 rfl).1];simp
      |true=>have:=c2 rfl;simp;lia
     .rw[(c1 z).1];exact(c1 z).2
    .refine⟨_,rfl,l,rfl,⟨_,aC.of (sw _ _ hl1)⟩,kh (K:=K) (a:=l) (xs:=es) (fun j σ' H'=>∃fs' g' v6 v7,σ'=[some (.int n),some (.ref l),some (.ref lo),some (.int x),some (.ref lf),some (.bl g'),v6,v7]/\ag H1 H'/\H' lf=some (.lst (fs'.map V.int))/\fs'.Nodup/\x∈fs'/\(∀y∈fs',(1<=y/\y<=n)/\aM row y=aM row x)/\(g'=false->fs'=fs/\∀m e,m<j->row[m]?=some e->(e.1∈fs↔e.2∈fs))/\(g'=true->fs.length<fs'.length))
      ⟨fs,false,_,_,rfl,sw,hw,nd,xin,fin,fun _=>⟨rfl,fun m e hm=>absurd hm (Nat.not_lt_zero _)⟩,fun z=>(by cases z)⟩ (fun j σ' H' _ ⟨_,_,_,_,_,s',_⟩=>aC.of (s' _ _ hl1)) ?_ ?_⟩
     .rintro j y σ' H2 hj ⟨fs',g',v6',v7',rfl,s2,h2,nd2,xin2,fin2,c1,c2⟩
      obtain⟨te,a,b,rfl,hte,hrow⟩:=hx.get hj
      have gab:=hg (a,b) (N9 hrow)
      simp only at gab
      have lab:=Bh (a,b) (N9 hrow)
      simp only at lab
      have fl2:=yR n0 nd2 fun y hy=>(fin2 y hy).1
      refine⟨te,_,rfl,e8.of (s2 _ _ (s1 _ _ hte)),rfl,_,_,rfl,_,_,rfl,rfl,?_⟩
      refine⟨_,rfl,_,rfl,lf,_,rfl,.inl (aC.of h2),rfl,iG _,_,rfl,_,rfl,lf,_,rfl,.inl (aC.of h2),rfl,iG _,rfl,_,rfl,?_⟩
      simp only[Bool.false_eq_true,if_false]
      rw[Mm,Mm]
      have keepI:∀(q:(a∈fs')↔(b∈fs')),(g'=false->fs'=fs/\∀m e,m<j+1->row[m]?=some e->(e.1∈fs↔e.2∈fs)):=fun q z=>by
       refine⟨(c1 z).1,fun m e hm he=>?_⟩
       by_cases em:m=j
       .subst em
        rw[hrow]at he
        cases he
        rw[←(c1 z).1]
        exact q
       .exact(c1 z).2 m e (by lia) he
      have put:∀(c:Int)(H':Hp),c∉fs'->1<=c->c<=n->aM row c=aM row x->ag H1 H'->H' lf=some (.lst (fs'.map V.int++[V.int c]))->
        ∃fs'' g'' v6 v7,[some (V.int n),some (.ref l),some (.ref lo),some (.int x),some (.ref lf),some (.bl true),some (.int a),some (.int b)]=[some (V.int n),some (.ref l),some (.ref lo),some (.int x),some (.ref lf),some (.bl g''),v6,v7]/\ag H1 H'/\H' lf=some (.lst (fs''.map V.int))/\fs''.Nodup/\x∈fs''/\(∀y∈fs'',(1<=y/\y<=n)/\aM row y=aM row x)/\(g''=false->fs''=fs/\∀m e,m<j+1->row[m]?=some e->(e.1∈fs↔e.2∈fs))/\(g''=true->fs.length<fs''.length):=by
       intro c H' nc c1' c2' lc s' h'
       refine⟨fs'++[c],true,_,_,rfl,s',by rw[h',N2];rfl,?_,List.mem_append_left _ xin2,fun y hy=>?_,fun z=>(by cases z),fun _=>?_⟩
       .rw[List.nodup_append]
        refine⟨nd2,by simp,fun u hu v hv e=>?_⟩
        rw[List.mem_singleton.mp hv]at e
        subst e
        exact nc hu
       .rcases List.mem_append.mp hy with hy|hy
        .exact fin2 y hy
        .rw[List.mem_singleton.mp hy];exact⟨⟨c1',c2'⟩,lc⟩
       .rw[N0,List.length_singleton]
        cases g' with
        |false=>rw[(c1 rfl).1];lia
        |true=>have:=c2 rfl;lia
      by_cases ia:a∈fs'
      .by_cases ib:b∈fs'
       .refine lW (by simp[ia,ib]) ?_
        exact⟨fs',g',_,_,rfl,s2,h2,nd2,xin2,fin2,keepI ⟨fun _=>ib,fun _=>ia⟩,c2⟩
       .refine BV (by simp[ia,ib]) ?_
        refine⟨_,rfl,.inl ⟨rfl,_,aC.of h2⟩,_,rfl,_,rfl,(by show 2<=sizeLine;decide),fun lt jR=>?_⟩
        have sn:=ag.new (o:= .lst [V.int a,V.int b]) jR
        refine⟨_,rfl,_,rfl,lf,_,rfl,.inl (aC.of (sn _ _ h2)),rfl,iG _,.inr ⟨_,rfl,lt,[a,b].map V.int,_,V.int b,rfl,rfl,aC.of ae,?_,lf,_,_,rfl,rfl,sn _ _ h2,by rw[NY];lia,?_⟩⟩
        .simp only[Bool.false_eq_true,if_false]
         rw[Mm,decide_eq_true ia]
         rfl
        .exact put b _ ib (by lia) (by lia) (by rw[←lab];exact(fin2 a ia).2) (ag.put (s2.trans sn) flf) ae
      .by_cases ib:b∈fs'
       .refine BV (by simp[ia,ib]) ?_
        refine⟨_,rfl,.inl ⟨rfl,_,aC.of h2⟩,_,rfl,_,rfl,(by show 2<=sizeLine;decide),fun lt jR=>?_⟩
        have sn:=ag.new (o:= .lst [V.int a,V.int b]) jR
        refine⟨_,rfl,_,rfl,lf,_,rfl,.inl (aC.of (sn _ _ h2)),rfl,iG _,.inr ⟨_,rfl,lt,[a,b].map V.int,_,V.int a,rfl,rfl,aC.of ae,?_,lf,_,_,rfl,rfl,sn _ _ h2,by rw[NY];lia,?_⟩⟩
        .simp only[Bool.false_eq_true,if_false]
         rw[Mm,decide_eq_false ia]
         rfl
        .exact put a _ ia (by lia) (by lia) (by rw[lab];exact(fin2 b ib).2) (ag.put (s2.trans sn) flf) ae
       .refine lW (by simp[ia,ib]) ?_
        exact⟨fs',g',_,_,rfl,s2,h2,nd2,xin2,fin2,keepI ⟨fun z=>absurd z ia,fun z=>absurd z ib⟩,c2⟩
     .rintro σ' H2 ⟨fs',g',v6',v7',rfl,s2,h2,nd2,xin2,fin2,c1,c2⟩
      refine⟨fs',g',v6',v7',rfl,s2,h2,nd2,xin2,fin2,fun z=>⟨(c1 z).1,fun e he=>?_⟩,c2⟩
      obtain⟨m,hm,em⟩:=List.mem_iff_getElem.mp he
      exact(c1 z).2 m e (by lia) (by rw[N1 hm,em])
  .rintro σ H1 ⟨⟨v3,v4,v5,v6,v7,rfl⟩,s1,ws,h1,x1,nl1⟩
   rw[List.take_of_length_le (by rw[aJ];exact Nat.le_refl _),EI]at x1
   exact⟨_,rfl,k lo ws H1 flo h1 x1 s1⟩
end
section
variable{P:Program}{w:World}{K:W.Frag}{mg:Str->Option Value}{base:Heap}
theorem cO:az ["_law_n","_law_row_here","_law_found","_law_thing","_law_goal","_law_a","_law_b"] ["_law_n","_law_row_here"] (ar (top 119)):=⟨rfl,rfl,rfl,by decide+kernel,rfl,by decide+kernel,by decide+kernel⟩
theorem FR{f:Addr}{fd:FuncData}(F:dh K "_law_led" "_law_led" (top 119) f fd)(T:T1 mg K):aR P w K mg base hZ 1 f fd ["_law_n","_law_row_here"] qQ:=by
 refine F.ok cO (fun vs H Q E h=>?_) (fun cdv A outer s H vs Q E hr h=>?_)
 .obtain⟨n,l,es,row,rfl,_⟩:=h
  rfl
 .obtain⟨n,l0,es,row,rfl,hn0,hn1,hl0,hx,hg,k⟩:=h
  have hu:=o9 hr
  refine⟨_,(ah (aB (i:=2) cO.nd rfl (Or.inl rfl) (aZ af))
   (ah (eu PassesOwn.never rfl (fh rfl T.cQ (aa ak (aa (ax bw (pv 0) ak) af))) (ay (i:=3) cO.nd rfl (Or.inl rfl)) (ah (aB (i:=4) cO.nd rfl (Or.inl rfl) (pv 3))
   (ah (eu PassesOwn.never rfl (aT (K:=K) rfl (pv 1)) (eD (K:=K) (n:=2) rfl rfl (bh (ay (i:=5) cO.nd rfl (Or.inl rfl)) (bh (ay (i:=6) cO.nd rfl (Or.inl rfl)) dW))) (ai (aB (i:=4) cO.nd rfl (Or.inl rfl) (iI hu (nE (c7 (pv 5) (pv 6) (c7 (pv 6) (pv 5) mI)) rfl rfl (by simp) (by decide)) (pv 4) (pv 4) ⟨rfl,rfl,rfl,rfl⟩))))
   (ai (cB (br (K:=K) rfl PySem.F.plainAttrs_list PySem.F.slot_list_append PySem.F.type_list_append cz (pv 2) (aa (pv 4) af)))))))
   (ai (aA (aO (cN (K:=K) rfl) rfl T.hJ (by decide+kernel) (aa (pv 2) af)))))),?_⟩
  refine⟨Nat.zero_le _,fun l hl=>?_⟩
  refine⟨_,rfl,_,_,rfl,rfl,1,n+1,rfl,⟨by decide,by decide,by lia,by lia⟩,cU (fun i σ H'=>∃(v3 v4 v5 v6:Option V),σ=[some (.int n),some (.ref l0),some (.ref l),v3,v4,v5,v6]/\ag H H'/\H' l=some (.lst (((bP 1 (n+1)).take i).map fun x=>V.int (go row x))))
   ⟨none,none,none,none,rfl,ag.new hl,ae⟩ ?_ ?_⟩
  .rintro i σ H' hi ⟨v3,v4,v5,v6,rfl,s1,h1⟩
   refine⟨_,rfl,_,rfl,l0,rfl,⟨_,aC.of (s1 _ _ hl0)⟩,kh (K:=K) (a:=l0) (xs:=es) (fun j σ H''=>∃(v5 v6:Option V),σ=[some (.int n),some (.ref l0),some (.ref l),some (.int (1+i)),some (.int (go (row.take j) (1+i))),v5,v6]/\ag H H''/\H'' l=some (.lst (((bP 1 (n+1)).take i).map fun x=>V.int (go row x))))
    ⟨v5,v6,rfl,s1,h1⟩ (fun j σ H'' _ ⟨_,_,_,s3,_⟩=>aC.of (s3 _ _ hl0)) ?_ ?_⟩
   .rintro j y σ H'' hj ⟨v5,v6,rfl,s3,h3⟩
    obtain⟨te,a,b,rfl,hte,hrow⟩:=hx.get hj
    have hab:a≠b:=by have:=hg (a,b) (N9 hrow);simp only at this;lia
    refine⟨te,_,rfl,e8.of (s3 _ _ hte),rfl,_,_,rfl,_,_,rfl,rfl,fun p hp=>?_⟩
    refine⟨_,rfl,_,rfl,_,rfl,_,rfl,ae,[(Sum.inl a,.int b),(Sum.inl b,.int a)],rfl,(show 2<=15 by decide),p,rfl,.inl ⟨_,.inl ae⟩,_,rfl,_,rfl,_,c8.k (k:=Sum.inl (go (row.take j) (1+i))) ae,?_⟩
    have np:l≠p:=aj h3 hp
    refine⟨some (.int a),some (.int b),?_,fun c o e=>?_,?_⟩
    .rw[jY _ _ _ hab,←AF hrow]
     rfl
    .have z:=s3 c o e
     rw[ao (aj z hp),ao (aj z hp)];exact z
    .rw[ao np,ao np];exact h3
   .rintro σ H'' ⟨v5,v6,rfl,s3,h3⟩
    rw[hx.length,List.take_length]
    refine⟨_,rfl,.inl ⟨rfl,_,aC.of h3⟩,_,rfl,l,_,_,rfl,rfl,h3,?_,?_⟩
    .rw[NY,N5,aJ]
     have:(1000:Nat)<sizeLine:=by decide
     lia
    .refine⟨_,_,_,_,rfl,fun c o e=>?_,?_⟩
     .rw[ao (aj e hl)];exact s3 c o e
     .rw[ae,aH (fun x=>V.int (go row x)) (dt hi)]
  .rintro σ H' ⟨v3,v4,v5,v6,rfl,s1,h1⟩
   have e:(bP 1 (n+1)).take ((n+1-1).toNat)=bP 1 (n+1):=List.take_of_length_le (by rw[aJ];exact Nat.le_refl _)
   rw[e]at h1
   refine⟨_,rfl,l,_,rfl,.inl ⟨aC.of h1,fun t ht=>?_⟩⟩
   refine k t _ (s1.free ht) ?_ (s1.trans (ag.new ht))
   rw[ae]
   unfold bp
   rw[N7]
   rfl
end
section
variable{P:Program}{w:World}{K:W.Frag}{mg:Str->Option Value}{base:Heap}
theorem cu:az ["_law_order","_law_found","_law_met","_law_first","_law_some"] ["_law_order"] (ar (top 120)):=⟨rfl,rfl,rfl,by decide+kernel,rfl,by decide+kernel,by decide+kernel⟩
theorem yJ{f:Addr}{fd:FuncData}(F:dh K "_law_rounds" "_law_rounds" (top 120) f fd)(T:T1 mg K):aR P w K mg base hZ 1 f fd ["_law_order"] de:=by
 refine F.ok cu (fun vs H Q E h=>?_) (fun cdv A outer s H vs Q E hr h=>?_)
 .obtain⟨t,n,xs,rfl,_⟩:=h
  rfl
 .obtain⟨t,n,xs,rfl,ht,o,hn,k⟩:=h
  refine⟨_,(ah (aB (i:=1) cu.nd rfl (Or.inl rfl) (aZ af))
   (ah (aB (i:=2) cu.nd rfl (Or.inl rfl) (aZ af))
   (ah (eu PassesOwn.never rfl (fh rfl T.cQ (aa ak (aa (ax bw (aq (aK (K:=K) rfl) rfl T.bV (by decide+kernel) (aa (pv 0) af)) ak) af))) (ay (i:=3) cu.nd rfl (Or.inl rfl)) (ai (bt (aI (A0 (K:=K) rfl) (pv 3) (pv 2) rfl) (ah (aB (i:=4) cu.nd rfl (Or.inl rfl) (aZ (aa (pv 3) af)))
   (ah (qJ PassesOwn.never (aI lG (aQ (kP (K:=K) rfl) (pv 0) (ax cx (aQ (av (K:=K) rfl) (pv 4) (HR DB ak) (fun _ _=>rfl)) ak) (fun _ _=>rfl)) (pv 3) (aL _)) (ai (cB (br (K:=K) rfl PySem.F.plainAttrs_list PySem.F.slot_list_append PySem.F.type_list_append cz (pv 4) (aa (aQ (kP (K:=K) rfl) (pv 0) (ax cx (aQ (av (K:=K) rfl) (pv 4) (HR DB ak) (fun _ _=>rfl)) ak) (fun _ _=>rfl)) af)))))
   (ah (aB (i:=2) cu.nd rfl (Or.inl rfl) (ax gP (pv 2) (pv 4)))
   (ai (cB (br (K:=K) rfl PySem.F.plainAttrs_list PySem.F.slot_list_append PySem.F.type_list_append cz (pv 1) (aa (pv 4) af))))))) aE)))
   (ai (aA (pv 1)))))),?_⟩
  have ol:=o.length
  have big:(10000000:Nat)<=sizeLine:=by decide
  refine⟨Nat.zero_le _,fun lf hlf=>⟨Nat.zero_le _,fun lm hlm=>?_⟩⟩
  have nfm:lf≠lm:=by intro z;subst z;rw[ae]at hlm;cases hlm
  have s1:ag H (upd H lf (.lst [])):=ag.new hlf
  have s2:=s1.trans (ag.new (o:= .lst []) hlm)
  refine⟨_,rfl,t,_,rfl,.inr (e8.of (s2 _ _ ht)),_,_,rfl,rfl,1,_,rfl,⟨by decide,by decide,by lia,by rw[NY];lia⟩,?_⟩
  refine cU (fun i σ H'=>∃lm ws ms v3 v4,σ=[some (.ref t),some (.ref lf),some (.ref lm),v3,v4]/\ag H H'/\lf≠lm/\H' lf=some (.lst ws)/\H' lm=some (.lst (ms.map V.int))/\cb H' ws ((((bP 1 (n+1)).take i).filter (least xs)).map (jJ xs))/\gw H ws/\V.ref lf∉ws/\ws.length<=i/\ms.length<=i*1000/\∀y,y∈ms↔∃m∈((bP 1 (n+1)).take i).filter (least xs),y∈jJ xs m)
   ⟨lm,[],[],_,_,rfl,s2,nfm,by rw[ao nfm,ae],ae,.nil,gw.nil,by simp,Nat.le_refl _,Nat.le_refl _,by intro y;simp⟩ ?_ ?_
  .rintro i σ H' hi ⟨lm,ws,ms,v3,v4,rfl,s3,nfm,hf3,hm3,x3,fr3,nf3,wl,ml,mm⟩
   rw[NY]at hi
   have hi':(i:Int)<n:=by lia
   have ef:((bP 1 (n+1)).take (i+1))=(bP 1 (n+1)).take i++[1+(i:Int)]:=by rw[List.take_succ,dt (by lia)];rfl
   have b1:(1:Int)<=1+i:=by lia
   have b2:(1:Int)+i<=n:=by lia
   have ml2:=BB o hi'
   refine⟨_,rfl,_,rfl,lm,_,rfl,.inl (aC.of hm3),rfl,iG ms,_,rfl,?_⟩
   show if(!Kj (.int (1+(i:Int))) (ms.map V.int))=true then _ else _
   rw[zR]
   refine dQ (fun c=>?_) (fun c=>?_)
   .have c:¬(1+(i:Int))∈ms:=by simpa using c
    have hL:least xs (1+i)=true:=ml2.mpr (fun z=>c ((mm _).mpr z))
    refine⟨_,rfl,(by show 1<=sizeLine;decide),fun la hla=>?_⟩
    have fla:H la=none:=s3.free hla
    have nfa:lf≠la:=aj hf3 hla
    have nma:lm≠la:=aj hm3 hla
    have pl:=yd o b1 b2
    have naw:V.ref la∉ws:=fun z=>by
     obtain⟨ns,e⟩:=x3.mem z
     rw[hla]at e;cases e
    refine⟨fun m σ H2=>∃j,m=hU xs (1+i)-j/\1<=j/\j<=hU xs (1+i)/\σ=[some (.ref t),some (.ref lf),some (.ref lm),some (.int (1+(i:Int))),some (.ref la)]/\H2=upd H' la (.lst (((List.range j).map fun k=>eY (ld xs) k (1+i)).map V.int)),⟨_,1,rfl,Nat.le_refl _,by unfold hU;lia,rfl,rfl⟩,?_⟩
    rintro m σ H2 ⟨j,rfl,j1,j2,rfl,rfl⟩
    have ir:=dE o b1 b2 (j-1)
    have s4:ag H (upd H' la (.lst (((List.range j).map fun k=>eY (ld xs) k (1+i)).map V.int))):=ag.put s3 fla
    have gl:rF (((List.range j).map fun k=>eY (ld xs) k (1+(i:Int))).map V.int) (-1)=some (.int (eY (ld xs) (j-1) (1+i))):=by
     refine FO (k:=j-1) (by rw[NY,List.length_range];lia) ?_
     rw[NZ,List.getElem?_range (by lia)]
     rfl
    have gt:rF (xs.map V.int) (eY (ld xs) (j-1) (1+i)-1)=some (.int (eY (ld xs) j (1+i))):=by
     have q:=ma (ns:=xs) (i:=eY (ld xs) (j-1) (1+i)-1) (by lia) (n8 o ir.1 ir.2)
     rw[q]
     obtain⟨j',rfl⟩:∃j',j=j'+1:=⟨j-1,by lia⟩
     rfl
    refine⟨_,rfl,_,rfl,1,rfl,la,_,_,_,rfl,rfl,aC.of ae,gl,_,_,rfl,rfl,t,_,_,_,rfl,rfl,e8.of (s4 _ _ ht),gt,_,rfl,rfl,_,rfl,dQ (fun c2=>?_) (fun c2=>?_)⟩
    .have c2:eY (ld xs) j (1+i)≠1+(i:Int):=by simpa using c2
     have lt:j<hU xs (1+i):=by
      by_cases e:j=hU xs (1+i)
      .rw[e]at c2;exact absurd (qk o b1 b2) c2
      .lia
     refine⟨fun σ' H2=>σ'=[some (.ref t),some (.ref lf),some (.ref lm),some (.int (1+(i:Int))),some (.ref la)]/\H2=upd H' la (.lst (((List.range (j+1)).map fun k=>eY (ld xs) k (1+i)).map V.int)),fun σ' H2 ⟨e1,e2⟩=>⟨_,(by show hU xs (1+i)-(j+1)<_;lia),j+1,rfl,by lia,by lia,e1,e2⟩,?_⟩
     refine⟨_,rfl,.inl ⟨rfl,_,aC.of ae⟩,_,rfl,_,rfl,1,rfl,la,_,_,_,rfl,rfl,aC.of ae,gl,_,_,rfl,rfl,t,_,_,_,rfl,rfl,e8.of (s4 _ _ ht),gt,la,_,_,rfl,rfl,ae,by simp;lia,rfl,?_⟩
     rw[E1,List.range_succ,N2,N2]
     rfl
    .have c2:eY (ld xs) j (1+i)=1+(i:Int):=by simpa using c2
     have e:j=hU xs (1+i):=by
      apply Classical.byContradiction
      intro z
      exact yk (by lia) (by lia) c2
     subst e
     have hla4:upd H' la (.lst (((List.range (hU xs (1+i))).map fun k=>eY (ld xs) k (1+i)).map V.int)) la=some (.lst ((jJ xs (1+i)).map V.int)):=ae
     have hf4:upd H' la (.lst (((List.range (hU xs (1+i))).map fun k=>eY (ld xs) k (1+i)).map V.int)) lf=some (.lst ws):=by rw[ao nfa];exact hf3
     have hm4:upd H' la (.lst (((List.range (hU xs (1+i))).map fun k=>eY (ld xs) k (1+i)).map V.int)) lm=some (.lst (ms.map V.int)):=by rw[ao nma];exact hm3
     have x4:=x3.keep (ag.new (o:= .lst (((List.range (hU xs (1+i))).map fun k=>eY (ld xs) k (1+i)).map V.int)) hla)
     generalize upd H' la (.lst (((List.range (hU xs (1+i))).map fun k=>eY (ld xs) k (1+i)).map V.int))=H4 at s4 hla4 hf4 hm4 x4⊢
     have ol2:=jf xs (1+i)
     refine⟨_,rfl,_,rfl,lm,la,_,_,rfl,rfl,hm4,hla4,by rw[NY,NY];lia,fun l5 f5=>?_⟩
     have nf5:lf≠l5:=aj hf4 f5
     refine⟨_,rfl,.inl ⟨rfl,_,aC.of (by rw[ao nf5];exact hf4)⟩,_,rfl,lf,_,_,rfl,rfl,(by rw[ao nf5];exact hf4),by lia,?_⟩
     have s5:=s4.trans (ag.new (o:= .lst (ms.map V.int++(jJ xs (1+i)).map V.int)) f5)
     refine⟨l5,ws++[.ref la],ms++jJ xs (1+i),_,_,rfl,ag.put s5 hlf,nf5,ae,?_,?_,fr3.snoc x3 hla fla,?_,?_,?_,?_⟩
     .rw[ao nf5.symm,ae,N2]
     .rw[ef,List.filter_append,N2,List.filter_cons_of_pos hL]
      refine cb.off ((x4.keep (ag.new f5)).snoc (by rw[ao (aj hla4 f5)];exact hla4)) ?_
      intro z
      rcases List.mem_append.mp z with z|z
      .exact nf3 z
      .exact nfa (by simpa using z)
     .intro z
      rcases List.mem_append.mp z with z|z
      .exact nf3 z
      .exact nfa (by simpa using z)
     .rw[N0,List.length_singleton];lia
     .rw[N0];lia
     .intro y
      rw[ef,List.filter_append,List.filter_cons_of_pos hL,List.filter_nil,List.mem_append,mm]
      constructor
      .rintro(⟨m,h1,h2⟩|h)
       .exact⟨m,List.mem_append_left _ h1,h2⟩
       .exact⟨1+i,List.mem_append_right _ (List.mem_singleton.mpr rfl),h⟩
      .rintro⟨m,h1,h2⟩
       rcases List.mem_append.mp h1 with z|z
       .exact .inl ⟨m,z,h2⟩
       .rw[List.mem_singleton.mp z]at h2;exact .inr h2
   .have c:(1+(i:Int))∈ms:=by simpa using c
    have hL:least xs (1+i)=false:=by
     cases e:least xs (1+(i:Int))with
     |false=>rfl
     |true=>exact absurd ((mm _).mp c) (ml2.mp e)
    have e2:((bP 1 (n+1)).take (i+1)).filter (least xs)=((bP 1 (n+1)).take i).filter (least xs):=by
     rw[ef,List.filter_append,List.filter_cons_of_neg (by rw[hL];decide),List.filter_nil,List.append_nil]
    refine⟨lm,ws,ms,_,_,rfl,s3,nfm,hf3,hm3,?_,fr3,nf3,by lia,by lia,?_⟩
    .rw[e2];exact x3
    .rw[e2];exact mm
  .rintro σ H' ⟨lm,ws,ms,v3,v4,rfl,s3,nfm,hf3,hm3,x3,fr3,nf3,wl,ml,mm⟩
   have e3:(bP 1 (n+1)).take (((xs.map V.int).length:Int)+1-1).toNat=bP 1 (n+1):=List.take_of_length_le (by rw[aJ,NY];lia)
   rw[e3]at x3
   exact⟨_,rfl,k lf ws H' hlf hf3 x3 fr3 nf3 s3⟩
end
def Lz(S:List (List Int)):Str:=Str.join (NX "/") (S.map oh)
theorem Fe{S:List (List Int)}(sl:S.length<=12)(hp:∀r∈S,r.length<=12/\∀x∈r,0<=x/\x<10^9):(Lz S).length<=10000:=by
 have h1:=StrLaws.join_length_le (NX "/") (S.map oh)
 have h2:=StrLaws.sumLen_le (B:=120) (S.map oh) (fun y hy=>by
  obtain⟨r,hr,rfl⟩:=List.mem_map.mp hy
  have:=mQ (hp r hr).2
  have:=(hp r hr).1
  lia)
 have e:(NX "/").length=1:=by decide+kernel
 rw[NY]at h1 h2
 unfold Lz
 rw[e]at h1
 lia
def vX:Sp:=fun vs H Q _=>∃(l:Addr)(ws:List V)(S:List (List Int)),vs=[.ref l]/\H l=some (.lst ws)/\cb H ws S/\S.length<=12/\(∀r∈S,r.length<=12/\∀x∈r,0<=x/\x<10^9)/\∀H',ag H H'->Q (.str (Lz S)) H'
structure Lq(P:Program)(w:World)(K:W.Frag)(mg:Str->Option Value)(base:Heap):Prop extends T1 mg K where
 dg:FnAt P w K mg base "show_things" 1 ["things"] qZ
def ES(S:List (List Int)):Str:=Str.join (NX "/") (S.map pV)
theorem NP:NX "/" =⟨#[47]⟩:=by decide+kernel
theorem Jh:∀{S:List (List Int)},(∀r∈S,∀x∈r,0<=x)->cm (Lz S)=ES S:=by
 have key:∀(l:List (List Nat)),(glue 47 l).map (Ca 32 44)=glue 47 (l.map fun p=>p.map (Ca 32 44)):=by
  intro l
  induction l with
  |nil=>rfl
  |cons p r ih=>
   cases r with
   |nil=>rfl
   |cons q r=>
    have e1:glue 47 (p::q::r)=p++47::glue 47 (q::r):=rfl
    rw[e1,N2,N4,ih]
    rfl
 intro S h
 refine bT ?_
 unfold Lz ES
 rw[cH,NP,bU,bU,key,N7,N7,N7]
 congr 1
 refine List.map_congr_left fun r hr=>?_
 show(signs (oh r)).map (Ca 32 44)=signs (pV r)
 rw[←cH,yA (h r hr)]
section
variable{P:Program}{w:World}{K:W.Frag}{mg:Str->Option Value}{base:Heap}
theorem pE:az ["sharing"] ["sharing"] (ar (top 79)):=⟨rfl,rfl,rfl,by decide+kernel,rfl,by decide+kernel,by decide+kernel⟩
theorem BX{f:Addr}{fd:FuncData}(F:dh K "show_sharing" "show_sharing" (top 79) f fd)(T:Lq P w K mg base):aR P w K mg base hZ 2 f fd ["sharing"] vX:=by
 refine F.ok pE (fun vs H Q E h=>?_) (fun cdv A outer s H vs Q E hr h=>?_)
 .obtain⟨l,ws,S,rfl,_⟩:=h
  rfl
 .obtain⟨l,ws,S,rfl,hl,xl,sl,sb,k⟩:=h
  refine⟨_,(ai (aA (br (K:=K) rfl PySem.F.plainAttrs_str PySem.F.slot_str_join PySem.F.type_str_join (fL (K:=K) rfl) aw (aa (bQ (N:=(["part"]:List Str)) (ix:=([none]:List (Option Nat))) (bc rfl rfl) rfl (aT (K:=K) rfl (pv 0)) (fun _ _ _ _=>(ay (i:=0) (show List.Nodup (["part"]:List Str)from by decide+kernel) rfl (Or.inl rfl))) (fun _ _ _ _=>bg) (fun _ _ _ _=>(au T.dg (hr.mono (by first|decide|lia)) rfl (aa (pv 0) af)))) af)))),?_⟩
  have wl:=xl.length
  refine⟨rfl,_,rfl,l,rfl,⟨_,aC.of hl⟩,eF (K:=K) (a:=l) (xs:=ws) (k:=0) (fun i ys σ' H'=>ys=((S.take i).map oh).map V.str/\(∃v0,σ'=[v0])/\ag H H') (by lia) ⟨rfl,⟨none,rfl⟩,ag.refl _⟩ (fun i ys σ' H' _ q=>aC.of (q.2.2 _ _ hl)) (fun i ys σ' H' q=>by rw[q.1,NY,NY,N5];lia) ?_ ?_⟩
  .rintro i ys σ' H1 x R hx ⟨rfl,⟨v0,rfl⟩,s1⟩ done
   obtain⟨b,r,rfl,hb,hr'⟩:=(xl.keep s1).get hx
   have g:=sb r (N9 hr')
   refine⟨_,rfl,b,r,rfl,hb,by lia,g.2,fun H2 s2=>done _ _ _ ⟨?_,⟨_,rfl⟩,s1.trans s2⟩⟩
   rw[aH oh hr',N2]
   rfl
  .rintro ys σ' H1 q ⟨rfl,⟨v0,rfl⟩,s1⟩ fq
   rw[List.take_of_length_le (by lia)]
   refine⟨_,q,S.map oh,rfl,rfl,aC.of ae,bF (B:=120) (by decide+kernel) (fun y hy=>?_) (by decide) (by rw[NY];lia),k _ (s1.trans (ag.new fq))⟩
   obtain⟨r,hr',rfl⟩:=List.mem_map.mp hy
   have g:=sb r hr'
   have:=mQ g.2
   lia
end
def DH:Sp:=fun vs H Q _=>∃(t:Addr)(n:Int)(xs:List Int),vs=[.ref t]/\H t=some (.tup (xs.map V.int))/\Ord n xs/\n<=50/\∀(l:Addr)(ns:List Int) H',H l=none->H' l=some (.lst (ns.map V.int))->ns.Perm ((aU n xs).map fun r=>(r.length:Int))->ns.Pairwise (·≥·)->ag H H'->Q (.ref l) H'
structure TK(P:Program)(w:World)(K:W.Frag)(mg:Str->Option Value)(base:Heap):Prop extends T1 mg K where
 bC:mg "sorted" =none
 cM:FnAt P w K mg base "rounds" 3 ["order"] de
section
variable{P:Program}{w:World}{K:W.Frag}{mg:Str->Option Value}{base:Heap}
theorem FU:az ["order"] ["order"] (ar (top 25)):=⟨rfl,rfl,rfl,by decide+kernel,rfl,by decide+kernel,by decide+kernel⟩
theorem GA{f:Addr}{fd:FuncData}(F:dh K "kind" "kind" (top 25) f fd)(T:TK P w K mg base):aR P w K mg base hZ 4 f fd ["order"] DH:=by
 refine F.ok FU (fun vs H Q E h=>?_) (fun cdv A outer s H vs Q E hr h=>?_)
 .obtain⟨t,n,xs,rfl,_⟩:=h
  rfl
 .obtain⟨t,n,xs,rfl,ht,o,hn,k⟩:=h
  refine⟨_,(ai (aA (yL (K:=K) rfl rfl T.bC (aa (bQ (N:=(["found"]:List Str)) (ix:=([none]:List (Option Nat))) (bc rfl rfl) rfl (aT (K:=K) rfl (au T.cM (hr.mono (by first|decide|lia)) rfl (aa (pv 0) af))) (fun _ _ _ _=>(ay (i:=0) (show List.Nodup (["found"]:List Str)from by decide+kernel) rfl (Or.inl rfl))) (fun _ _ _ _=>bg) (fun _ _ _ _=>(aq (aK (K:=K) rfl) rfl T.bV (by decide+kernel) (aa (pv 0) af)))) af)))),?_⟩
  have rl:=pQ (xs:=xs) hn
  refine⟨_,rfl,t,n,xs,rfl,ht,o,by lia,fun l ws H1 fl hl x1 fr nl s1=>⟨l,rfl,⟨_,aC.of hl⟩,?_⟩⟩
  have wl:=x1.length
  refine eF (K:=K) (a:=l) (xs:=ws) (k:=0) (fun i ys σ' H'=>ys=((aU n xs).take i).map (fun r=>V.int (r.length:Int))/\(∃v,σ'=[v])/\H'=H1) (by lia) ⟨rfl,⟨none,rfl⟩,rfl⟩ (fun i ys σ' H' _ q=>by rw[q.2.2];exact aC.of hl) (fun i ys σ' H' q=>by rw[q.1,NY,N5];lia) ?_ ?_
  .rintro i ys σ' H' x R hx ⟨rfl,⟨v,rfl⟩,rfl⟩ done
   obtain⟨a,ns,rfl,ha,hns⟩:=x1.get hx
   refine⟨_,rfl,a,_,rfl,.inl (aC.of ha),done _ _ _ ⟨?_,⟨_,rfl⟩,rfl⟩⟩
   rw[aH (fun r=>V.int ((r:List Int).length:Int)) hns,NY]
  .rintro ys σ' H' q ⟨rfl,⟨v,rfl⟩,rfl⟩ hq
   rw[List.take_of_length_le (by lia)]
   refine⟨q,(aU n xs).map (fun r=>(r.length:Int)),rfl,aC.of (by rw[ae,N7];rfl),by rw[NY];lia,fun l2 ns' f2 pm pw=>?_⟩
   have s2:=s1.trans (ag.new (o:= .lst ((aU n xs).map (fun r=>V.int (r.length:Int)))) hq)
   exact k l2 ns' _ (s2.free f2) ae pm pw (s2.trans (ag.new f2))
end
structure Ni(P:Program)(w:World)(K:W.Frag)(mg:Str->Option Value)(base:Heap):Prop extends T1 mg K where
 mY:FnAt P w K mg base "led" 3 ["n","row"] qQ
 cM:FnAt P w K mg base "rounds" 3 ["order"] de
section
variable{P:Program}{w:World}{K:W.Frag}{mg:Str->Option Value}{base:Heap}
theorem wZ:az ["n","row"] ["n","row"] (ar (top 36)):=⟨rfl,rfl,rfl,by decide+kernel,rfl,by decide+kernel,by decide+kernel⟩
theorem C5{f:Addr}{fd:FuncData}(F:dh K "is_least" "is_least" (top 36) f fd)(T:Ni P w K mg base):aR P w K mg base hZ 4 f fd ["n","row"] Ah:=by
 refine F.ok wZ (fun vs H Q E h=>?_) (fun cdv A outer s H vs Q E hr h=>?_)
 .obtain⟨n,l,es,row,rfl,_⟩:=h
  rfl
 .obtain⟨n,l,es,row,rfl,n0,n1,hl,hx,hg,k⟩:=h
  refine⟨_,(ai (aA (fH cG (aq (aK (K:=K) rfl) rfl T.bV (by decide+kernel) (aa (pv 1) af)) (ax cx (pv 0) (aq (aK (K:=K) rfl) rfl T.bV (by decide+kernel) (aa (au T.cM (hr.mono (by first|decide|lia)) rfl (aa (au T.mY (hr.mono (by first|decide|lia)) rfl (aa (pv 0) (aa (pv 1) af))) af)) af))) (aL _)))),?_⟩
  refine⟨_,rfl,l,_,rfl,.inl (aC.of hl),_,rfl,_,rfl,_,rfl,n,l,es,row,rfl,n0,n1,hl,hx,hg,fun t H1 ft ht s1=>?_⟩
  refine⟨t,n,bp n row,rfl,ht,nh hg,n1,fun l2 ws H2 f2 h2 x2 fr nl s2=>?_⟩
  refine⟨l2,_,rfl,.inl (aC.of h2),_,_,rfl,rfl,rfl,?_⟩
  have e:ws.length=cnt n (bp n row):=by
   rw[x2.length]
   unfold aU cnt
   rw[NY]
  rw[e,hx.length]
  have e2:∀a b:Int,decide (V.int a=V.int b)=decide (a=b):=fun a b=>by rw[Bool.eq_iff_iff];simp
  rw[e2]
  exact k _ (s1.trans s2)
end
def pR:Sp:=fun vs H Q _=>∃(n:Int)(l:Addr)(es:List V)(row:List (Int×Int)),vs=[.int n,.ref l]/\0<=n/\n<=50/\H l=some (.lst es)/\dB H es row/\Good n row/\
 ∀lp ws H',H lp=none->H' lp=some (.lst ws)->cb H' ws (bL n row)->gw H ws->V.ref lp∉ws->ag H H'->Q (.ref lp) H'
structure NQ(mg:Str->Option Value)(K:W.Frag):Prop extends T1 mg K where
 bC:mg "sorted" =none
theorem yf{α:Type}{l:List α}{i:Nat}{x:α}(h:l[i]?=some x):l.take (i+1)=l.take i++[x]:=by rw[List.take_succ,h];rfl
section
variable{P:Program}{w:World}{K:W.Frag}{mg:Str->Option Value}{base:Heap}
theorem dS:az ["n","row","part_of","found","thing","a","b","kept","joined"] ["n","row"] (ar (top 34)):=⟨rfl,rfl,rfl,by decide+kernel,rfl,by decide+kernel,by decide+kernel⟩
theorem Dz{f:Addr}{fd:FuncData}(F:dh K "parts" "parts" (top 34) f fd)(T:NQ mg K):aR P w K mg base hZ 2 f fd ["n","row"] pR:=by
 refine F.ok dS (fun vs H Q E h=>?_) (fun cdv A outer s H vs Q E hr h=>?_)
 .obtain⟨n,l,es,row,rfl,_⟩:=h
  rfl
 .obtain⟨n,l,es,row,rfl,n0,n1,hl,hx,hg,k⟩:=h
  have hu:=o9 hr
  refine⟨_,(ah (aB (i:=2) dS.nd rfl (Or.inl rfl) (aO (sN rfl) rfl T.va (by decide+kernel) (aa (aO rA rfl T.cQ (by decide+kernel) (aa (ax bw (pv 0) ak) af)) af)))
   (ah (eu PassesOwn.never rfl (aT (K:=K) rfl (pv 1)) (eD (K:=K) (n:=2) rfl rfl (bh (ay (i:=5) dS.nd rfl (Or.inl rfl)) (bh (ay (i:=6) dS.nd rfl (Or.inl rfl)) dW))) (ah (qG (jW (aa (aQ (av (K:=K) rfl) (pv 2) (pv 5) (fun _ _=>rfl)) (aa (aQ (av (K:=K) rfl) (pv 2) (pv 6) (fun _ _=>rfl)) af))) (eD (K:=K) (n:=2) rfl rfl (bh (ay (i:=7) dS.nd rfl (Or.inr rfl)) (bh (ay (i:=8) dS.nd rfl (Or.inr rfl)) dW))))
   (ai (mL (i:=2) dS.nd rfl rfl (N:=(["part","kept","joined"]:List Str)) (ix:=([none,some 7,some 8]:List (Option Nat))) (bc rfl rfl) rfl (aT (K:=K) rfl (pv 2)) (fun _ _ _ _=>(ay (i:=0) (show List.Nodup (["part","kept","joined"]:List Str)from by decide+kernel) rfl (Or.inl rfl))) (fun _ _ _ _=>bg) (fun _ _ _ _=>(j8 (aI cG (pv 0) (pv 2) (aL _)) (pv 1) (pv 0)))))))
   (ah (aB (i:=3) dS.nd rfl (Or.inl rfl) mP)
   (ah (eu PassesOwn.never rfl (fh rfl T.cQ (aa ak (aa (ax bw (pv 0) ak) af))) (ay (i:=4) dS.nd rfl (Or.inl rfl)) (ai (cB (br (K:=K) rfl PySem.F.plainAttrs_list PySem.F.slot_list_append PySem.F.type_list_append cz (br (K:=K) rfl PySem.F.plainAttrs_dict PySem.F.slot_dict_setdefault PySem.F.type_dict_setdefault Bo (pv 3) (aa (aQ (av (K:=K) rfl) (pv 2) (pv 4) (fun _ _=>rfl)) (aa (aZ af) af))) (aa (pv 4) af)))))
   (ai (aA (vS rfl hr.units rfl T.bC (pv 3)))))))),?_⟩
  have big:(10000000:Nat)<=sizeLine:=by decide
  refine⟨_,rfl,_,_,rfl,rfl,.inl ⟨_,rfl,fun rg frg=>⟨rg,_,_,rfl,ae,by lia,by lia,by lia,by lia,fun l0 f0=>?_⟩⟩⟩
  have s0:ag H (upd (upd H rg (.yS 0 (n+1))) l0 (.lst ((bP 0 (n+1)).map V.int))):=(ag.new frg).trans (ag.new f0)
  have fl0:H l0=none:=(ag.new frg).free f0
  have h0:upd (upd H rg (.yS 0 (n+1))) l0 (.lst ((bP 0 (n+1)).map V.int)) l0=some (.lst ((bP 0 (n+1)).map V.int)):=ae
  generalize upd (upd H rg (.yS 0 (n+1))) l0 (.lst ((bP 0 (n+1)).map V.int))=H0 at s0 h0⊢
  clear frg f0
  have il:=aJ 0 (n+1)
  have xl:=hx.length
  refine⟨_,rfl,l,rfl,⟨_,aC.of (s0 _ _ hl)⟩,kh (K:=K) (a:=l) (xs:=es) (fun i σ H'=>(∃lp v3 v4 v5 v6 v7 v8,σ=[some (.int n),some (.ref l),some (.ref lp),v3,v4,v5,v6,v7,v8]/\H' lp=some (.lst (((bP 0 (n+1)).map (aM (row.take i))).map V.int)))/\ag H H')
   ⟨⟨l0,_,_,_,_,_,_,rfl,by rw[h0];rw[List.take_zero];show _=some (HO.lst (((bP 0 (n+1)).map id).map V.int));rw[List.map_id]⟩,s0⟩ (fun i σ H' _ q=>aC.of (q.2 _ _ hl)) ?_ ?_⟩
  .rintro i x σ H1 hi ⟨⟨lp,v3,v4,v5,v6,v7,v8,rfl,h1⟩,s1⟩
   obtain⟨te,a,b,rfl,hte,hrow⟩:=hx.get hi
   have gab:=hg (a,b) (N9 hrow)
   simp only at gab
   refine⟨te,_,rfl,e8.of (s1 _ _ hte),rfl,_,_,rfl,_,_,rfl,rfl,?_⟩
   refine⟨_,rfl,_,rfl,lp,_,_,_,rfl,rfl,aC.of h1,ma (by lia) (Eb (by lia) (by lia)),_,rfl,_,rfl,lp,_,_,_,rfl,rfl,aC.of h1,ma (by lia) (Eb (by lia) (by lia)),(by show 2<=sizeLine;decide),fun tp ftp=>?_⟩
   have sp:=ag.new (o:= .tup [V.int (aM (row.take i) a),V.int (aM (row.take i) b)]) ftp
   refine⟨tp,_,rfl,e8.of ae,rfl,_,_,rfl,_,_,rfl,rfl,?_⟩
   have h2:=sp _ _ h1
   refine⟨_,rfl,lp,rfl,⟨_,aC.of h2⟩,eF (K:=K) (a:=lp) (xs:=((bP 0 (n+1)).map (aM (row.take i))).map V.int) (k:=0) (fun j ys σ' H'=>ys=((((bP 0 (n+1)).map (aM (row.take i))).take j).map (fun p=>if p=aM (row.take i) b then aM (row.take i) a else p)).map V.int/\(∃v,σ'=[v,some (.int (aM (row.take i) a)),some (.int (aM (row.take i) b))])/\H'=upd H1 tp (.tup [V.int (aM (row.take i) a),V.int (aM (row.take i) b)])) (by rw[NY,NY];lia) ⟨rfl,⟨none,rfl⟩,rfl⟩
    (fun j ys σ' H' _ q=>by rw[q.2.2];exact aC.of h2) (fun j ys σ' H' q=>by rw[q.1,NY,NY,N5];lia) ?_ ?_⟩
   .rintro j ys σ' H' y R hy ⟨rfl,⟨v,rfl⟩,rfl⟩ done
    obtain⟨z,rfl,hz⟩:=iU hy
    have e:∀r:Int,r=(if z=aM (row.take i) b then aM (row.take i) a else z)->((((bP 0 (n+1)).map (aM (row.take i))).take j).map (fun p=>if p=aM (row.take i) b then aM (row.take i) a else p)).map V.int++[V.int r]=((((bP 0 (n+1)).map (aM (row.take i))).take (j+1)).map (fun p=>if p=aM (row.take i) b then aM (row.take i) a else p)).map V.int:=fun r er=>by
     rw[aH _ hz,N2,er]
     rfl
    refine⟨_,rfl,_,rfl,rfl,_,rfl,dQ (fun c=>?_) (fun c=>?_)⟩
    .have c:z=aM (row.take i) b:=by simpa using c
     exact⟨_,rfl,done _ _ _ ⟨e _ (by rw[if_pos c]),⟨_,rfl⟩,rfl⟩⟩
    .have c:¬z=aM (row.take i) b:=by simpa using c
     exact⟨_,rfl,done _ _ _ ⟨e _ (by rw[if_neg c]),⟨_,rfl⟩,rfl⟩⟩
   .rintro ys σ' H' q ⟨rfl,⟨v,rfl⟩,rfl⟩ fq
    refine⟨⟨q,_,_,_,_,_,_,rfl,?_⟩,(s1.trans sp).trans (ag.new fq)⟩
    rw[ae,NY,List.take_length,Dd,yf hrow,nV]
  rintro σ H1 ⟨⟨lp,v3,v4,v5,v6,v7,v8,rfl,h1⟩,s1⟩
  rw[List.take_of_length_le (by lia)]at h1
  refine fun gd fgd=>?_
  have fgd0:H gd=none:=s1.free fgd
  have s2:=s1.trans (ag.new (o:= .dK []) fgd)
  have h2:=ag.new (o:= .dK []) fgd _ _ h1
  have hg2:upd H1 gd (.dK []) gd=some (.dK []):=ae
  generalize upd H1 gd (.dK [])=H2 at s2 h2 hg2⊢
  refine⟨_,rfl,_,_,rfl,rfl,1,n+1,rfl,⟨by decide,by decide,by lia,by lia⟩,cU (fun i σ H'=>(∃v4,σ=[some (.int n),some (.ref l),some (.ref lp),some (.ref gd),v4,v5,v6,v7,v8])/\ag H H'/\H' lp=some (.lst (((bP 0 (n+1)).map (aM row)).map V.int))/\∃kvs,H' gd=some (.dK kvs)/\kvs.map (·.1)=(uB (aM row) ((bP 1 (n+1)).take i)).map (fun p=>(Sum.inl p.1:Key))/\cb H' (kvs.map (·.2)) ((uB (aM row) ((bP 1 (n+1)).take i)).map (·.2))/\gw H (kvs.map (·.2))/\V.ref lp∉kvs.map (·.2))
   ⟨⟨_,rfl⟩,s2,h2,[],hg2,rfl,.nil,gw.nil,by simp⟩ ?_ ?_⟩
  .rintro i σ H3 hi ⟨⟨v4',rfl⟩,s3,h3,kvs,hd3,kk,xk,fk,nlp⟩
   have hi:(i:Int)<n:=by lia
   have G:=md (aM row) ((bP 1 (n+1)).take i)
   have gl:=mT (f:=aM row) i (by lia:(i:Int)<=n)
   have kl:kvs.length=(uB (aM row) ((bP 1 (n+1)).take i)).length:=by simpa using congrArg List.length kk
   rw[fM hi,mV]
   generalize uB (aM row) ((bP 1 (n+1)).take i)=acc at kk xk G gl kl⊢
   have nk:(kvs.map (·.1)).Nodup:=by
    rw[kk,List.Nodup,List.pairwise_map]
    exact(List.pairwise_map.mp G.nd).imp fun h e=>h (Sum.inl.inj e)
   have ml:∀(j:Nat)(p:Int×List Int),acc[j]?=some p->p.2.length<=100:=fun j p hp=>by
    rw[(G.mem p (N9 hp)).1]
    have:=List.length_filter_le (fun y=>decide (aM row y=p.1)) ((bP 1 (n+1)).take i)
    rw[N5]at this
    lia
   refine⟨_,rfl,.inr (.inr (.inl ⟨rfl,.inl ⟨kvs,hd3⟩⟩)),_,rfl,_,rfl,lp,_,_,_,rfl,rfl,aC.of h3,ma (by lia) (Eb (by lia) (by lia)),Nat.zero_le _,fun l1 f1=>?_⟩
   have sn:=ag.new (o:= .lst []) f1
   have fl1:H l1=none:=s3.free f1
   refine⟨gd,kvs,Sum.inl (aM row (1+(i:Int))),.ref l1,rfl,rfl,sn _ _ hd3,by lia,fun w hw=>?_,fun hn=>?_⟩
   .have hin:(Sum.inl (aM row (1+(i:Int))):Key)∈kvs.map (·.1):=by
     by_cases z:(Sum.inl (aM row (1+(i:Int))):Key)∈kvs.map (·.1)
     .exact z
     .rw[wY z]at hw;cases hw
    obtain⟨p,hp,ep⟩:=List.mem_map.mp hin
    obtain⟨j,hj,ej⟩:=List.mem_iff_getElem.mp hp
    have hj':kvs[j]?=some (Sum.inl (aM row (1+(i:Int))),p.2):=by rw[N1 hj,ej,←ep]
    rw[wy nk hj']at hw
    have hw:p.2=w:=Option.some.inj hw
    have hjs:(kvs.map (·.2))[j]?=some w:=by rw[NZ,hj',←hw];rfl
    obtain⟨a,ms,rfl,ha,hms⟩:=xk.get hjs
    have hacc:acc[j]?=some (aM row (1+(i:Int)),ms):=by
     have e1:acc[j]?=some acc[j]:=N1 (by lia)
     have e2:(kvs.map (·.1))[j]?=some (Sum.inl acc[j].1):=by rw[kk,NZ,e1];rfl
     rw[NZ,hj']at e2
     rw[NZ,e1]at hms
     have e3:aM row (1+(i:Int))=acc[j].1:=Sum.inl.inj (Option.some.inj e2)
     have e4:acc[j].2=ms:=Option.some.inj hms
     rw[e1,e3,←e4]
    have mlen:ms.length<=100:=ml j _ hacc
    obtain⟨b',eb,fa⟩:=fk.2 _ (N9 hjs)
    cases eb
    have nla:lp≠a:=fun z=>nlp (z▸N9 hjs)
    have nga:gd≠a:=fun z=>by subst z;rw[hd3]at ha;cases ha
    refine⟨.inl ⟨rfl,_,aC.of (sn _ _ ha)⟩,_,rfl,a,_,_,rfl,rfl,sn _ _ ha,by rw[NY];lia,⟨_,rfl⟩,ag.put (s3.trans sn) fa,by rw[ao nla];exact sn _ _ h3,kvs,by rw[ao nga];exact sn _ _ hd3,?_,?_,fk,nlp⟩
    .rw[pO G.nd hacc,List.map_set,kk]
     apply List.ext_getElem?
     intro m
     by_cases e:j=m
     .subst e
      rw[List.getElem?_set_self (by rw[NY];lia),NZ,hacc]
      rfl
     .rw[List.getElem?_set_ne e]
    .rw[pO G.nd hacc,List.map_set]
     have:=(xk.keep sn).set (ns:=ms++[1+(i:Int)]) fk.1 hjs
     rw[N2]at this
     exact this
   .have hout:aM row (1+(i:Int))∉acc.map (·.1):=fun z=>by
     obtain⟨p,hp,ep⟩:=List.mem_map.mp z
     have:(Sum.inl (aM row (1+(i:Int))):Key)∈kvs.map (·.1):=by
      rw[kk]
      exact List.mem_map.mpr ⟨p,hp,by rw[ep]⟩
     obtain⟨q,hq,eq⟩:=List.mem_map.mp this
     obtain⟨j,hj,ej⟩:=List.mem_iff_getElem.mp hq
     rw[wy nk (j:=j) (v:=q.2) (by rw[N1 hj,ej,←eq])]at hn
     cases hn
    have hkout:(Sum.inl (aM row (1+(i:Int))):Key)∉kvs.map (·.1):=fun z=>by
     rw[kk]at z
     obtain⟨p,hp,ep⟩:=List.mem_map.mp z
     exact hout (List.mem_map.mpr ⟨p,hp,Sum.inl.inj ep⟩)
    rw[Cf hkout]
    have ngl:gd≠l1:=aj hd3 f1
    have nll:lp≠l1:=aj h3 f1
    have nlg:lp≠gd:=fun z=>by subst z;rw[h3]at hd3;cases hd3
    have hl1:upd (upd H3 l1 (.lst [])) gd (.dK (kvs++[(Sum.inl (aM row (1+(i:Int))),V.ref l1)])) l1=some (.lst []):=by rw[ao ngl.symm];exact ae
    refine⟨.inl ⟨rfl,_,aC.of hl1⟩,_,rfl,l1,_,_,rfl,rfl,hl1,(by show 0<sizeLine;decide),⟨_,rfl⟩,ag.put (ag.put (s3.trans sn) fgd0) fl1,by rw[ao nll,ao nlg];exact sn _ _ h3,kvs++[(Sum.inl (aM row (1+(i:Int))),V.ref l1)],by rw[ao ngl,ae],?_,?_,?_,?_⟩
    .rw[iJ hout,N2,N2,kk]
     rfl
    .rw[iJ hout,N2,N2]
     refine cb.snoc (xk.iF fun{b zs} hb e=>?_) ae
     rw[ao (aj e f1),ao (fun z=>by subst z;rw[hd3]at e;cases e),ao (aj e f1)]
     exact e
    .rw[N2]
     exact fk.snoc xk f1 fl1
    .rw[N2]
     intro z
     rcases List.mem_append.mp z with z|z
     .exact nlp z
     .exact nll (V.ref.inj (List.mem_singleton.mp z))
  .rintro σ H3 ⟨⟨v4',rfl⟩,s3,h3,kvs,hd3,kk,xk,fk,nlp⟩
   have G:=md (aM row) ((bP 1 (n+1)).take (n+1-1).toNat)
   have Hd:=t5 (f:=aM row) (n:=n) (n+1-1).toNat (by lia)
   have gl:=mT (f:=aM row) (n:=n) (n+1-1).toNat (by lia)
   have et:(bP 1 (n+1)).take (n+1-1).toNat=bP 1 (n+1):=List.take_of_length_le (by rw[aJ];exact Nat.le_refl _)
   rw[et]at kk xk G Hd gl
   have kl:kvs.length=(uB (aM row) (bP 1 (n+1))).length:=by simpa using congrArg List.length kk
   refine⟨_,rfl,gd,kvs,(uB (aM row) (bP 1 (n+1))).map (fun p=>p.2.headD 0),rfl,hd3,by lia,⟨by rw[NY,NY,kl],fun j a c h1 h2=>?_,fun j v a hv ha=>?_⟩,fun lr flr=>k lr (kvs.map (·.2)) _ (s3.free flr) ae (xk.keep (ag.new flr)) fk (fun z=>?_) (s3.trans (ag.new flr))⟩
   .obtain⟨j1,e1⟩:=List.getElem?_eq_some_iff.mp h1
    obtain⟨j2,e2⟩:=List.getElem?_eq_some_iff.mp h2
    have:=List.pairwise_iff_getElem.mp Hd j (j+1) j1 j2 (by lia)
    rw[e1,e2]at this
    exact this
   .obtain⟨b,ms,rfl,hb,hms⟩:=xk.get hv
    refine⟨b,ms,rfl,hb,?_⟩
    rw[NZ]at ha hms
    cases e:(uB (aM row) (bP 1 (n+1)))[j]? with
    |none=>rw[e]at ha;cases ha
    |some p=>
     rw[e]at ha hms
     have ne:=(G.mem p (N9 e)).2
     have e1:p.2.headD 0=a:=Option.some.inj ha
     have e2:p.2=ms:=Option.some.inj hms
     rw[←e2,←e1]
     cases q:p.2 with
     |nil=>exact absurd q ne
     |cons c r=>rfl
   .obtain⟨ns,e⟩:=xk.mem z
    rw[flr]at e
    cases e
end
section
variable{P:Program}{w:World}{K:W.Frag}{mg:Str->Option Value}{base:Heap}
theorem Cu:az ["n"] ["n"] (ar (top 21)):=⟨rfl,rfl,rfl,by decide+kernel,rfl,by decide+kernel,by decide+kernel⟩
theorem Eo{f:Addr}{fd:FuncData}(F:dh K "plain" "plain" (top 21) f fd)(T:T1 mg K):aR P w K mg base hZ 1 f fd ["n"] Al:=by
 refine F.ok Cu (fun vs H Q E h=>?_) (fun cdv A outer s H vs Q E hr h=>?_)
 .obtain⟨t,rfl,_⟩:=h
  rfl
 .obtain⟨n,rfl,h0,h1,k⟩:=h
  refine⟨_,(ai (aA (aO (qq rfl) rfl T.hJ (by decide+kernel) (aa (aO rA rfl T.cQ (by decide+kernel) (aa ak (aa (ax bw (pv 0) ak) af))) af)))),?_⟩
  refine⟨_,rfl,_,_,rfl,rfl,.inr ⟨_,_,rfl,fun r hr=>⟨r,_,_,rfl,ae,by lia,by lia,by lia,by lia,fun t ht=>?_⟩⟩⟩
  have ne:t≠r:=by intro z;subst z;rw[ae]at ht;cases ht
  rw[ao ne]at ht
  exact k t _ ht ae fun b o e=>by rw[ao (aj e ht),ao (aj e hr)];exact e
end
structure T2(P:Program)(w:World)(K:W.Frag)(mg:Str->Option Value)(base:Heap):Prop extends T1 mg K where
 Ac:FnAt P w K mg base "plain" 1 ["n"] Al
 fN:FnAt P w K mg base "exchanged" 1 ["exchange","thing"] FL
section
variable{P:Program}{w:World}{K:W.Frag}{mg:Str->Option Value}{base:Heap}
theorem uM:az ["n","row","leads","exchange"] ["n","row"] (ar (top 33)):=⟨rfl,rfl,rfl,by decide+kernel,rfl,by decide+kernel,by decide+kernel⟩
theorem Jc{f:Addr}{fd:FuncData}(F:dh K "led" "led" (top 33) f fd)(T:T2 P w K mg base):aR P w K mg base hZ 3 f fd ["n","row"] qQ:=by
 refine F.ok uM (fun vs H Q E h=>?_) (fun cdv A outer s H vs Q E hr h=>?_)
 .obtain⟨n,l,es,row,rfl,_⟩:=h
  rfl
 .obtain⟨n,l0,es,row,rfl,hn0,hn1,hl0,hx,hg,k⟩:=h
  refine⟨_,(ah (aB (i:=2) uM.nd rfl (Or.inl rfl) (aO (sR (K:=K) rfl) rfl T.va (by decide+kernel) (aa (au T.Ac (hr.mono (by first|decide|lia)) rfl (aa (pv 0) af)) af)))
   (ah (eu PassesOwn.never rfl (aT (K:=K) rfl (pv 1)) (ay (i:=3) uM.nd rfl (Or.inr rfl)) (ai (mL (i:=2) uM.nd rfl rfl (N:=(["thing","exchange"]:List Str)) (ix:=([none,some 3]:List (Option Nat))) (bc rfl rfl) rfl (aT (K:=K) rfl (pv 2)) (fun _ _ _ _=>(ay (i:=0) (show List.Nodup (["thing","exchange"]:List Str)from by decide+kernel) rfl (Or.inl rfl))) (fun _ _ _ _=>bg) (fun _ _ _ _=>(au T.fN (hr.mono (by first|decide|lia)) rfl (aa (pv 1) (aa (pv 0) af)))))))
   (ai (aA (aO (cN (K:=K) rfl) rfl T.hJ (by decide+kernel) (aa (pv 2) af)))))),?_⟩
  refine⟨_,rfl,n,rfl,hn0,hn1,fun t H1 ht ht1 s1=>⟨t,_,rfl,.inr (e8.of ht1),fun l hl=>?_⟩⟩
  have s2:ag H (upd H1 l (.lst ((bP 1 (n+1)).map V.int))):=s1.trans (ag.new hl)
  refine⟨_,rfl,l0,rfl,⟨_,aC.of (s2 _ _ hl0)⟩,kh (K:=K) (a:=l0) (xs:=es) (fun i σ H'=>∃(l:Addr)(v3:Option V),σ=[some (.int n),some (.ref l0),some (.ref l),v3]/\ag H H'/\H' l=some (.lst (((bP 1 (n+1)).map (go (row.take i))).map V.int)))
   ⟨l,none,rfl,s2,by rw[ae,List.take_zero];rw[show(bP 1 (n+1)).map (go [])=bP 1 (n+1)from wa n]⟩ (fun i σ H' _ ⟨_,_,_,s3,_⟩=>aC.of (s3 _ _ hl0)) ?_ ?_⟩
  .rintro i y σ H' hi ⟨l,v3,rfl,s3,hl⟩
   obtain⟨te,a,b,rfl,hte,hrow⟩:=hx.get hi
   have hte':=s3 _ _ hte
   refine⟨_,rfl,l,rfl,⟨_,aC.of hl⟩,BO (K:=K) (xs:=((bP 1 (n+1)).map (go (row.take i))).map V.int) (k:=0)
    (fun j ys σ' H''=>ys=((((bP 1 (n+1)).map (go (row.take i))).take j).map fun x=>V.int (bK x (a,b)))/\(∃v,σ'=[v,some (.ref te)])/\H''=H') ?_ ⟨rfl,⟨none,rfl⟩,rfl⟩
    (fun j ys σ' H'' _ p=>by rw[p.2.2];exact aC.of hl) (fun j ys σ' H'' p=>by rw[p.1,NY,N5];lia) ?_ ?_ ?_⟩
   .rw[NY,NY,aJ];lia
   .rintro j ys σ' H'' x hj ⟨rfl,⟨v,rfl⟩,rfl⟩
    rw[NZ]at hj
    cases hz:((bP 1 (n+1)).map (go (row.take i)))[j]? with
    |none=>rw[hz]at hj;cases hj
    |some z=>
     rw[hz]at hj
     cases hj
     refine⟨_,rfl,_,rfl,te,a,b,z,rfl,hte',?_,⟨_,rfl⟩,rfl⟩
     exact(aH (fun x=>V.int (bK x (a,b))) hz).symm
   .intro σ' H'' R R' m q
    obtain⟨v,e1,v',e2,t,a,b,x,e3,e4,q⟩:=q
    exact⟨v,e1,v',e2,t,a,b,x,e3,e4,m _ _ q⟩
   .rintro ys σ' H'' p ⟨rfl,_,rfl⟩ hp
    refine⟨p,_,rfl,s3.trans (ag.new hp),?_⟩
    rw[ae,List.take_of_length_le (by simp),N7,N7]
    congr 2
    apply List.map_congr_left
    intro x _
    show V.int (bK (go (row.take i) x) (a,b))=V.int (go (row.take (i+1)) x)
    rw[AF hrow]
  .rintro σ H' ⟨l,v3,rfl,s3,hl⟩
   rw[hx.length,List.take_length]at hl
   refine⟨_,rfl,l,_,rfl,.inl ⟨aC.of hl,fun t ht=>?_⟩⟩
   exact k t _ (s3.free ht) ae (s3.trans (ag.new ht))
end
def gJ(n:Int)(row:List (Int×Int)):Int:=((row.length:Int)-n-(cnt n (bp n row):Int)+2)/2
def Ag(C:Addr):Sp:=fun vs H Q E=>∃(n:Int)(l:Addr)(es:List V)(row:List (Int×Int)),vs=[.int n,.ref l]/\1<=n/\n<=50/\H l=some (.lst es)/\dB H es row/\Good n row/\
 (np n row<=1->∀H',ag H H'->Q (.int (gJ n row)) H')/\(¬np n row<=1->∀H',ag H H'->E (.ref C) none H')
structure NH(P:Program)(w:World)(K:W.Frag)(mg:Str->Option Value)(base:Heap)(C:Addr):Prop extends T1 mg K where
 m9:FnAt P w K mg base "parts" 2 ["n","row"] pR
 mY:FnAt P w K mg base "led" 3 ["n","row"] qQ
 cM:FnAt P w K mg base "rounds" 3 ["order"] de
 ny:mg "Apart" =some (.ref C)
 zB:iH K C
theorem p6(n:Int)(xs:List Int):(aU n xs).length=cnt n xs:=by
 unfold aU cnt
 rw[NY]
section
variable{P:Program}{w:World}{K:W.Frag}{mg:Str->Option Value}{base:Heap}{C:Addr}
theorem Dv:az ["n","row"] ["n","row"] (ar (top 35)):=⟨rfl,rfl,rfl,by decide+kernel,rfl,by decide+kernel,by decide+kernel⟩
theorem Cq{f:Addr}{fd:FuncData}(F:dh K "holes" "holes" (top 35) f fd)(T:NH P w K mg base C):aR P w K mg base (jG P w) 4 f fd ["n","row"] (Ag C):=by
 refine F.Be Dv (fun vs H Q E h=>?_) (fun cdv A outer s H vs Q E hr h=>?_)
 .obtain⟨n,l,es,row,rfl,_⟩:=h
  rfl
 .obtain⟨n,l,es,row,rfl,n0,n1,hl,hx,hg,kQ,kE⟩:=h
  refine⟨_,(ah (bt (aI qB (aq (aK (K:=K) rfl) rfl T.bV (by decide+kernel) (aa (au T.m9 (hr.mono (by first|decide|lia)) rfl (aa (pv 0) (aa (pv 1) af))) af)) ak (aL _)) (ai (cJ pH T.zB rfl rfl T.ny (aa aw af))) aE)
   (ai (aA (ax mK (ax bw (ax cx (ax cx (aq (aK (K:=K) rfl) rfl T.bV (by decide+kernel) (aa (pv 1) af)) (pv 0)) (aq (aK (K:=K) rfl) rfl T.bV (by decide+kernel) (aa (au T.cM (hr.mono (by first|decide|lia)) rfl (aa (au T.mY (hr.mono (by first|decide|lia)) rfl (aa (pv 0) (aa (pv 1) af))) af)) af))) ak) ak)))),?_⟩
  have xl:=hx.length
  refine⟨_,rfl,_,rfl,n,l,es,row,rfl,by lia,n1,hl,hx,hg,fun lp ws H1 flp hlp xp _ _ s1=>?_⟩
  have pl:=xp.length
  refine⟨lp,_,rfl,.inl (aC.of hlp),_,_,rfl,rfl,_,rfl,?_⟩
  by_cases hn:np n row<=1
  .refine lW (decide_eq_false (by rw[pl];show¬((np n row:Nat):Int)>1;lia)) ?_
   refine⟨_,rfl,l,_,rfl,.inl (aC.of (s1 _ _ hl)),_,rfl,_,_,rfl,rfl,?_⟩
   refine⟨_,rfl,_,rfl,n,l,es,row,rfl,by lia,by lia,s1 _ _ hl,hx.keep (ag.cy s1),hg,fun t H2 ft ht s2=>?_⟩
   refine⟨t,n,_,rfl,ht,Fw hg,by lia,fun l3 w3 H3 f3 h3 x3 _ _ s3=>?_⟩
   have rl:=x3.length
   refine⟨l3,_,rfl,.inl (aC.of h3),_,_,rfl,rfl,_,_,rfl,rfl,_,_,rfl,rfl,⟨by decide,by decide⟩,?_⟩
   have e:((es.length:Int)-n-(w3.length:Int)+2)/2=gJ n row:=by
    unfold gJ
    rw[xl,rl,p6]
   show Q (.int (((es.length:Int)-n-(w3.length:Int)+2)/2)) H3
   rw[e]
   exact kQ hn H3 (s1.trans (s2.trans s3))
  .refine BV (decide_eq_true (by rw[pl];show((np n row:Nat):Int)>1;lia)) ?_
   exact⟨(by show 1<=sizeLine;decide),kE hn _ s1⟩
end
section
variable{P:Program}{w:World}{K:W.Frag}{mg:Str->Option Value}{base:Heap}
theorem qo:az ["words"] ["words"] (ar (top 95)):=⟨rfl,rfl,rfl,by decide+kernel,rfl,by decide+kernel,by decide+kernel⟩
theorem Hr{f:Addr}{fd:FuncData}(F:dh K "with_commas" "with_commas" (top 95) f fd)(T:T1 mg K):aR P w K mg base hZ 1 f fd ["words"] JY:=by
 refine F.ok qo (fun vs H Q E h=>?_) (fun cdv A outer s H vs Q E hr h=>?_)
 .obtain⟨l,ws,rfl,_⟩:=h
  rfl
 .obtain⟨l,ws,rfl,hl,h1,h2,k⟩:=h
  refine⟨_,(ai (aA (j8 (aI cG (aq (aK (K:=K) rfl) rfl T.bV (by decide+kernel) (aa (pv 0) af)) ak (aL _)) aw (br (K:=K) rfl PySem.F.plainAttrs_str PySem.F.slot_str_join PySem.F.type_str_join (fL (K:=K) rfl) aw (aa (pv 0) af))))),?_⟩
  have js:JoinOk (NX ",") ws=true:=by
   have:=bF (z:=NX ",") (ts:=ws) (B:=990) (by decide+kernel) h2 (by decide) (by lia)
   exact this
  refine⟨_,rfl,l,_,rfl,.inl (aC.of hl),rfl,_,rfl,?_⟩
  dsimp only
  by_cases c:ws=[]
  .subst c
   rw[if_pos (by rfl)]
   unfold ot at k
   rw[if_pos rfl]at k
   exact k
  .rw[if_neg (by
    simp only[NY,decide_eq_true_eq,V.int.injEq]
    intro z
    exact c (List.length_eq_zero_iff.mp (by lia)))]
   unfold ot at k
   rw[if_neg c]at k
   exact⟨rfl,_,rfl,_,l,ws,rfl,rfl,aC.of hl,js,k⟩
end
def nF(l:List Int):List Int:=l.mergeSort fun a b=>decide (b<=a)
theorem zP{ns l:List Int}(p:ns.Perm l)(s:ns.Pairwise (·≥·)):ns=nF l:=by
 have s2:(nF l).Pairwise (·≥·):=by
  have:=List.pairwise_mergeSort (le:=fun a b:Int=>decide (b<=a)) (fun a b c h1 h2=>by simp only[decide_eq_true_eq]at*;lia) (fun a b=>by simp only[Bool.or_eq_true,decide_eq_true_eq];lia) l
  exact this.imp fun h=>by simpa using h
 exact List.Perm.eq_of_pairwise (fun a b _ _ h1 h2=>Int.le_antisymm h2 h1) s s2 (p.trans (List.mergeSort_perm l _).symm)
def fP(n:Int)(R:List (Int×Int)):Str:=Str.join (NX ",") ((nF ((aU n (bp n R)).map fun r=>(r.length:Int))).map aF)
open Classical in
noncomputable def bY(CA:Addr)(word:Str)(n:Int)(xs:List Wd):Option (Except Addr Str):=
 match xs with
 |[.row R]=>if Good n R/\R.length<=60 then(if word=NX "order"then some (.ok (jL (aU n (bp n R))))else if word=NX "kind"then some (.ok (fP n R))
   else if word=NX "least"then some (.ok (if(R.length:Int)=n-cnt n (bp n R)then NX "yes"else NX "no"))
   else if word=NX "parts"then some (.ok (ES (bL n R)))
   else if word=NX "holes"then some (if np n R<=1 then .ok (aF (gJ n R))else .error CA)else none)else none
 |_=>none
theorem AR{CA:Addr}{word:Str}{n:Int}{xs:List Wd}{r:Except Addr Str}(h:bY CA word n xs=some r):∃R,xs=[.row R]/\Good n R/\R.length<=60:=by
 unfold bY at h
 split at h
 .rename_i R
  split at h
  .rename_i c
   exact⟨R,rfl,c⟩
  .cases h
 .cases h
theorem j6.row {L:dX}{CA:Addr}(hL:L.ans=bY CA){word:Str}{vs:List V}{H:Hp}{Q:VK}{E:XK}(h:j6 L word vs H Q E):∃(n:Int)(l b:Addr)(es:List V)(R:List (Int×Int))(r:Except Addr Str),vs=[.int n,.ref l]/\1<=n/\n<=12/\H l=some (.lst [.ref b])/\H b=some (.lst es)/\dB H es R/\Good n R/\R.length<=60/\bY CA word n [.row R]=some r/\
  (∀s,r= .ok s->∀H',ag H H'->Q (.str s) H')/\∀c,r= .error c->∀bb H',ag H H'->E (.ref c) bb H':=by
 obtain⟨n,l,us,xs,rfl,n1,n2,hl,hw,h⟩:=h
 rw[hL]at h
 have hx:∃r,bY CA word n xs=some r:=by
  rcases h with⟨s,e,_⟩|⟨c,e,_⟩
  .exact⟨_,e⟩
  .exact⟨_,e⟩
 obtain⟨r,er⟩:=hx
 obtain⟨R,rfl,g,l60⟩:=AR er
 cases hw with
 |cons w1 hw=>cases hw with
  |nil=>
   obtain⟨b,es,rfl,hb,xe⟩:=w1
   refine⟨n,l,b,es,R,r,rfl,n1,n2,hl,hb,xe,g,l60,er,fun s z=>?_,fun c z=>?_⟩
   .rcases h with⟨s',e,k⟩|⟨c,e,k⟩
    .rw[er,z]at e;cases e;exact k
    .rw[er,z]at e;cases e
   .rcases h with⟨s',e,k⟩|⟨c,e,k⟩
    .rw[er,z]at e;cases e
    .rw[er,z]at e;cases e;exact k
theorem oJ{i:Int}(h:i.natAbs<2^1000):i.natAbs.log2<1920:=by
 by_cases z:i.natAbs=0
 .rw[z];decide
 .have:=(Nat.log2_lt z).mpr h;lia
theorem zV{n:Int}(n0:0<=n)(n2:n<=12)(R:List (Int×Int)):(bL n R).length<=12/\∀r∈bL n R,r.length<=12/\∀x∈r,1<=x/\x<=12:=by
 constructor
 .unfold bL
  rw[NY]
  have:=mT (f:=aM R) (n:=n) n.toNat (by lia)
  rw[List.take_of_length_le (by rw[aJ];lia)]at this
  lia
 .intro r m
  unfold bL at m
  obtain⟨p,hp,rfl⟩:=List.mem_map.mp m
  rw[((md (aM R) (bP 1 (n+1))).mem p hp).1]
  refine⟨?_,fun x hx=>?_⟩
  .have:=List.length_filter_le (fun y=>decide (aM R y=p.1)) (bP 1 (n+1))
   rw[aJ]at this
   lia
  .have:=Ek.mp (List.mem_filter.mp hx).1
   lia
structure Bq(P:Program)(w:World)(K:W.Frag)(mg:Str->Option Value)(base:Heap)(CA:Addr):Prop extends T1 mg K where
 cI:mg "str" =none
 mj:DZ P w K mg base "one_word" 1 ["text"] LZ
 mG:FnAt P w K mg base "show_order" 4 ["order"] uf
 mY:FnAt P w K mg base "led" 3 ["n","row"] qQ
 Cm:FnAt P w K mg base "kind" 4 ["order"] DH
 c9:FnAt P w K mg base "with_commas" 1 ["words"] JY
 qX:FnAt P w K mg base "is_least" 4 ["n","row"] Ah
 jZ:FnAt P w K mg base "show_sharing" 2 ["sharing"] vX
 m9:FnAt P w K mg base "parts" 2 ["n","row"] pR
 zQ:iE P w K mg base "holes" 4 ["n","row"] (Ag CA)
section
variable{P:Program}{w:World}{K:W.Frag}{mg:Str->Option Value}{base:Heap}{CA:Addr}{L:dX}
theorem oB:az ["n","given"] ["n","given"] (ar (top 99)):=⟨rfl,rfl,rfl,by decide+kernel,rfl,by decide+kernel,by decide+kernel⟩
theorem Js{f:Addr}{fd:FuncData}(F:dh K "show_order_of" "show_order_of" (top 99) f fd)(hL:L.ans=bY CA)(T:Bq P w K mg base CA):iB P w K mg base (jG P w) 7 f fd ["n","given"] (j6 L "order"):=by
 refine F.Mz oB (fun vs H Q E h=>?_) (fun cdv A outer s H vs Q E hr h=>?_)
 .obtain⟨n,l,us,xs,rfl,_⟩:=h
  rfl
 .obtain⟨n,l,b,es,R,r,rfl,n1,n2,hl,hb,xe,g,l60,er,kY,kN⟩:=h.row hL
  refine⟨_,(mH (qu (pZ T.mj j7 (hr.mono (by decide)) rfl (nv (QE.of (au T.mG (hr.mono (by first|decide|lia)) rfl (aa (au T.mY (hr.mono (by first|decide|lia)) rfl (aa (pv 0) (aa (aQ (av (K:=K) rfl) (pv 1) ak (fun _ _=>rfl)) af))) af))) uA)))),?_⟩
  unfold bY at er
  simp only[g,l60,and_self,if_true]at er
  cases er
  have o:=nh g
  refine⟨_,rfl,_,rfl,l,_,0,_,rfl,rfl,aC.of hl,aX (j:=0) rfl,n,b,es,R,rfl,by lia,by lia,hb,xe,g,fun t H1 ft ht s1=>?_⟩
  refine⟨t,n,_,rfl,ht,o,n2,fun H2 s2=>?_⟩
  have re:=fun r hr=>rK (r:=r) (n:=n) (xs:=bp n R) o (by omega)
  have q:=qA o n1 n2
  have b0:∀r∈aU n (bp n R),∀x∈r,0<=x:=fun r hr x hx=>by have:=q.2.2.1 r hr x hx;lia
  have ll:=C1 (rs:=aU n (bp n R)) fun r hr=>⟨by have:=jQ hr;lia,fun x hx=>by have:=q.2.2.1 r hr x hx;lia⟩
  have l2:=ic (rs:=aU n (bp n R)) fun r hr=>(q.2.1 r hr).1
  refine⟨_,rfl,by lia,?_⟩
  rw[Gx b0]
  exact kY _ rfl _ (s1.trans s2)
theorem uU:az ["n","given"] ["n","given"] (ar (top 100)):=⟨rfl,rfl,rfl,by decide+kernel,rfl,by decide+kernel,by decide+kernel⟩
theorem KC{f:Addr}{fd:FuncData}(F:dh K "show_kind" "show_kind" (top 100) f fd)(hL:L.ans=bY CA)(T:Bq P w K mg base CA):aR P w K mg base (jG P w) 7 f fd ["n","given"] (j6 L "kind"):=by
 refine F.Be uU (fun vs H Q E h=>?_) (fun cdv A outer s H vs Q E hr h=>?_)
 .obtain⟨n,l,us,xs,rfl,_⟩:=h
  rfl
 .obtain⟨n,l,b,es,R,r,rfl,n1,n2,hl,hb,xe,g,l60,er,kY,kN⟩:=h.row hL
  refine⟨_,(ai (aA (au T.c9 (hr.mono (by first|decide|lia)) rfl (aa (bQ (N:=(["length"]:List Str)) (ix:=([none]:List (Option Nat))) (bc rfl rfl) rfl (aT (K:=K) rfl (au T.Cm (hr.mono (by first|decide|lia)) rfl (aa (au T.mY (hr.mono (by first|decide|lia)) rfl (aa (pv 0) (aa (aQ (av (K:=K) rfl) (pv 1) ak (fun _ _=>rfl)) af))) af))) (fun _ _ _ _=>(ay (i:=0) (show List.Nodup (["length"]:List Str)from by decide+kernel) rfl (Or.inl rfl))) (fun _ _ _ _=>bg) (fun _ _ _ _=>(aO bH rfl T.cI (by decide+kernel) (aa (pv 0) af)))) af)))),?_⟩
  unfold bY at er
  simp only[g,l60,and_self,if_true]at er
  rw[if_neg (by decide)]at er
  cases er
  have o:=nh g
  refine⟨_,rfl,_,rfl,l,_,0,_,rfl,rfl,aC.of hl,aX (j:=0) rfl,n,b,es,R,rfl,by lia,by lia,hb,xe,g,fun t H1 ft ht s1=>?_⟩
  refine⟨t,n,_,rfl,ht,o,by lia,fun lk ns H2 fk hk pm pw s2=>?_⟩
  have rl:=pQ (n:=n) (xs:=bp n R) (by lia)
  have pl:=pm.length_eq
  rw[NY]at pl
  have nb:∀i∈ns,0<=i/\i<1000:=fun i hi=>by
   obtain⟨r,hr',e⟩:=List.mem_map.mp (pm.mem_iff.mp hi)
   have:=rK (r:=r) (n:=n) (xs:=bp n R) o (by lia) hr'
   have:=jQ hr'
   have:=(qA o n1 n2).2.2.2
   lia
  have nsf:=zP pm pw
  have ne:ns≠[]:=fun z=>by
   have q:=(qA o n1 n2).1
   rw[z]at pl
   exact q (List.length_eq_zero_iff.mp (by simpa using pl.symm))
  refine⟨lk,rfl,⟨_,aC.of hk⟩,eF (K:=K) (a:=lk) (xs:=ns.map V.int) (k:=0) (fun i ys σ' H'=>ys=((ns.take i).map aF).map V.str/\(∃v0,σ'=[v0])/\H'=H2) (by rw[NY];lia) ⟨rfl,⟨none,rfl⟩,rfl⟩ (fun i ys σ' H' _ q=>by rw[q.2.2];exact aC.of hk) (fun i ys σ' H' q=>by rw[q.1,NY,NY,N5];lia) ?_ ?_⟩
  .rintro i ys σ' H' x R' hx ⟨rfl,⟨v0,rfl⟩,rfl⟩ done
   obtain⟨z,rfl,hz⟩:=iU hx
   have zb:=nb z (N9 hz)
   refine⟨_,rfl,z,rfl,oJ (Nat.lt_of_lt_of_le (by lia:z.natAbs<1000) (by decide)),done _ _ _ ⟨?_,⟨_,rfl⟩,rfl⟩⟩
   rw[aH aF hz,N2]
   rfl
  .rintro ys σ' H' q ⟨rfl,⟨v0,rfl⟩,rfl⟩ fq
   rw[List.take_of_length_le (by rw[NY];exact Nat.le_refl _)]
   refine⟨q,ns.map aF,rfl,ae,by rw[NY];lia,fun w hw=>?_,?_⟩
   .obtain⟨z,hz,rfl⟩:=List.mem_map.mp hw
    have zb:=nb z hz
    have:=dv (i:=z) (by lia) (by lia)
    lia
   .unfold ot
    rw[if_neg (by intro z;exact ne (List.map_eq_nil_iff.mp z))]
    refine kY _ ?_ _ (s1.trans (s2.trans (ag.new fq)))
    unfold fP
    rw[←nsf]
theorem sU:az ["n","given"] ["n","given"] (ar (top 101)):=⟨rfl,rfl,rfl,by decide+kernel,rfl,by decide+kernel,by decide+kernel⟩
theorem Ks{f:Addr}{fd:FuncData}(F:dh K "show_least" "show_least" (top 101) f fd)(hL:L.ans=bY CA)(T:Bq P w K mg base CA):aR P w K mg base (jG P w) 7 f fd ["n","given"] (j6 L "least"):=by
 refine F.Be sU (fun vs H Q E h=>?_) (fun cdv A outer s H vs Q E hr h=>?_)
 .obtain⟨n,l,us,xs,rfl,_⟩:=h
  rfl
 .obtain⟨n,l,b,es,R,r,rfl,n1,n2,hl,hb,xe,g,l60,er,kY,kN⟩:=h.row hL
  refine⟨_,(ai (aA (j8 (cC (au T.qX (hr.mono (by first|decide|lia)) rfl (aa (pv 0) (aa (aQ (av (K:=K) rfl) (pv 1) ak (fun _ _=>rfl)) af)))) aw aw))),?_⟩
  unfold bY at er
  simp only[g,l60,and_self,if_true]at er
  rw[if_neg (by decide),if_neg (by decide)]at er
  cases er
  refine⟨_,rfl,_,rfl,l,_,0,_,rfl,rfl,aC.of hl,aX (j:=0) rfl,n,b,es,R,rfl,by lia,by lia,hb,xe,g,fun H1 s1=>⟨_,rfl,?_⟩⟩
  dsimp only
  by_cases c:(R.length:Int)=n-cnt n (bp n R)
  .rw[if_pos (by simpa using c)]
   exact kY _ (by rw[if_pos c]) _ s1
  .rw[if_neg (by simpa using c)]
   exact kY _ (by rw[if_neg c]) _ s1
theorem sQ:az ["n","given"] ["n","given"] (ar (top 102)):=⟨rfl,rfl,rfl,by decide+kernel,rfl,by decide+kernel,by decide+kernel⟩
theorem Kv{f:Addr}{fd:FuncData}(F:dh K "show_parts" "show_parts" (top 102) f fd)(hL:L.ans=bY CA)(T:Bq P w K mg base CA):iB P w K mg base (jG P w) 7 f fd ["n","given"] (j6 L "parts"):=by
 refine F.Mz sQ (fun vs H Q E h=>?_) (fun cdv A outer s H vs Q E hr h=>?_)
 .obtain⟨n,l,us,xs,rfl,_⟩:=h
  rfl
 .obtain⟨n,l,b,es,R,r,rfl,n1,n2,hl,hb,xe,g,l60,er,kY,kN⟩:=h.row hL
  refine⟨_,(mH (qu (pZ T.mj j7 (hr.mono (by decide)) rfl (nv (QE.of (au T.jZ (hr.mono (by first|decide|lia)) rfl (aa (au T.m9 (hr.mono (by first|decide|lia)) rfl (aa (pv 0) (aa (aQ (av (K:=K) rfl) (pv 1) ak (fun _ _=>rfl)) af))) af))) uA)))),?_⟩
  unfold bY at er
  simp only[g,l60,and_self,if_true]at er
  rw[if_neg (by decide),if_neg (by decide),if_neg (by decide)]at er
  cases er
  have p12:=zV (n:=n) (by lia) n2 R
  have b0:∀r∈bL n R,∀x∈r,0<=x:=fun r hr x hx=>by have:=(p12.2 r hr).2 x hx;lia
  have b1:∀r∈bL n R,r.length<=12/\∀x∈r,0<=x/\x<10^9:=fun r hr=>⟨(p12.2 r hr).1,fun x hx=>by have:=(p12.2 r hr).2 x hx;lia⟩
  refine⟨_,rfl,_,rfl,l,_,0,_,rfl,rfl,aC.of hl,aX (j:=0) rfl,n,b,es,R,rfl,by lia,by lia,hb,xe,g,fun lp ws H1 fp hp xp _ _ s1=>?_⟩
  refine⟨lp,ws,_,rfl,hp,xp,p12.1,b1,fun H2 s2=>?_⟩
  have:=Fe p12.1 b1
  refine⟨_,rfl,by lia,?_⟩
  rw[Jh b0]
  exact kY _ rfl _ (s1.trans s2)
theorem su:az ["n","given"] ["n","given"] (ar (top 103)):=⟨rfl,rfl,rfl,by decide+kernel,rfl,by decide+kernel,by decide+kernel⟩
theorem K6{f:Addr}{fd:FuncData}(F:dh K "show_holes" "show_holes" (top 103) f fd)(hL:L.ans=bY CA)(T:Bq P w K mg base CA):aR P w K mg base (jG P w) 7 f fd ["n","given"] (j6 L "holes"):=by
 refine F.Be su (fun vs H Q E h=>?_) (fun cdv A outer s H vs Q E hr h=>?_)
 .obtain⟨n,l,us,xs,rfl,_⟩:=h
  rfl
 .obtain⟨n,l,b,es,R,r,rfl,n1,n2,hl,hb,xe,g,l60,er,kY,kN⟩:=h.row hL
  refine⟨_,(ai (aA (aO bH rfl T.cI (by decide+kernel) (aa (dN T.zQ j7 (hr.mono (by decide)) rfl (aa (pv 0) (aa (aQ (av (K:=K) rfl) (pv 1) ak (fun _ _=>rfl)) af))) af)))),?_⟩
  unfold bY at er
  simp only[g,l60,and_self,if_true]at er
  rw[if_neg (by decide),if_neg (by decide),if_neg (by decide),if_neg (by decide)]at er
  refine⟨_,rfl,_,rfl,l,_,0,_,rfl,rfl,aC.of hl,aX (j:=0) rfl,n,b,es,R,rfl,n1,by lia,hb,xe,g,fun c H1 s1=>?_,fun c H1 s1=>?_⟩
  .rw[if_pos c]at er
   cases er
   have o:=nh g
   have q:=qA o n1 n2
   have hc:(cnt n (bp n R):Int)<=50:=by
    have:=pQ (n:=n) (xs:=bp n R) (by lia)
    rw[p6]at this
    lia
   refine⟨_,rfl,oJ (Nat.lt_of_lt_of_le (by unfold gJ;lia:(gJ n R).natAbs<1000) (by decide)),kY _ rfl _ s1⟩
  .rw[if_neg c]at er
   cases er
   exact kN _ rfl none H1 s1
end
noncomputable def Gw(n:Int)(R:List (Int×Int)):List Str:=[jL (aU n (bp n R)),fP n R,(if(R.length:Int)=n-cnt n (bp n R)then NX "yes"else NX "no"),ES (bL n R),(if np n R<=1 then aF (gJ n R)else NX "!Apart")]
def HU:Sp:=fun vs H Q _=>∃(n:Int)(l:Addr)(es:List V)(R:List (Int×Int)),vs=[.int n,.ref l]/\1<=n/\n<=12/\H l=some (.lst es)/\dB H es R/\Good n R/\R.length<=60/\∀l' H',H l'=none->H' l'=some (.lst ((Gw n R).map V.str))->ag H H'->Q (.ref l') H'
theorem Jt{n:Int}(n1:1<=n)(row:List (Int×Int)):1<=np n row:=by
 rw[Ge]
 exact List.length_pos_of_mem (a:=aM row 1) (Gj.mpr ⟨1,cg.mpr ⟨by decide,by lia⟩,rfl⟩)
structure KD(P:Program)(w:World)(K:W.Frag)(mg:Str->Option Value)(base:Heap):Prop extends T1 mg K where
 cI:mg "str" =none
 bC:mg "sorted" =none
 qV:FnAt P w K mg base "_law_led" 1 ["_law_n","_law_row_here"] qQ
 c0:FnAt P w K mg base "_law_rounds" 1 ["_law_order"] de
 nq:FnAt P w K mg base "_law_parts" 3 ["_law_n","_law_row_here"] HQ
 ij:FnAt P w K mg base "_law_order_word" 2 ["_law_order"] He
section
variable{P:Program}{w:World}{K:W.Frag}{mg:Str->Option Value}{base:Heap}
theorem bX:az ["_law_n","_law_row_here","_law_order","_law_rings","_law_pieces","_law_lengths","_law_due"] ["_law_n","_law_row_here"] (ar (top 125)):=⟨rfl,rfl,rfl,by decide+kernel,rfl,by decide+kernel,by decide+kernel⟩
theorem Jf{f:Addr}{fd:FuncData}(F:dh K "_law_answers" "_law_answers" (top 125) f fd)(T:KD P w K mg base):aR P w K mg base hZ 5 f fd ["_law_n","_law_row_here"] HU:=by
 refine F.ok bX (fun vs H Q E h=>?_) (fun cdv A outer s H vs Q E hr h=>?_)
 .obtain⟨n,l,es,R,rfl,_⟩:=h
  rfl
 .obtain⟨n,l,es,R,rfl,n1,n2,hl,hx,hg,l60,k⟩:=h
  refine⟨_,(ah (aB (i:=2) bX.nd rfl (Or.inl rfl) (au T.qV (hr.mono (by first|decide|lia)) rfl (aa (pv 0) (aa (pv 1) af))))
   (ah (aB (i:=3) bX.nd rfl (Or.inl rfl) (au T.c0 (hr.mono (by first|decide|lia)) rfl (aa (pv 2) af)))
   (ah (aB (i:=4) bX.nd rfl (Or.inl rfl) (au T.nq (hr.mono (by first|decide|lia)) rfl (aa (pv 0) (aa (pv 1) af))))
   (ah (aB (i:=5) bX.nd rfl (Or.inl rfl) (E3 (aq (h7 (K:=K) rfl) rfl T.bC (by decide+kernel) (aa (bQ (N:=(["_law_some"]:List Str)) (ix:=([none]:List (Option Nat))) (bc rfl rfl) rfl (aT (K:=K) rfl (pv 3)) (fun _ _ _ _=>(ay (i:=0) (show List.Nodup (["_law_some"]:List Str)from by decide+kernel) rfl (Or.inl rfl))) (fun _ _ _ _=>bg) (fun _ _ _ _=>(aq (aK (K:=K) rfl) rfl T.bV (by decide+kernel) (aa (pv 0) af)))) af))))
   (ah (aB (i:=6) bX.nd rfl (Or.inl rfl) (aZ (aa (au T.ij (hr.mono (by first|decide|lia)) rfl (aa (pv 2) af)) (aa (br (K:=K) rfl PySem.F.plainAttrs_str PySem.F.slot_str_join PySem.F.type_str_join (fL (K:=K) rfl) aw (aa (bQ (N:=(["_law_length"]:List Str)) (ix:=([none]:List (Option Nat))) (bc rfl rfl) rfl (aT (K:=K) rfl (pv 5)) (fun _ _ _ _=>(ay (i:=0) (show List.Nodup (["_law_length"]:List Str)from by decide+kernel) rfl (Or.inl rfl))) (fun _ _ _ _=>bg) (fun _ _ _ _=>(aO bH rfl T.cI (by decide+kernel) (aa (pv 0) af)))) af)) af))))
   (ah (cB (br (K:=K) rfl PySem.F.plainAttrs_list PySem.F.slot_list_append PySem.F.type_list_append cz (pv 6) (aa (aQ (av (K:=K) rfl) (aZ (aa aw (aa aw af))) (aO kR rfl T.qL (by decide+kernel) (aa (fH cG (aq (aK (K:=K) rfl) rfl T.bV (by decide+kernel) (aa (pv 1) af)) (ax cx (pv 0) (aq (aK (K:=K) rfl) rfl T.bV (by decide+kernel) (aa (pv 3) af))) (aL _)) af)) (fun _ _=>rfl)) af)))
   (ah (cB (br (K:=K) rfl PySem.F.plainAttrs_list PySem.F.slot_list_append PySem.F.type_list_append cz (pv 6) (aa (br (K:=K) rfl PySem.F.plainAttrs_str PySem.F.slot_str_join PySem.F.type_str_join (fL (K:=K) rfl) aw (aa (bQ (N:=(["_law_part"]:List Str)) (ix:=([none]:List (Option Nat))) (bc rfl rfl) rfl (aT (K:=K) rfl (pv 4)) (fun _ _ _ _=>(ay (i:=0) (show List.Nodup (["_law_part"]:List Str)from by decide+kernel) rfl (Or.inl rfl))) (fun _ _ _ _=>bg) (fun _ _ _ _=>(br (K:=K) rfl PySem.F.plainAttrs_str PySem.F.slot_str_join PySem.F.type_str_join (fL (K:=K) rfl) aw (aa (bQ (N:=(["_law_thing"]:List Str)) (ix:=([none]:List (Option Nat))) (bc rfl rfl) rfl (aT (K:=K) rfl (pv 0)) (fun _ _ _ _=>(ay (i:=0) (show List.Nodup (["_law_thing"]:List Str)from by decide+kernel) rfl (Or.inl rfl))) (fun _ _ _ _=>bg) (fun _ _ _ _=>(aO bH rfl T.cI (by decide+kernel) (aa (pv 0) af)))) af)))) af)) af)))
   (ah (cB (br (K:=K) rfl PySem.F.plainAttrs_list PySem.F.slot_list_append PySem.F.type_list_append cz (pv 6) (aa (aQ (av (K:=K) rfl) (aZ (aa aw (aa (aO bH rfl T.cI (by decide+kernel) (aa (ax mK (ax bw (ax cx (ax cx (aq (aK (K:=K) rfl) rfl T.bV (by decide+kernel) (aa (pv 1) af)) (pv 0)) (aq (aK (K:=K) rfl) rfl T.bV (by decide+kernel) (aa (pv 3) af))) ak) ak) af)) af))) (aO kR rfl T.qL (by decide+kernel) (aa (fH cG (aq (aK (K:=K) rfl) rfl T.bV (by decide+kernel) (aa (pv 4) af)) ak (aL _)) af)) (fun _ _=>rfl)) af)))
   (ai (aA (pv 6))))))))))),?_⟩
  have big:(10000000:Nat)<=sizeLine:=by decide
  have o:=nh hg
  have rl:=pQ (n:=n) (xs:=bp n R) (by lia)
  have re:=fun r=>rK (r:=r) (n:=n) (xs:=bp n R) o (by lia)
  have q:=kS o
  have rl2:=ic (rs:=aU n (bp n R)) fun r hr=>(q.2.1 r hr).1
  have p12:=zV (n:=n) (by lia) n2 R
  refine⟨_,rfl,_,rfl,n,l,es,R,rfl,by lia,by lia,hl,hx,hg,fun t H1 ft ht s1=>?_⟩
  refine⟨_,rfl,t,n,_,rfl,ht,o,by lia,fun lr ws H2 flr hlr xr _ _ s2=>?_⟩
  have s12:=s1.trans s2
  refine⟨_,rfl,_,rfl,n,l,es,R,rfl,by lia,by lia,s12 _ _ hl,hx.keep (ag.cy s12),hg,fun lp wp H3 flp hlp xp s3=>?_⟩
  have wl:=xr.length
  have wpl:=xp.length
  have hlr3:=s3 _ _ hlr
  have xr3:=xr.keep s3
  have ht3:=s3 _ _ (s2 _ _ ht)
  have s13:=s12.trans s3
  clear flr flp ft
  refine⟨_,rfl,lr,rfl,⟨_,aC.of hlr3⟩,eF (K:=K) (a:=lr) (xs:=ws) (k:=0) (fun i ys σ' H'=>ys=((aU n (bp n R)).take i).map (fun r=>V.int (r.length:Int))/\(∃v,σ'=[v])/\H'=H3) (by lia) ⟨rfl,⟨none,rfl⟩,rfl⟩ (fun i ys σ' H' _ q=>by rw[q.2.2];exact aC.of hlr3) (fun i ys σ' H' q=>by rw[q.1,NY,N5];lia) ?_ ?_⟩
  .rintro i ys σ' H' x R' hx' ⟨rfl,⟨v,rfl⟩,rfl⟩ done
   obtain⟨a,ns,rfl,ha,hns⟩:=xr3.get hx'
   refine⟨_,rfl,a,_,rfl,.inl (aC.of ha),done _ _ _ ⟨?_,⟨_,rfl⟩,rfl⟩⟩
   rw[aH (fun r=>V.int ((r:List Int).length:Int)) hns,NY]
  rintro ys σ' H' l4 ⟨rfl,⟨v,rfl⟩,e0⟩ f4
  have e0:=e0.symm
  subst e0
  rw[List.take_of_length_le (by lia)]
  have s4:=ag.new (o:= .lst ((aU n (bp n R)).map (fun r=>V.int (r.length:Int)))) f4
  refine⟨l4,(aU n (bp n R)).map (fun r=>(r.length:Int)),rfl,aC.of (by rw[ae,N7];rfl),by rw[NY];lia,fun l5 ns f5 pm pw=>?_⟩
  have pl:=pm.length_eq
  rw[NY]at pl
  have nsf:ns.reverse=nF ((aU n (bp n R)).map fun r=>(r.length:Int)):=zP ((List.reverse_perm ns).trans pm) (List.pairwise_reverse.mpr pw)
  refine⟨l5,ns.map V.int,rfl,aC.of ae,fun l6 f6=>?_⟩
  have s6:=s4.trans ((ag.new (o:= .lst (ns.map V.int)) f5).trans (ag.new (o:= .lst (ns.map V.int).reverse) f6))
  have h6:upd (upd (upd H3 l4 (.lst ((aU n (bp n R)).map (fun r=>V.int (r.length:Int))))) l5 (.lst (ns.map V.int))) l6 (.lst (ns.map V.int).reverse) l6=some (.lst ((nF ((aU n (bp n R)).map fun r=>(r.length:Int))).map V.int)):=by rw[ae,←List.map_reverse,nsf]
  generalize upd (upd (upd H3 l4 (.lst ((aU n (bp n R)).map (fun r=>V.int (r.length:Int))))) l5 (.lst (ns.map V.int))) l6 (.lst (ns.map V.int).reverse)=H6 at s6 h6⊢
  have fb:∀i∈nF ((aU n (bp n R)).map fun r=>(r.length:Int)),0<=i/\i<1000:=fun i hi=>by
   rw[←nsf]at hi
   obtain⟨r,hr',e⟩:=List.mem_map.mp (pm.mem_iff.mp (List.mem_reverse.mp hi))
   have:=(q.2.1 r hr').2.1
   lia
  have fl:(nF ((aU n (bp n R)).map fun r=>(r.length:Int))).length<=12:=by rw[←nsf,List.length_reverse];lia
  clear nsf pl pm pw ns s4 f4 f5 f6
  refine⟨_,rfl,t,n,_,rfl,s6 _ _ ht3,o,n1,n2,fun H7 s7=>?_⟩
  have h67:=s7 _ _ h6
  have kT:Str.join (NX ",") ((nF ((aU n (bp n R)).map fun r=>(r.length:Int))).map aF)=fP n R:=rfl
  generalize nF ((aU n (bp n R)).map fun r=>(r.length:Int))=ks at h67 fb fl kT
  refine⟨rfl,_,rfl,l6,rfl,⟨_,aC.of h67⟩,eF (K:=K) (a:=l6) (xs:=ks.map V.int) (k:=0) (fun i ys σ' H'=>ys=((ks.take i).map aF).map V.str/\(∃v0,σ'=[v0])/\H'=H7) (by rw[NY];lia) ⟨rfl,⟨none,rfl⟩,rfl⟩ (fun i ys σ' H' _ q=>by rw[q.2.2];exact aC.of h67) (fun i ys σ' H' q=>by rw[q.1,NY,NY,N5];lia) ?_ ?_⟩
  .rintro i ys σ' H' x R' hx' ⟨rfl,⟨v0,rfl⟩,rfl⟩ done
   obtain⟨z,rfl,hz⟩:=iU hx'
   have zb:=fb z (N9 hz)
   refine⟨_,rfl,z,rfl,fi (by lia) (by lia),done _ _ _ ⟨?_,⟨_,rfl⟩,rfl⟩⟩
   rw[aH aF hz,N2]
   rfl
  rintro ys σ' H' q8 ⟨rfl,⟨v0,rfl⟩,e0⟩ f8
  have e0:=e0.symm
  subst e0
  rw[List.take_of_length_le (by rw[NY];lia)]
  have s8:=s6.trans (s7.trans (ag.new (o:= .lst ((ks.map aF).map V.str)) f8))
  have h8:upd H7 q8 (.lst ((ks.map aF).map V.str)) q8=some (.lst ((ks.map aF).map V.str)):=ae
  generalize upd H7 q8 (.lst ((ks.map aF).map V.str))=H8 at s8 h8⊢
  clear f8
  refine⟨_,q8,ks.map aF,rfl,rfl,aC.of h8,bF (B:=9) (by decide+kernel) (fun y hy=>?_) (by decide) (by rw[NY];lia),(by show 2<=sizeLine;decide),fun l7 f7=>?_⟩
  .obtain⟨z,hz,rfl⟩:=List.mem_map.mp hy
   have:=fb z hz
   exact dv (by lia) (by lia)
  rw[kT]
  clear kT
  have hl8:=(s13.trans s8) _ _ hl
  have hlr8:=s8 _ _ hlr3
  have hlp8:=s8 _ _ hlp
  have xp8:=xp.keep s8
  have sA:ag H8 (upd H8 l7 (.lst [.str (jL (aU n (bp n R))),.str (fP n R)])):=ag.new f7
  have hA:upd H8 l7 (.lst [.str (jL (aU n (bp n R))),.str (fP n R)]) l7=some (.lst [.str (jL (aU n (bp n R))),.str (fP n R)]):=ae
  generalize upd H8 l7 (.lst [.str (jL (aU n (bp n R))),.str (fP n R)])=HA at sA hA⊢
  refine⟨_,rfl,.inl ⟨rfl,_,aC.of hA⟩,(by show 2<=sizeLine;decide),fun lt jR=>?_⟩
  have sn:=ag.new (o:= .lst [V.str (NX "no"),V.str (NX "yes")]) jR
  have eqc:decide ((R.length:Int)=n-cnt n (bp n R))=decide (V.int (es.length:Int)=V.int (n-(ws.length:Int))):=by
   rw[hx.length,wl,p6,Bool.eq_iff_iff]
   simp
  refine⟨_,rfl,l,_,rfl,.inl (aC.of ((sA.trans sn) _ _ hl8)),_,rfl,_,rfl,lr,_,rfl,.inl (aC.of ((sA.trans sn) _ _ hlr8)),_,_,rfl,rfl,rfl,.inr ⟨_,rfl,lt,[V.str (NX "no"),V.str (NX "yes")],_,V.str (if(R.length:Int)=n-cnt n (bp n R)then NX "yes"else NX "no"),rfl,rfl,aC.of ae,?_,l7,_,_,rfl,rfl,sn _ _ hA,by show 2+1<=sizeLine;decide,?_⟩⟩
  .show rF [V.str (NX "no"),V.str (NX "yes")] (if decide (V.int (es.length:Int)=V.int (n-(ws.length:Int)))=true then 1 else 0)=_
   rw[←eqc]
   by_cases c:(R.length:Int)=n-cnt n (bp n R)
   .rw[if_pos c,if_pos (decide_eq_true c)]
    rfl
   .rw[if_neg c,if_neg (by rw[decide_eq_false c];decide)]
    rfl
  have sB:=ag.put (sA.trans sn) f7 (o:= .lst ([.str (jL (aU n (bp n R))),.str (fP n R)]++[V.str (if(R.length:Int)=n-cnt n (bp n R)then NX "yes"else NX "no")]))
  have hB:upd (upd HA lt (.lst [V.str (NX "no"),V.str (NX "yes")])) l7 (.lst ([.str (jL (aU n (bp n R))),.str (fP n R)]++[V.str (if(R.length:Int)=n-cnt n (bp n R)then NX "yes"else NX "no")])) l7=some (.lst ([.str (jL (aU n (bp n R))),.str (fP n R)]++[V.str (if(R.length:Int)=n-cnt n (bp n R)then NX "yes"else NX "no")])):=ae
  generalize upd (upd HA lt (.lst [V.str (NX "no"),V.str (NX "yes")])) l7 (.lst ([.str (jL (aU n (bp n R))),.str (fP n R)]++[V.str (if(R.length:Int)=n-cnt n (bp n R)then NX "yes"else NX "no")]))=HB at sB hB⊢
  clear eqc sn jR sA hA
  obtain⟨v3,hv3⟩:∃v,v=V.str (if(R.length:Int)=n-cnt n (bp n R)then NX "yes"else NX "no"):=⟨_,rfl⟩
  rw[←hv3]at hB
  have hlpB:=sB _ _ hlp8
  have xpB:=xp8.keep sB
  refine⟨_,rfl,.inl ⟨rfl,_,aC.of hB⟩,rfl,_,rfl,lp,rfl,⟨_,aC.of hlpB⟩,eF (K:=K) (a:=lp) (xs:=wp) (k:=0) (fun i ys σ' H'=>ys=(((bL n R).take i).map pV).map V.str/\(∃v0,σ'=[v0])/\ag HB H') (by lia) ⟨rfl,⟨none,rfl⟩,ag.refl _⟩ (fun i ys σ' H' _ q=>aC.of (q.2.2 _ _ hlpB)) (fun i ys σ' H' q=>by rw[q.1,NY,NY,N5];lia) ?_ ?_⟩
  .rintro i ys σ' H2 x R' hx' ⟨rfl,⟨v0,rfl⟩,s2'⟩ done
   obtain⟨b,r,rfl,hb,hr'⟩:=(xpB.keep s2').get hx'
   have g:=p12.2 r (N9 hr')
   refine⟨rfl,_,rfl,b,rfl,⟨_,aC.of hb⟩,eF (K:=K) (a:=b) (xs:=r.map V.int) (k:=0) (fun i ys σ' H'=>ys=((r.take i).map aF).map V.str/\(∃v0,σ'=[v0])/\H'=H2) (by rw[NY];lia) ⟨rfl,⟨none,rfl⟩,rfl⟩ (fun i ys σ' H' _ q=>by rw[q.2.2];exact aC.of hb) (fun i ys σ' H' q=>by rw[q.1,NY,NY,N5];lia) ?_ ?_⟩
   .rintro j zs σ2 H' x' R2 hx2 ⟨rfl,⟨v1,rfl⟩,rfl⟩ done'
    obtain⟨z,rfl,hz⟩:=iU hx2
    have zz:=g.2 z (N9 hz)
    refine⟨_,rfl,z,rfl,fi (by lia) (by lia),done' _ _ _ ⟨?_,⟨_,rfl⟩,rfl⟩⟩
    rw[aH aF hz,N2]
    rfl
   .rintro zs σ2 H' q' ⟨rfl,⟨v1,rfl⟩,e0⟩ fq
    have e0:=e0.symm
    subst e0
    rw[List.take_of_length_le (by rw[NY];lia)]
    refine⟨_,q',r.map aF,rfl,rfl,aC.of ae,bF (B:=9) (by decide+kernel) (fun y hy=>?_) (by decide) (by rw[NY];lia),done _ _ _ ⟨?_,⟨_,rfl⟩,s2'.trans (ag.new fq)⟩⟩
    .obtain⟨z,hz,rfl⟩:=List.mem_map.mp hy
     have:=g.2 z hz
     exact dv (by lia) (by lia)
    .rw[aH pV hr',N2]
     rfl
  rintro ys σ' H2 lq ⟨rfl,⟨v0,rfl⟩,s2'⟩ fq
  have pl12:=p12.1
  rw[List.take_of_length_le (by lia)]
  have sq:=s2'.trans (ag.new (o:= .lst (((bL n R).map pV).map V.str)) fq)
  refine⟨_,lq,(bL n R).map pV,rfl,rfl,aC.of ae,bF (B:=40) (by decide+kernel) (fun y hy=>?_) (by decide) (by rw[NY];lia),l7,_,_,rfl,rfl,sq _ _ hB,by show 3+1<=sizeLine;decide,?_⟩
  .obtain⟨r,hr',rfl⟩:=List.mem_map.mp hy
   have g:=p12.2 r hr'
   exact uI (fun x hx=>g.2 x hx) g.1
  have f7B:H8 l7=none:=f7
  have sC:=ag.put (sB.trans sq) f7 (o:= .lst (([.str (jL (aU n (bp n R))),.str (fP n R)]++[v3])++[V.str (ES (bL n R))]))
  have hC:upd (upd H2 lq (.lst (((bL n R).map pV).map V.str))) l7 (.lst (([.str (jL (aU n (bp n R))),.str (fP n R)]++[v3])++[V.str (ES (bL n R))])) l7=some (.lst (([.str (jL (aU n (bp n R))),.str (fP n R)]++[v3])++[V.str (ES (bL n R))])):=ae
  have e4:(V.str (Str.join (NX "/") ((bL n R).map pV)))=V.str (ES (bL n R)):=rfl
  rw[e4]
  generalize upd (upd H2 lq (.lst (((bL n R).map pV).map V.str))) l7 (.lst (([.str (jL (aU n (bp n R))),.str (fP n R)]++[v3])++[V.str (ES (bL n R))]))=HC at sC hC⊢
  clear s2' fq sq
  have hh:((es.length:Int)-n-(ws.length:Int)+2)/2=gJ n R:=by
   unfold gJ
   rw[hx.length,wl,p6]
  have hm:(gJ n R).natAbs<1000:=by
   rw[←hh]
   have:=hx.length
   lia
  refine⟨_,rfl,.inl ⟨rfl,_,aC.of hC⟩,_,rfl,l,_,rfl,.inl (aC.of (sC _ _ hl8)),_,rfl,_,_,rfl,rfl,_,rfl,lr,_,rfl,.inl (aC.of (sC _ _ hlr8)),_,_,rfl,rfl,_,_,rfl,rfl,_,_,rfl,rfl,⟨by decide,by decide⟩,_,rfl,?_,?_⟩
  .show(((es.length:Int)-n-(ws.length:Int)+2)/2).natAbs.log2<1920
   rw[hh]
   exact oJ (Nat.lt_of_lt_of_le hm (by decide))
  show(2:Nat)<=sizeLine/\_
  refine⟨by decide,fun lt jR=>?_⟩
  have eh:(V.str (NX (toString (((es.length:Int)-n-(ws.length:Int)+2)/2))))=V.str (aF (gJ n R)):=by rw[hh];rfl
  have sn:=ag.new (o:= .lst [V.str (NX "!Apart"),V.str (NX (toString (((es.length:Int)-n-(ws.length:Int)+2)/2)))]) jR
  refine⟨_,rfl,lp,_,rfl,.inl (aC.of ((sC.trans sn) _ _ hlp8)),rfl,.inr ⟨_,rfl,lt,[V.str (NX "!Apart"),V.str (NX (toString (((es.length:Int)-n-(ws.length:Int)+2)/2)))],_,V.str (if np n R<=1 then aF (gJ n R)else NX "!Apart"),rfl,rfl,aC.of ae,?_,l7,_,_,rfl,rfl,sn _ _ hC,by show 4+1<=sizeLine;decide,?_⟩⟩
  .have np1:1<=np n R:=Jt n1 R
   show rF _ (if decide (V.int (wp.length:Int)=V.int 1)=true then 1 else 0)=_
   have ew:wp.length=np n R:=wpl
   rw[eh]
   by_cases c:np n R<=1
   .rw[if_pos c,if_pos (by rw[decide_eq_true_eq];congr 1;lia)]
    rfl
   .rw[if_neg c,if_neg (by rw[decide_eq_true_eq];intro z;injection z with z;lia)]
    rfl
  have sD:=ag.put (sC.trans sn) f7 (o:= .lst ((([.str (jL (aU n (bp n R))),.str (fP n R)]++[v3])++[V.str (ES (bL n R))])++[V.str (if np n R<=1 then aF (gJ n R)else NX "!Apart")]))
  refine⟨_,rfl,k l7 _ ((s13.trans s8).free f7) ?_ ((s13.trans s8).trans sD)⟩
  rw[ae,hv3]
  rfl
end
end Sw
namespace L2
open PySem PySem.Spec PyProof.Rows PySem.W
def Mj(X:Cx)(hs:List ExceptHandler)(th:TH):Prop:=
 ∀(pins:List (Addr×Obj))(s:Shared)(σ:St)(H:Hp)(D:Ends)(e:Addr)(cls:Value)(bb:Option Addr),oK X pins σ H s e cls bb->th D σ cls e H->wpAny (model X.prog X.w) X.A (handleBy (.ref e) X.env hs) (SP X pins D) X.xe s
def M3(K:Frag)(D:Addr)(i:Nat)(ts:TS)(th:TH):TH:=fun Dn σ cls e H=>∃C b,cls= .ref C/\CK K C D b/\
 if b=true then∀bb,ts {nx:=fun σ' H'=>Dn.nx (σ'.set i none) H',rt:=Dn.rt,bk:=fun σ' H'=>Dn.bk (σ'.set i none) H',ct:=fun σ' H'=>Dn.ct (σ'.set i none) H'} (σ.set i (some (.ref e))) (upd H e (.exc e C bb))else th Dn σ cls e H
def KW(tb:(St->XK)->TS)(th:TH):TS:=fun D σ H=>tb (fun σ' cls _ H'=>∀e,H' e=none->th D σ' cls e H') D σ H
section
variable{X:Cx}{hs:List ExceptHandler}{th:TH}{ts:TS}{D:Addr}{x n:Str}{np pos:Pos}{b₀:Stmt}{suite:List Stmt}{i:Nat}
theorem FA:Mj X [] KS:=fun _ _ _ _ _ _ _ _ _ h=>h.elim
theorem A4(hN:X.N.Nodup)(hi:X.N[i]?=some n)(hk:X.env.scope.names.lookup n=some .local)(hg:Gl X x)(hm:X.mg x=some (.ref D))(hb:∀e,tT (Xh X e) (b₀::suite) ts)(hr:Mj X hs th)(hdb:(x==("__debug__" :Str))=false:=by decide):
  Mj X (.ExceptHandler (some (.Name x np)) (some n) (b₀::suite) pos::hs) (M3 X.K D i ts th):=by
 intro pins s σ H Dn e cls bb hh h
 obtain⟨C,b,rfl,m,h⟩:=h
 have I:=hh.inv
 refine wpAny_handleBy_cons (codeAny_handlers_test (kW (X:=Xh X e) (I.Nn e) hg hm ?_ hdb)) (by intro q;cases q)
 refine xm m I.kU hh.Nt ?_
 cases b with
 |false=>exact hr pins s σ H Dn e _ bb hh (by rw[if_neg Bool.false_ne_true]at h;exact h)
 |true=>
  rw[if_pos rfl]at h
  refine codeAny_handlers_suite_as (hh.lands fun h' hh'=>?_)
  refine gL (X:=X) (v:= .ref e) hh'.CL hN hi (.inl hk) rfl (fun s2 I2=>?_) (.inr hk)
  refine wpAny_mono (hb e pins s2 _ _ _ (I2.Nn e) (h bb)) (fun f s₃ z=>?_) fun _ _ z=>False.elim z
  have z:=z.Kq I.ok
  cases f with
  |next=>obtain⟨σ',H',J,q⟩:=z;exact p7 J hN hi hk fun s' J'=>⟨_,H',J',q⟩
  |brk=>obtain⟨σ',H',J,q⟩:=z;exact p7 J hN hi hk fun s' J'=>⟨_,H',J',q⟩
  |cont=>obtain⟨σ',H',J,q⟩:=z;exact p7 J hN hi hk fun s' J'=>⟨_,H',J',q⟩
  |ret u=>obtain⟨v,σ',H',J,r,q⟩:=z;exact p7 J hN hi hk fun s' J'=>⟨v,_,H',J',r,q⟩
end
section
variable{X:Cx}
theorem EY{body:List Stmt}{h₀:ExceptHandler}{hs:List ExceptHandler}{pos:Pos}{tb:(St->XK)->TS}{th:TH}(hb:∀pins Es,tT (Xt X pins Es) body (tb Es))(hh:Mj X (h₀::hs) th)
  (hst:X.stack=X.env::X.outer:=by rfl) (hfr:X.env.frame=some X.env.locals:=by rfl):PS X (.Try body (h₀::hs) [] [] pos) (KW tb th):=by
 intro pins s σ H D I h
 refine wpAny_Try_except (wpAny_mono (hb pins _ [] s σ H D I.toT h) (fun f s₁ z=>?_) fun ev s₁ z=>?_)
 .have z:=z.ofT
  cases f with
  |next=>exact wpAny_execs_nil z
  |brk=>exact z
  |cont=>exact z
  |ret u=>exact z
 .obtain⟨σ',H₁,s₁',I',e,cls,a0,B,H',bb,rfl,os,bare,F,q⟩:=z
  have ff:=I'.ok.frames
  have fl:=F.fl
  rw[hst]at ff fl
  refine tZ ff hfr fl F.lo fun h₄ held sm lo=>?_
  refine kX (s:={s₁ with heap:=h₄}) held.1 held.2.1 held.2.2.1 held.2.2.2 lo fun h₅ fl5 sm5 lo5=>?_
  have hd:oK X pins σ' H' {s₁ with heap:=h₅} e cls bb:=⟨H₁,s₁',B,a0,I',os,bare,F.move (by rw[hst];exact fl5) (sm.trans sm5) lo5⟩
  exact hh pins _ σ' H' D e cls bb hd (q e hd.free)
end
section
variable{X:Cx}{K:W.Frag}
def Gg:V->List V->Hp->VK->Prop:=fun x vs H Q=>∃(t:Addr)(bs:List Bool)(b:Bool)(j:Nat),x= .ref t/\vs=[.bl b]/\H t=some (.lst (bs.map V.bl))/\bs[j]?=some b/\(∀m,m<j->bs[m]?≠some b)/\Q (.int (j:Int)) H
theorem BF:Bm X "list.index" Gg:=by
 intro pins s σ H x vs v us Q I rx rv h
 obtain⟨l,bs,b,j,rfl,rfl,hH,hj,hno,q⟩:=h
 cases rx
 obtain⟨u,rfl,ru⟩:=rv.one
 cases(show u=Value.bool b from ru)
 obtain⟨z,its,n,r,hl,e⟩:=I.sr hH
 have eq:=iT r
 subst eq
 have jl:j<(bs.map Value.bool).length:=by
  rw[NY]
  exact(List.getElem?_eq_some_iff.mp hj).1
 have sz:(bs.map Value.bool).length<=sizeLine:=by have:=r.length;lia
 refine call_meets F.slot_list_index ⟨_,e,rfl⟩ F.entry_list_index (F.args_list_index_2 _ _) (MeetsSeq.list_index l (bs.map Value.bool).toArray n (.bool b) (fun y=>y== .bool b) (fun y hy=>?_) j (by simpa using jl) ?_ ?_ ?_) ⟨e,?_⟩
 .obtain⟨c,_,rfl⟩:=List.mem_map.mp (Array.mem_def.mp hy)
  have:((Value.bool c==Value.bool b):Bool)=(c==b):=by cases c<;>cases b<;>rfl
  rw[this]
  exact fun prog w A E s Q hq=>(SeqAt.EqAt.bool_bool (A:=A) (s:=s) c b) prog w E Q hq
 .have:sizeLine<2^63-1:=by decide
  lia
 .obtain⟨h1,h2⟩:=List.getElem?_eq_some_iff.mp hj
  simp[h2]
 .intro m hm lt
  have:=hno m lt
  have hm':m<bs.length:=by simpa using hm
  rw[N1 hm']at this
  simp
  intro z
  apply this
  generalize bs[m]=c at z⊢
  revert z
  cases c<;>cases b<;>intro z<;>first|rfl|cases z
 .exact⟨.int (j:Int),H,I.tok _,⟨_,rfl⟩,q⟩
end
end L2
namespace Sw
open PySem L2
structure mn where
 (Ex vU Apart je wb w6 Er Du zM hV iV gH tR:Addr)
structure Nr(mg:Str->Option Value)(cl:mn):Prop where
 El:mg "Unlike" =some (.ref cl.Ex)
 yw:mg "NoRounds" =some (.ref cl.vU)
 ny:mg "Apart" =some (.ref cl.Apart)
 iO:mg "NoMove" =some (.ref cl.je)
 yj:mg "NotLeast" =some (.ref cl.wb)
 y1:mg "NotGreat" =some (.ref cl.w6)
 DG:mg "NoTree" =some (.ref cl.Er)
 Dl:mg "NoCars" =some (.ref cl.Du)
 BY:mg "NoChain" =some (.ref cl.zM)
 iL:mg "NoBound" =some (.ref cl.hV)
 bf:mg "NoText" =some (.ref cl.iV)
 ki:mg "NoName" =some (.ref cl.gH)
 wK:mg "StarError" =some (.ref cl.tR)
 aG:mg "isinstance" =none
 uE:mg "ValueError" =none
def wG:List Str:=["Unlike","NoRounds","Apart","NoMove","NotLeast","NotGreat","NoTree","NoCars","NoChain","NoBound","NoText","NoName"]
structure jb(K:W.Frag)(cl:mn)(C:Addr)(i:Nat):Prop where
 ei:sJ K C
 em:CK K C cl.tR true
 ve:W.kitOne K (.ref C) (.type "ValueError")=some true
 bs:∃b1 b2 b3 b4 b5 b6 b7 b8 b9 b10 b11 b12,W.kitOne K (.ref C) (.ref cl.Ex)=some b1/\W.kitOne K (.ref C) (.ref cl.vU)=some b2/\W.kitOne K (.ref C) (.ref cl.Apart)=some b3/\
  W.kitOne K (.ref C) (.ref cl.je)=some b4/\W.kitOne K (.ref C) (.ref cl.wb)=some b5/\W.kitOne K (.ref C) (.ref cl.w6)=some b6/\W.kitOne K (.ref C) (.ref cl.Er)=some b7/\
  W.kitOne K (.ref C) (.ref cl.Du)=some b8/\W.kitOne K (.ref C) (.ref cl.zM)=some b9/\W.kitOne K (.ref C) (.ref cl.hV)=some b10/\W.kitOne K (.ref C) (.ref cl.iV)=some b11/\
  W.kitOne K (.ref C) (.ref cl.gH)=some b12/\[b1,b2,b3,b4,b5,b6,b7,b8,b9,b10,b11,b12]=(List.range 12).map fun j=>decide (j=i)
 lt:i<12
theorem fV{C:Addr}(u:Value)(r:RelV (.ref C) u):u= .ref C:=r
def JI(i:Nat):Str:=NX "!" ++wG.getD i (NX "")
theorem bW.same {C:Addr}{H H':Hp}{a d:Addr}{n:Int}{m:Kept}(h:bW C H a d n m)(s:ag H H'):bW C H' a d n m:=by
 obtain⟨dx,fs,kvs,ha,hf,hd,ne,km,ml⟩:=h
 exact⟨dx,fs,kvs,s _ _ ha,hf,s _ _ hd,ne,km.same s,ml⟩
theorem KA:∀i,i<12->((List.range 12).map fun j=>decide (j=i)).count true=1:=by decide
theorem MV:∀i,i<12->((List.range 12).map fun j=>decide (j=i))[i]?=some true/\(∀m,m<i->((List.range 12).map fun j=>decide (j=i))[m]?≠some true)/\(wG.map V.str)[i]?=some (V.str (wG.getD i (NX "")))/\(NX "!").length+(wG.getD i (NX "")).length<=sizeLine:=by
 intro i h
 refine⟨?_,fun m hm=>?_,?_,?_⟩
 .rw[NZ,List.getElem?_range h];simp
 .rw[NZ,List.getElem?_range (by lia)]
  simp only[Option.map_some,ne_eq,Option.some.injEq,decide_eq_true_eq]
  lia
 .rw[NZ,N8]
  have:i<wG.length:=h
  rw[N1 this]
  rfl
 .have q:∀j,j<12->(wG.getD j (NX "")).length<=20:=by decide+kernel
  have:=q i h
  have e:(NX "!").length=1:=by decide+kernel
  have big:(1000:Nat)<=sizeLine:=by decide
  lia
def oM(K:W.Frag)(cl:mn)(C:Addr)(L:dX):Sp:=fun vs H Q _=>∃(a d:Addr)(t:Str)(n:Int)(m:Kept)(o:Out),vs=[.ref a,.str t]/\t.length<=990/\1<=n/\n<=12/\m.length<=40/\(∀p∈m,p.1.length<=990)/\bW C H a d n m/\L.out n m (Txt.split t (NX " "))=some o/\
 match o with
 | .jR c=>∃i,jb K cl c i/\∀H',ag H H'->Q (.str (JI i)) H'
 | .ans s=>∀H',ag H H'->Q (.str s) H'
 | .Ms=>∀ks:List Str,ks.Perm (m.map (·.1))->PyProof.Rows.sortedS ks=true->∀H',ag H H'->Q (.str (ot ks)) H'
 | .put x R=>∀H',bW C H' a d n (qz m x R)->(∀b o,b≠d->H b=some o->H' b=some o)->Q (.str (NX "ok")) H'
 | .del x=>∀H',bW C H' a d n (wX m x)->(∀b o,b≠d->H b=some o->H' b=some o)->Q (.str (NX "ok")) H'
structure Hl(P:Program)(w:World)(K:W.Frag)(mg:Str->Option Value)(base:Heap)(cl:mn)(C:Addr)(L:dX):Prop extends T1 mg K,Nr mg cl where
 rE:MethAt P w K mg base (jG P w) C "say" 30 ["self","row"] (Hw C L)
section
variable{P:Program}{w:World}{K:W.Frag}{mg:Str->Option Value}{base:Heap}{cl:mn}{C:Addr}{L:dX}
theorem cA:az ["_law_desk","_law_row_here","_law_names","e","_law_told_here","_law_some"] ["_law_desk","_law_row_here"] (ar (top 126)):=⟨rfl,rfl,rfl,by decide+kernel,rfl,by decide+kernel,by decide+kernel⟩
theorem FG{f:Addr}{fd:FuncData}(F:dh K "_law_say" "_law_say" (top 126) f fd)(T:Hl P w K mg base cl C L):aR P w K mg base hZ 31 f fd ["_law_desk","_law_row_here"] (oM K cl C L):=by
 refine F.ok cA (fun vs H Q E h=>?_) (fun cdv A outer s H vs Q E hr h=>?_)
 .obtain⟨a,d,t,n,m,o,rfl,_⟩:=h
  rfl
 .obtain⟨a,d,t,n,m,o,rfl,ht,n1,n2,hm,hmw,hd,ho,k⟩:=h
  refine⟨_,(@ah _ _ _ _ _ (@aB _ _ 2 _ _ _ _ cA.nd rfl (Or.inl rfl) (@aZ _ _ _ _ (@oz _ _ [V.str (NX "Unlike"),V.str (NX "NoRounds"),V.str (NX "Apart"),V.str (NX "NoMove"),V.str (NX "NotLeast"),V.str (NX "NotGreat"),V.str (NX "NoTree"),V.str (NX "NoCars"),V.str (NX "NoChain"),V.str (NX "NoBound")] rfl)) (by rfl) (by first|exact .inl rfl|exact .inr rfl))
   (@ah _ _ _ _ _ (aB (i:=2) cA.nd rfl (Or.inl rfl) (ax gP (pv 2) (aZ (aa aw (aa aw af)))))
   (@ah _ _ _ _ _ (EY (fun _ _=>(ai (aB (i:=4) cA.nd rfl (Or.inl rfl) (AS T.rE (hr.mono (by decide)) (pv 0) (aa (pv 1) af))))) (A4 (i:=3) cA.nd rfl rfl rfl T.wK (fun _=>(@ah _ _ _ _ _ (@aB _ _ 5 _ _ _ _ cA.nd rfl (Or.inl rfl) (@aZ _ _ _ _ (@aa _ _ _ _ _ (aq (bE (K:=K) rfl) rfl T.aG (by decide+kernel) (aa (pv 3) (aa (fU rfl T.El) af))) (@aa _ _ _ _ _ (aq (bE (K:=K) rfl) rfl T.aG (by decide+kernel) (aa (pv 3) (aa (fU rfl T.yw) af))) (@aa _ _ _ _ _ (aq (bE (K:=K) rfl) rfl T.aG (by decide+kernel) (aa (pv 3) (aa (fU rfl T.ny) af))) (@aa _ _ _ _ _ (aq (bE (K:=K) rfl) rfl T.aG (by decide+kernel) (aa (pv 3) (aa (fU rfl T.iO) af))) af cR) cR) cR) cR)) (by rfl) (by first|exact .inl rfl|exact .inr rfl))
   (@ah _ _ _ _ _ (@aB _ _ 5 _ _ _ _ cA.nd rfl (Or.inl rfl) (ax gP (pv 5) (@aZ _ _ _ _ (@aa _ _ _ _ _ (aq (bE (K:=K) rfl) rfl T.aG (by decide+kernel) (aa (pv 3) (aa (fU rfl T.yj) af))) (@aa _ _ _ _ _ (aq (bE (K:=K) rfl) rfl T.aG (by decide+kernel) (aa (pv 3) (aa (fU rfl T.y1) af))) (@aa _ _ _ _ _ (aq (bE (K:=K) rfl) rfl T.aG (by decide+kernel) (aa (pv 3) (aa (fU rfl T.DG) af))) (@aa _ _ _ _ _ (aq (bE (K:=K) rfl) rfl T.aG (by decide+kernel) (aa (pv 3) (aa (fU rfl T.Dl) af))) af cR) cR) cR) cR))) (by rfl) (by first|exact .inl rfl|exact .inr rfl))
   (@ah _ _ _ _ _ (@aB _ _ 5 _ _ _ _ cA.nd rfl (Or.inl rfl) (ax gP (pv 5) (@aZ _ _ _ _ (@aa _ _ _ _ _ (aq (bE (K:=K) rfl) rfl T.aG (by decide+kernel) (aa (pv 3) (aa (fU rfl T.BY) af))) (@aa _ _ _ _ _ (aq (bE (K:=K) rfl) rfl T.aG (by decide+kernel) (aa (pv 3) (aa (fU rfl T.iL) af))) (@aa _ _ _ _ _ (aq (bE (K:=K) rfl) rfl T.aG (by decide+kernel) (aa (pv 3) (aa (fU rfl T.bf) af))) (@aa _ _ _ _ _ (aq (bE (K:=K) rfl) rfl T.aG (by decide+kernel) (aa (pv 3) (aa (fU rfl T.ki) af))) af cR) cR) cR) cR))) (by rfl) (by first|exact .inl rfl|exact .inr rfl))
   (ah (bt (PW.pt (lL (aI lG (br (K:=K) rfl PySem.F.plainAttrs_list PySem.F.slot_list_count PySem.F.type_list_count (AX (K:=K) rfl) (pv 5) (aa iK af)) ak (aL _)) (j9 (dz (cC (aq (bE (K:=K) rfl) rfl T.aG (by decide+kernel) (aa (pv 3) (aa (i4 (v:= .ty "ValueError") rfl T.uE (by decide+kernel) rfl) af)))))))) (ai (aA aw)) aE)
   (ai (aA (ax bo aw (aQ (av (K:=K) rfl) (pv 2) (br (K:=K) rfl PySem.F.plainAttrs_list PySem.F.slot_list_index PySem.F.type_list_index BF (pv 5) (aa iK af)) (fun _ _=>rfl)))))))))) FA))
   (ai (aA (pv 4)))))),?_⟩
  have one:1<=sizeLine:=by decide
  have two:2<=sizeLine:=by decide
  have four:4<=sizeLine:=by decide
  have eight:8<=sizeLine:=by decide
  have ten:10<=sizeLine:=by decide
  have twelve:12<=sizeLine:=by decide
  refine⟨ten,fun l1 f1=>⟨_,rfl,two,fun l2 f2=>⟨l1,l2,_,_,rfl,rfl,ag.new f2 _ _ ae,ae,twelve,fun l3 f3=>?_⟩⟩⟩
  have s3:=((ag.new (o:= .lst [.str (NX "Unlike"),.str (NX "NoRounds"),.str (NX "Apart"),.str (NX "NoMove"),.str (NX "NotLeast"),.str (NX "NotGreat"),.str (NX "NoTree"),.str (NX "NoCars"),.str (NX "NoChain"),.str (NX "NoBound")]) f1).trans (ag.new (o:= .lst [.str (NX "NoText"),.str (NX "NoName")]) f2)).trans (ag.new (o:= .lst ([.str (NX "Unlike"),.str (NX "NoRounds"),.str (NX "Apart"),.str (NX "NoMove"),.str (NX "NotLeast"),.str (NX "NotGreat"),.str (NX "NoTree"),.str (NX "NoCars"),.str (NX "NoChain"),.str (NX "NoBound")]++[.str (NX "NoText"),.str (NX "NoName")])) f3)
  have h3:upd (upd (upd H l1 (.lst [.str (NX "Unlike"),.str (NX "NoRounds"),.str (NX "Apart"),.str (NX "NoMove"),.str (NX "NotLeast"),.str (NX "NotGreat"),.str (NX "NoTree"),.str (NX "NoCars"),.str (NX "NoChain"),.str (NX "NoBound")])) l2 (.lst [.str (NX "NoText"),.str (NX "NoName")])) l3 (.lst ([.str (NX "Unlike"),.str (NX "NoRounds"),.str (NX "Apart"),.str (NX "NoMove"),.str (NX "NotLeast"),.str (NX "NotGreat"),.str (NX "NoTree"),.str (NX "NoCars"),.str (NX "NoChain"),.str (NX "NoBound")]++[.str (NX "NoText"),.str (NX "NoName")])) l3=some (.lst (wG.map V.str)):=ae
  generalize upd (upd (upd H l1 (.lst [.str (NX "Unlike"),.str (NX "NoRounds"),.str (NX "Apart"),.str (NX "NoMove"),.str (NX "NotLeast"),.str (NX "NotGreat"),.str (NX "NoTree"),.str (NX "NoCars"),.str (NX "NoChain"),.str (NX "NoBound")])) l2 (.lst [.str (NX "NoText"),.str (NX "NoName")])) l3 (.lst ([.str (NX "Unlike"),.str (NX "NoRounds"),.str (NX "Apart"),.str (NX "NoMove"),.str (NX "NotLeast"),.str (NX "NotGreat"),.str (NX "NoTree"),.str (NX "NoCars"),.str (NX "NoChain"),.str (NX "NoBound")]++[.str (NX "NoText"),.str (NX "NoName")]))=H3 at s3 h3⊢
  have hd3:=hd.same s3
  obtain⟨dx,fs,kvs,ha,hf,_⟩:=id hd3
  refine⟨_,rfl,a,dx,fs,rfl,ha,hf.say,_,rfl,a,d,t,n,m,o,rfl,ht,n1,n2,hm,hmw,hd3,ho,?_⟩
  cases o with
  |ans s'=>exact fun H' sm=>⟨_,rfl,k H' (s3.trans sm)⟩
  |Ms=>exact fun ks pm so H' sm=>⟨_,rfl,k ks pm so H' (s3.trans sm)⟩
  |put x R=>exact fun H' dk sm=>⟨_,rfl,k H' dk fun b o hb e=>sm b o hb (s3 _ _ e)⟩
  |del x=>exact fun H' dk sm=>⟨_,rfl,k H' dk fun b o hb e=>sm b o hb (s3 _ _ e)⟩
  |jR c=>
   obtain⟨i,al,k⟩:=k
   obtain⟨b1,b2,b3,b4,b5,b6,b7,b8,b9,b10,b11,b12,k1,k2,k3,k4,k5,k6,k7,k8,k9,k10,k11,k12,hc⟩:=al.bs
   intro bb H4 sm e he
   refine⟨c,true,rfl,al.em,sk fun bx=>?_⟩
   have s5:ag H (upd H4 e (.exc e c bx)):=s3.trans (sm.trans (ag.new he))
   have h5:upd H4 e (.exc e c bx) l3=some (.lst (wG.map V.str)):=ag.new he _ _ (sm _ _ h3)
   have he5:upd H4 e (.exc e c bx) e=some (.exc e c bx):=ae
   generalize upd H4 e (.exc e c bx)=H5 at s5 h5 he5⊢
   refine⟨_,rfl,e,c,bx,_,_,_,rfl,he5,al.ei,fV,k1,_,rfl,e,c,bx,_,_,_,rfl,he5,al.ei,fV,k2,_,rfl,e,c,bx,_,_,_,rfl,he5,al.ei,fV,k3,_,rfl,e,c,bx,_,_,_,rfl,he5,al.ei,fV,k4,four,fun m1 g1=>?_⟩
   have s6:=ag.new (o:= .lst [.bl b1,.bl b2,.bl b3,.bl b4]) g1
   have q1:=ae (H:=H5) (a:=m1) (o:= .lst [.bl b1,.bl b2,.bl b3,.bl b4])
   generalize upd H5 m1 (.lst [.bl b1,.bl b2,.bl b3,.bl b4])=H6 at s6 q1⊢
   have he6:=s6 _ _ he5
   refine⟨_,rfl,_,rfl,e,c,bx,_,_,_,rfl,he6,al.ei,fV,k5,_,rfl,e,c,bx,_,_,_,rfl,he6,al.ei,fV,k6,_,rfl,e,c,bx,_,_,_,rfl,he6,al.ei,fV,k7,_,rfl,e,c,bx,_,_,_,rfl,he6,al.ei,fV,k8,four,fun m2 g2=>?_⟩
   have s7:=s6.trans (ag.new (o:= .lst [.bl b5,.bl b6,.bl b7,.bl b8]) g2)
   have q2:=ag.new (o:= .lst [.bl b5,.bl b6,.bl b7,.bl b8]) g2 _ _ q1
   have q3:=ae (H:=H6) (a:=m2) (o:= .lst [.bl b5,.bl b6,.bl b7,.bl b8])
   generalize upd H6 m2 (.lst [.bl b5,.bl b6,.bl b7,.bl b8])=H7 at s7 q2 q3⊢
   refine⟨m1,m2,_,_,rfl,rfl,q2,q3,eight,fun m3 g3=>?_⟩
   have s8:=s7.trans (ag.new (o:= .lst ([.bl b1,.bl b2,.bl b3,.bl b4]++[.bl b5,.bl b6,.bl b7,.bl b8])) g3)
   have q4:=ae (H:=H7) (a:=m3) (o:= .lst ([.bl b1,.bl b2,.bl b3,.bl b4]++[.bl b5,.bl b6,.bl b7,.bl b8]))
   generalize upd H7 m3 (.lst ([.bl b1,.bl b2,.bl b3,.bl b4]++[.bl b5,.bl b6,.bl b7,.bl b8]))=H8 at s8 q4⊢
   have he8:=s8 _ _ he5
   refine⟨_,rfl,_,rfl,e,c,bx,_,_,_,rfl,he8,al.ei,fV,k9,_,rfl,e,c,bx,_,_,_,rfl,he8,al.ei,fV,k10,_,rfl,e,c,bx,_,_,_,rfl,he8,al.ei,fV,k11,_,rfl,e,c,bx,_,_,_,rfl,he8,al.ei,fV,k12,four,fun m4 g4=>?_⟩
   have s9:=s8.trans (ag.new (o:= .lst [.bl b9,.bl b10,.bl b11,.bl b12]) g4)
   have q5:=ag.new (o:= .lst [.bl b9,.bl b10,.bl b11,.bl b12]) g4 _ _ q4
   have q6:=ae (H:=H8) (a:=m4) (o:= .lst [.bl b9,.bl b10,.bl b11,.bl b12])
   generalize upd H8 m4 (.lst [.bl b9,.bl b10,.bl b11,.bl b12])=H9 at s9 q5 q6⊢
   refine⟨m3,m4,_,_,rfl,rfl,q5,q6,twelve,fun m5 g5=>?_⟩
   have s10:=s9.trans (ag.new (o:= .lst (([.bl b1,.bl b2,.bl b3,.bl b4]++[.bl b5,.bl b6,.bl b7,.bl b8])++[.bl b9,.bl b10,.bl b11,.bl b12])) g5)
   have q7:upd H9 m5 (.lst (([.bl b1,.bl b2,.bl b3,.bl b4]++[.bl b5,.bl b6,.bl b7,.bl b8])++[.bl b9,.bl b10,.bl b11,.bl b12])) m5=some (.lst ([b1,b2,b3,b4,b5,b6,b7,b8,b9,b10,b11,b12].map V.bl)):=ae
   generalize upd H9 m5 (.lst (([.bl b1,.bl b2,.bl b3,.bl b4]++[.bl b5,.bl b6,.bl b7,.bl b8])++[.bl b9,.bl b10,.bl b11,.bl b12]))=H10 at s10 q7⊢
   have he10:=s10 _ _ he5
   rw[hc]at q7
   have il:=al.lt
   refine⟨_,rfl,.inl ⟨rfl,_,aC.of q7⟩,m5,_,true,rfl,rfl,q7,?_⟩
   refine⟨rfl,_,rfl,fW (by rw[KA i il];decide) ?_⟩
   refine⟨_,rfl,e,c,bx,_,_,_,rfl,he10,al.ei,(fun u r=>r),al.ve,_,rfl,fW (by decide) ?_⟩
   obtain⟨at1,at2,at3,ll⟩:=MV i il
   exact⟨_,rfl,_,rfl,.inl ⟨rfl,_,aC.of q7⟩,m5,_,true,i,rfl,rfl,q7,at1,at2,l3,_,(i:Int),_,rfl,rfl,aC.of (s10 _ _ h5),aX (j:=i) at3,_,_,rfl,rfl,ll,k _ (s5.trans s10)⟩
end
noncomputable def yT(cl:mn):dX:=pC (fun d=>decide (d≠NX "order")) (bY cl.Apart) (fun w=>decide (w∈([NX "row",NX "forth",NX "back"]:List Str))) cl.iV cl.gH cl.hV cl.je
def HK(K:W.Frag)(cl:mn)(C:Addr):Sp:=fun vs H Q _=>∃(a d k:Addr)(n:Int)(m:Kept)(kvs:List (Key×V)),vs=[.ref a,.int n,.ref k]/\1<=n/\n<=12/\m.length<=40/\lF n m/\bW C H a d n m/\H k=some (.dK kvs)/\bj H kvs m/\∀H',ag H H'->Q (.bl true) H'
structure LW(P:Program)(w:World)(K:W.Frag)(mg:Str->Option Value)(base:Heap)(cl:mn)(C:Addr):Prop extends T1 mg K where
 gM:FnAt P w K mg base "_law_say" 31 ["_law_desk","_law_row_here"] (oM K cl C (yT cl))
 j0:FnAt P w K mg base "_law_answers" 5 ["_law_n","_law_row_here"] HU
 Aq:jb K cl cl.Apart 2
 vW:jb K cl cl.gH 11
def w5:List Str:=["order","kind","least","parts","holes"]
theorem D9{cl:mn}{word:Str}(hw:word∉w5)(hL:(yT cl).ans=bY cl.Apart){vs:List V}{H:Hp}{Q:VK}{E:XK}(h:j6 (yT cl) word vs H Q E):False:=by
 obtain⟨n,l,b,es,R,r,_,_,_,_,_,_,g,l60,er,_⟩:=h.row hL
 unfold bY at er
 simp only[g,l60,and_self,if_true]at er
 rw[if_neg (fun z=>hw (by rw[z];decide+kernel)),if_neg (fun z=>hw (by rw[z];decide+kernel)),if_neg (fun z=>hw (by rw[z];decide+kernel)),if_neg (fun z=>hw (by rw[z];decide+kernel)),if_neg (fun z=>hw (by rw[z];decide+kernel))]at er
 cases er
noncomputable def D5(n:Int)(m:Kept)(x:Str):List Str:=match rowOf m x with
 |none=>List.replicate 5 (NX "!NoName")
 |some R=>Gw n R
theorem D6(n:Int)(m:Kept)(x:Str):(D5 n m x).length=5:=by
 unfold D5
 split<;>rfl
theorem La:JI 11=NX "!NoName" :=by decide+kernel
theorem MB:JI 2=NX "!Apart" :=by decide+kernel
theorem ng{K:W.Frag}{cl:mn}{C:Addr}{n:Int}{m:Kept}{x wd sd:Str}(n1:1<=n)(n2:n<=12)(ml:m.length<=40)(gm:lF n m)(hx:isNm x)(a2:jb K cl cl.Apart 2)(a11:jb K cl cl.gH 11)
  (e1:xt wd=some [NX "name"]) (e2:decide (wd∈Bn)=true) (w0:32∉signs wd) (wl:wd.length<=6)
  (v0:rowOf m x=none->sd=NX "!NoName") (v1:∀R,rowOf m x=some R->bY cl.Apart wd n [.row R]=some (.ok sd)\/(bY cl.Apart wd n [.row R]=some (.error cl.Apart)/\sd=NX "!Apart")):
  ∀(H:Hp)(a d:Addr)(Q:VK)(E:XK),bW C H a d n m->(∀H',ag H H'->Q (.str sd) H')->oM K cl C (yT cl) [.ref a,.str (wd++NX " " ++x)] H Q E:=by
 intro H a d Q E hd k
 have sp:Txt.split (wd++NX " " ++x) (NX " ")=[wd,x]:=by
  rw[BL]
  refine kg (by simp) fun t ht=>?_
  rcases List.mem_cons.mp ht with rfl|ht
  .exact w0
  .rw[List.mem_singleton.mp ht];exact DQ hx
 have len:(wd++NX " " ++x).length<=990:=by
  rw[Str.length_append,Str.length_append]
  have:=hx.2.1
  have e:(NX " ").length=1:=by decide+kernel
  lia
 have oa:=FX (okd:=fun d=>decide (d≠NX "order")) (ans:=bY cl.Apart) (U:=fun w=>decide (w∈([NX "row",NX "forth",NX "back"]:List Str))) (CT:=cl.iV) (CN:=cl.gH) (CB:=cl.hV) (CM:=cl.je) (n:=n) (m:=m) (nm:=x) (word:=wd) (by decide+kernel) e1 e2 hx
 cases er:rowOf m x with
 |none=>exact⟨a,d,_,n,m,.jR cl.gH,rfl,len,n1,n2,ml,gm.names,hd,by rw[sp];exact oa.1 er,11,a11,fun H' sm=>by rw[La,←v0 er];exact k H' sm⟩
 |some R=>
  have ob:=oa.2 R er
  rcases v1 R er with z|⟨z,ez⟩
  .exact⟨a,d,_,n,m,.ans sd,rfl,len,n1,n2,ml,gm.names,hd,by rw[sp];exact ob.1 sd z,k⟩
  .exact⟨a,d,_,n,m,.jR cl.Apart,rfl,len,n1,n2,ml,gm.names,hd,by rw[sp];exact ob.2 _ z,2,a2,fun H' sm=>by rw[MB,←ez];exact k H' sm⟩
theorem Io{K:W.Frag}{cl:mn}{C:Addr}{n:Int}{m:Kept}{x:Str}(n1:1<=n)(n2:n<=12)(ml:m.length<=40)(gm:lF n m)(hx:isNm x)(a2:jb K cl cl.Apart 2)(a11:jb K cl cl.gH 11)(i:Nat)(hi:i<5):
  ∃wd sd,w5[i]?=some wd/\(D5 n m x)[i]?=some sd/\wd.length<=6/\∀(H:Hp)(a d:Addr)(Q:VK)(E:XK),bW C H a d n m->(∀H',ag H H'->Q (.str sd) H')->oM K cl C (yT cl) [.ref a,.str (wd++NX " " ++x)] H Q E:=by
 have hs:(D5 n m x)[i]?=some ((D5 n m x).getD i (NX "")):=by
  rw[N8,N1 (by rw[D6];exact hi)]
  rfl
 have v0:rowOf m x=none->(D5 n m x).getD i (NX "")=NX "!NoName" :=fun e=>by
  have:D5 n m x=List.replicate 5 (NX "!NoName"):=by unfold D5;rw[e]
  rw[this]
  have q:∀j,j<5->(List.replicate 5 (NX "!NoName")).getD j (NX "")=NX "!NoName" :=by decide+kernel
  exact q i hi
 have vD:∀R,rowOf m x=some R->D5 n m x=Gw n R:=fun R e=>by unfold D5;rw[e]
 have i5:i=0\/i=1\/i=2\/i=3\/i=4:=by lia
 rcases i5 with rfl|rfl|rfl|rfl|rfl
 .refine⟨_,_,rfl,hs,by decide+kernel,ng n1 n2 ml gm hx a2 a11 (by decide+kernel) (by decide+kernel) (by decide+kernel) (by decide+kernel) v0 fun R e=> .inl ?_⟩
  have g:=gm _ (dM e)
  rw[vD R e]
  unfold bY
  simp only[g.1,g.2.1,and_self,if_true]
  rfl
 .refine⟨_,_,rfl,hs,by decide+kernel,ng n1 n2 ml gm hx a2 a11 (by decide+kernel) (by decide+kernel) (by decide+kernel) (by decide+kernel) v0 fun R e=> .inl ?_⟩
  have g:=gm _ (dM e)
  rw[vD R e]
  unfold bY
  simp only[g.1,g.2.1,and_self,if_true]
  rw[if_neg (by decide+kernel)]
  rfl
 .refine⟨_,_,rfl,hs,by decide+kernel,ng n1 n2 ml gm hx a2 a11 (by decide+kernel) (by decide+kernel) (by decide+kernel) (by decide+kernel) v0 fun R e=> .inl ?_⟩
  have g:=gm _ (dM e)
  rw[vD R e]
  unfold bY
  simp only[g.1,g.2.1,and_self,if_true]
  rw[if_neg (by decide+kernel),if_neg (by decide+kernel)]
  rfl
 .refine⟨_,_,rfl,hs,by decide+kernel,ng n1 n2 ml gm hx a2 a11 (by decide+kernel) (by decide+kernel) (by decide+kernel) (by decide+kernel) v0 fun R e=> .inl ?_⟩
  have g:=gm _ (dM e)
  rw[vD R e]
  unfold bY
  simp only[g.1,g.2.1,and_self,if_true]
  rw[if_neg (by decide+kernel),if_neg (by decide+kernel),if_neg (by decide+kernel)]
  rfl
 .refine⟨_,_,rfl,hs,by decide+kernel,ng n1 n2 ml gm hx a2 a11 (by decide+kernel) (by decide+kernel) (by decide+kernel) (by decide+kernel) v0 fun R e=>?_⟩
  have g:=gm _ (dM e)
  have q:bY cl.Apart (NX "holes") n [.row R]=some (if np n R<=1 then .ok (aF (gJ n R))else .error cl.Apart):=by
   unfold bY
   simp only[g.1,g.2.1,and_self,if_true]
   rw[if_neg (by decide+kernel),if_neg (by decide+kernel),if_neg (by decide+kernel),if_neg (by decide+kernel)]
  have sd:(D5 n m x).getD 4 (NX "")=if np n R<=1 then aF (gJ n R)else NX "!Apart" :=by rw[vD R e];rfl
  by_cases c:np n R<=1
  .refine .inl ?_
   rw[if_pos c]at q sd
   rw[sd]
   exact q
  .refine .inr ?_
   rw[if_neg c]at q sd
   exact⟨q,sd⟩
theorem E4(n:Int)(m:Kept)(x:Str):∀s∈D5 n m x,PyData.strOk s=true:=by
 intro s hs
 unfold D5 at hs
 split at hs
 .rw[List.eq_of_mem_replicate hs];exact dZ _
 .rename_i R _
  unfold Gw at hs
  simp only[N6,List.not_mem_nil,or_false]at hs
  rcases hs with rfl|rfl|rfl|rfl|rfl
  .refine mU (dZ _) fun t ht=>?_
   obtain⟨r,_,rfl⟩:=List.mem_map.mp ht
   exact pU (pU (dZ _) (qj r)) (dZ _)
  .exact qj _
  .split<;>exact dZ _
  .refine mU (dZ _) fun t ht=>?_
   obtain⟨r,_,rfl⟩:=List.mem_map.mp ht
   exact qj r
  .split
   .exact Aa _
   .exact dZ _
section
variable{P:Program}{w:World}{K:W.Frag}{mg:Str->Option Value}{base:Heap}{cl:mn}{C:Addr}
theorem c6:az ["_law_desk","_law_n","_law_kept","_law_name","_law_due","_law_turn"] ["_law_desk","_law_n","_law_kept"] (ar (top 128)):=⟨rfl,rfl,rfl,by decide+kernel,rfl,by decide+kernel,by decide+kernel⟩
theorem IS{f:Addr}{fd:FuncData}(F:dh K "_law_right" "_law_right" (top 128) f fd)(T:LW P w K mg base cl C):aR P w K mg base hZ 32 f fd ["_law_desk","_law_n","_law_kept"] (HK K cl C):=by
 refine F.ok c6 (fun vs H Q E h=>?_) (fun cdv A outer s H vs Q E hr h=>?_)
 .obtain⟨a,d,k,n,m,kvs,rfl,_⟩:=h
  rfl
 .obtain⟨a,d,kd,n,m,kvs,rfl,n1,n2,ml,gm,hd,hk,km,k⟩:=h
  have hu:=o9 hr
  refine⟨_,(@ah _ _ _ _ _ (eu PassesOwn.never rfl (aT (K:=K) rfl (aZ (aa aw (aa aw af)))) (ay (i:=3) c6.nd rfl (Or.inr rfl)) (@ah _ _ _ _ _ (aB (i:=4) c6.nd rfl (Or.inl rfl) (ax Jm (aZ (aa aw af)) ak))
   (@ah _ _ _ _ _ (bt (rh (IY hu (pv 3) (pv 2))) (ai (aB (i:=4) c6.nd rfl (Or.inl rfl) (au T.j0 (hr.mono (by first|decide|lia)) rfl (aa (pv 1) (aa (mW hu (pv 2) (pv 3) (fun _ _=>rfl)) af))))) aE)
   (@ai _ _ _ (eu PassesOwn.never rfl (oI rfl T.cQ (aa ak af)) (ay (i:=5) c6.nd rfl (Or.inl rfl)) (@ai _ _ _ (@bt _ _ _ _ _ _ _ _ (aI (J9 hr.units) (bQ (N:=(["_law_word","_law_desk","_law_name"]:List Str)) (ix:=([none,some 0,some 3]:List (Option Nat))) (bc rfl rfl) rfl (aT (K:=K) rfl (@aZ _ _ _ _ (@oz _ _ [V.str (NX "order"),V.str (NX "kind"),V.str (NX "least"),V.str (NX "parts"),V.str (NX "holes")] rfl))) (fun _ _ _ _=>(ay (i:=0) (show List.Nodup (["_law_word","_law_desk","_law_name"]:List Str)from by decide+kernel) rfl (Or.inl rfl))) (fun _ _ _ _=>bg) (fun _ _ _ _=>(au T.gM (hr.mono (by first|decide|lia)) rfl (aa (pv 1) (aa (ax bo (ax bo (pv 0) aw) (pv 2)) af))))) (pv 4) (aL _)) (ai (aA iK)) aE)))))))
   (ai (aA iK))),?_⟩
  have big:(10000000:Nat)<=sizeLine:=by decide
  obtain⟨dx,fs,kv2,ha,hf,hkd,dne,km2,ml2⟩:=id hd
  refine⟨(by show 2<=sizeLine;decide),fun l0 f0=>?_⟩
  have s0:=ag.new (o:= .lst [V.str (NX "a"),V.str (NX "other")]) f0
  have h0:upd H l0 (.lst [V.str (NX "a"),V.str (NX "other")]) l0=some (.lst [V.str (NX "a"),V.str (NX "other")]):=ae
  generalize upd H l0 (.lst [V.str (NX "a"),V.str (NX "other")])=H0 at s0 h0⊢
  refine⟨l0,rfl,⟨_,aC.of h0⟩,kh (K:=K) (a:=l0) (xs:=[V.str (NX "a"),V.str (NX "other")]) (fun i σ H'=>(∃v3 v4 v5,σ=[some (.ref a),some (.int n),some (.ref kd),v3,v4,v5])/\ag H0 H')
   ⟨⟨_,_,_,rfl⟩,ag.refl _⟩ (fun i σ H' _ q=>aC.of (q.2 _ _ h0)) ?_ ?_⟩
  .rintro i x σ H1 hx ⟨⟨v3,v4,v5,rfl⟩,s1⟩
   obtain⟨nm,rfl,hn⟩:∃nm,x=V.str nm/\isNm nm:=by
    match i,hx with
    |0,hx=>cases hx;exact⟨_,rfl,by decide+kernel,by decide+kernel,by decide+kernel⟩
    |1,hx=>cases hx;exact⟨_,rfl,by decide+kernel,by decide+kernel,by decide+kernel⟩
   clear hx
   refine⟨(by show 1<=sizeLine;decide),fun l1 f1=>?_⟩
   have s2:=ag.new (o:= .lst [V.str (NX "!NoName")]) f1
   have h2:upd H1 l1 (.lst [V.str (NX "!NoName")]) l1=some (.lst [V.str (NX "!NoName")]):=ae
   generalize upd H1 l1 (.lst [V.str (NX "!NoName")])=H2 at s2 h2⊢
   refine⟨l1,5,_,rfl,rfl,h2,by decide,by decide,by show 1*5<=sizeLine;decide,fun l3 f3=>?_⟩
   have s3:=s2.trans (ag.new (o:= .lst (List.replicate (5:Int).toNat [V.str (NX "!NoName")]).flatten) f3)
   have h3:upd H2 l3 (.lst (List.replicate (5:Int).toNat [V.str (NX "!NoName")]).flatten) l3=some (.lst ((List.replicate 5 (NX "!NoName")).map V.str)):=ae
   generalize upd H2 l3 (.lst (List.replicate (5:Int).toNat [V.str (NX "!NoName")]).flatten)=H3 at s3 h3⊢
   have sH:ag H H3:=s0.trans (s1.trans s3)
   have hkd3:=sH _ _ hk
   have km3:=km.same sH
   refine Nl ?_
   dsimp only
   refine Ab (t:=Ed _ _ _) (fun σ' H'=>∃lD,σ'=[some (.ref a),some (.int n),some (.ref kd),some (.str nm),some (.ref lD),v5]/\ag H3 H'/\H' lD=some (.lst ((D5 n m nm).map V.str))) (fun D' hD=>?_) ?_
   .rcases km3.get nm with⟨e1,e2⟩|⟨R,v,e1,e2,e3⟩
    .have g:c8 H3 kd (kV (.inr nm)) none:=by rw[←e2];exact c8.k hkd3
     refine⟨_,rfl,_,rfl,kd,none,rfl,g,_,rfl,sF ?_⟩
     refine hD _ _ ⟨l3,rfl,ag.refl _,?_⟩
     unfold D5
     rw[e1]
     exact h3
    .have g:c8 H3 kd (kV (.inr nm)) (some v):=by rw[←e2];exact c8.k hkd3
     refine⟨_,rfl,_,rfl,kd,some v,rfl,g,_,rfl,sk ?_⟩
     obtain⟨b,es,rfl,hb,xb⟩:=e3
     have gR:=gm _ (dM e1)
     refine⟨_,rfl,_,rfl,_,rfl,kd,_,rfl,g,n,b,es,R,rfl,n1,n2,hb,xb,gR.1,gR.2.1,fun l' H' _ hl' sm=>hD _ _ ⟨l',rfl,sm,?_⟩⟩
     unfold D5
     rw[e1]
     exact hl'
   .rintro σ' H4 ⟨lD,rfl,s4,hD4⟩
    have sA:ag H H4:=sH.trans s4
    refine⟨2,rfl,by decide,by decide,cU (fun j σ H'=>(∃v5,σ=[some (.ref a),some (.int n),some (.ref kd),some (.str nm),some (.ref lD),v5])/\ag H4 H') ⟨⟨_,rfl⟩,ag.refl _⟩ ?_ ?_⟩
    .rintro j σ H5 hj ⟨⟨v5',rfl⟩,s5⟩
     refine⟨by show 5<=sizeLine;decide,fun l6 f6=>?_⟩
     have h6:upd H5 l6 (.lst [V.str (NX "order"),V.str (NX "kind"),V.str (NX "least"),V.str (NX "parts"),V.str (NX "holes")]) l6=some (.lst (w5.map V.str)):=ae
     have s6:=s5.trans (ag.new (o:= .lst [V.str (NX "order"),V.str (NX "kind"),V.str (NX "least"),V.str (NX "parts"),V.str (NX "holes")]) f6)
     generalize upd H5 l6 (.lst [V.str (NX "order"),V.str (NX "kind"),V.str (NX "least"),V.str (NX "parts"),V.str (NX "holes")])=H6 at s6 h6⊢
     refine⟨l6,rfl,⟨_,aC.of h6⟩,eF (K:=K) (a:=l6) (xs:=w5.map V.str) (k:=0) (fun i ys σ' H'=>ys=((D5 n m nm).take i).map V.str/\(∃v0,σ'=[v0,some (.ref a),some (.str nm)])/\ag H6 H') (by decide) ⟨rfl,⟨none,rfl⟩,ag.refl _⟩ (fun i ys σ' H' _ q=>aC.of (q.2.2 _ _ h6)) (fun i ys σ' H' q=>by rw[q.1,NY,N5];lia) ?_ ?_⟩
     .rintro i ys σ' H7 x R hx ⟨rfl,⟨v0,rfl⟩,s7⟩ done
      have hi:i<5:=by
       have:=(List.getElem?_eq_some_iff.mp hx).1
       exact this
      obtain⟨wd,sd,hw,hs,wl,ask⟩:=Io (K:=K) (C:=C) n1 n2 ml gm hn T.Aq T.vW i hi
      rw[NZ,hw]at hx
      cases hx
      have nl:=hn.2.1
      have e1:(NX " ").length=1:=by decide+kernel
      refine⟨_,rfl,_,rfl,_,_,rfl,rfl,(by show wd.length+(NX " ").length<=sizeLine;lia),_,rfl,_,_,rfl,rfl,(by show(wd++NX " ").length+nm.length<=sizeLine;rw[Str.length_append];lia),?_⟩
      dsimp only[u6,List.cons_append,List.nil_append]
      refine ask _ a d _ _ (hd.same (sA.trans (s6.trans s7))) fun H8 s8=>?_
      refine done _ _ _ ⟨?_,⟨_,rfl⟩,s7.trans s8⟩
      rw[List.take_succ,hs,N2]
      rfl
     .rintro ys σ' H7 l7 ⟨rfl,⟨v0,rfl⟩,s7⟩ f7
      rw[List.take_of_length_le (by rw[D6];decide)]
      have s8:=s6.trans (s7.trans (ag.new (o:= .lst ((D5 n m nm).map V.str)) f7))
      refine⟨_,rfl,J0 ae (s8 _ _ hD4) (E4 n m nm) ⟨_,rfl,sF ?_⟩⟩
      exact⟨⟨_,rfl⟩,s8⟩
    .rintro σ H5 ⟨⟨v5',rfl⟩,s5⟩
     exact⟨⟨_,_,_,rfl⟩,s1.trans (s3.trans (s4.trans s5))⟩
  .rintro σ H1 ⟨⟨v3,v4,v5,rfl⟩,s1⟩
   exact k _ (s0.trans s1)
end
theorem wc{n:Int}:Good n []:=fun e h=>absurd h (List.not_mem_nil)
theorem Fo{n r:Int}(h1:2<=n)(r0:0<=r)(r3:r<3):∃m:Int,rF [V.int n,V.int n,V.int (if(3:Int)<n then 3 else n)] r=some (.int m)/\1<=m/\m<=n:=by
 have:r=0\/r=1\/r=2:=by lia
 rcases this with rfl|rfl|rfl
 .exact⟨n,rfl,by lia,by lia⟩
 .exact⟨n,rfl,by lia,by lia⟩
 .exact⟨_,rfl,by split<;>lia,by split<;>lia⟩
theorem CC{n one r:Int}(h1:2<=n)(o1:1<=one)(o2:one<=n)(r0:0<=r)(r1:r<n-1):1<=1+(one+r)%n/\1+(one+r)%n<=n/\1+(one+r)%n≠one:=by
 have m0:=Int.emod_nonneg (one+r) (by lia:n≠0)
 have m1:=Int.emod_lt_of_pos (one+r) (by lia:0<n)
 refine⟨by lia,by lia,fun z=>?_⟩
 by_cases h:one+r<n
 .rw[Int.emod_eq_of_lt (by lia) h]at z
  lia
 .have e:(one+r)%n=one+r-n:=by
   rw[←Int.sub_emod_right,Int.emod_eq_of_lt (by lia) (by lia)]
  rw[e]at z
  lia
def Hz:Sp:=fun vs H Q _=>∃(p:Addr)(c:Nat)(n m:Int),vs=[.ref p,.int n,.int m]/\cY H p c/\c<=90000/\1<=n/\n<=100/\0<=m/\m<=100/\
 ∀l es row H',H l=none->H' l=some (.lst es)->dB H' es row->Good n row->(row.length:Int)<=m->cY H' p (c+300)->bD p H H'->Q (.ref l) H'
structure Nm(P:Program)(w:World)(K:W.Frag)(mg:Str->Option Value)(base:Heap):Prop extends T1 mg K where
 aP:FnAt P w K mg base "_law_take" 1 ["_law_purse_here","_law_many"] qS
 iD:mg "min" =none
 mX:mg "max" =none
section
variable{P:Program}{w:World}{K:W.Frag}{mg:Str->Option Value}{base:Heap}
theorem dJ:az ["_law_purse_here","_law_n","_law_most","_law_found","_law_near","_law_k","_law_one","_law_other"] ["_law_purse_here","_law_n","_law_most"] (ar (top 118)):=⟨rfl,rfl,rfl,by decide+kernel,rfl,by decide+kernel,by decide+kernel⟩
theorem Jg{f:Addr}{fd:FuncData}(F:dh K "_law_row" "_law_row" (top 118) f fd)(T:Nm P w K mg base):aR P w K mg base hZ 2 f fd ["_law_purse_here","_law_n","_law_most"] Hz:=by
 refine F.ok dJ (fun vs H Q E h=>?_) (fun cdv A outer s H vs Q E hr h=>?_)
 .obtain⟨p,c,n,m,rfl,_⟩:=h
  rfl
 .obtain⟨p,c,n,m,rfl,pu,hc,hn,hn2,hm,hm2,k⟩:=h
  refine⟨_,(ah (aB (i:=3) dJ.nd rfl (Or.inl rfl) (aZ af))
   (ah (bt (aI Dx (pv 1) ak (aL _)) (ai (aA (pv 3))) aE)
   (ah (aB (i:=4) dJ.nd rfl (Or.inl rfl) (aQ (av (K:=K) rfl) (aZ (@aa _ _ _ _ _ (pv 1) (@aa _ _ _ _ _ (pv 1) (@aa _ _ _ _ _ (aq (iP rfl) rfl T.iD (by decide+kernel) (aa (pv 1) (aa ak af))) af cR) du) du)) (au T.aP (hr.mono (by first|decide|lia)) rfl (aa (pv 0) (aa ak af))) (fun _ _=>rfl)))
   (ah (eu PassesOwn.never rfl (oI rfl T.cQ (aa (au T.aP (hr.mono (by first|decide|lia)) rfl (aa (pv 0) (aa (ax bw (pv 2) ak) af))) af)) (ay (i:=5) dJ.nd rfl (Or.inl rfl)) (ah (aB (i:=6) dJ.nd rfl (Or.inl rfl) (ax bw ak (au T.aP (hr.mono (by first|decide|lia)) rfl (aa (pv 0) (aa (pv 4) af)))))
   (ah (aB (i:=7) dJ.nd rfl (Or.inl rfl) (ax bw ak (ax lZ (ax bw (pv 6) (au T.aP (hr.mono (by first|decide|lia)) rfl (aa (pv 0) (aa (ax cx (pv 1) ak) af)))) (pv 1))))
   (ai (cB (br (K:=K) rfl PySem.F.plainAttrs_list PySem.F.slot_list_append PySem.F.type_list_append cz (pv 3) (aa (jW (aa (aq (iP rfl) rfl T.iD (by decide+kernel) (aa (pv 6) (aa (pv 7) af))) (aa (aq (kZ rfl) rfl T.mX (by decide+kernel) (aa (pv 6) (aa (pv 7) af))) af))) af)))))))
   (ai (aA (pv 3))))))),?_⟩
  refine⟨Nat.zero_le _,fun l hl=>?_⟩
  have npl:p≠l:=by obtain⟨_,e⟩:=pu.at;exact aj e hl
  refine⟨_,rfl,_,_,rfl,rfl,_,rfl,dQ (fun c2=>?_) (fun c2=>?_)⟩
  .exact⟨_,rfl,k l [] [] _ hl ae .nil wc (by simpa using hm) ((pu.upd npl).mono (by lia) (by lia)) (bD.new hl)⟩
  .have c2:2<=n:=by simpa using c2
   refine⟨_,rfl,_,rfl,_,rfl,_,_,rfl,(by show 3<=sizeLine;decide),fun l2 hl2=>?_⟩
   have np2:p≠l2:=by obtain⟨_,e⟩:=(pu.upd npl (o:= .lst [])).at;exact aj e hl2
   have nl2:l≠l2:=by intro z;subst z;rw[ae]at hl2;cases hl2
   refine⟨_,rfl,p,c,3,rfl,(pu.upd npl).upd np2,by lia,by decide,by decide,fun r H1 r0 r1 pu1 s1=>?_⟩
   obtain⟨near,hat,q1,q2⟩:=Fo c2 r0 r1
   refine⟨l2,_,_,_,rfl,rfl,aC.of (s1 l2 _ np2.symm ae),hat,?_⟩
   have sa:bD p H H1:=(bD.new hl).trans ((bD.new hl2).trans s1)
   have hl1:H1 l=some (.lst []):=s1 l _ npl.symm (by rw[ao nl2,ae])
   refine⟨_,rfl,_,rfl,_,_,rfl,rfl,p,c+1,m+1,rfl,pu1,by lia,by lia,by lia,fun r2 H2 r20 r21 pu2 s2=>⟨r2,rfl,by lia,by lia,?_⟩⟩
   refine cU (fun i σ H'=>∃es row v5 v6 v7,σ=[some (.ref p),some (.int n),some (.int m),some (.ref l),some (.int near),v5,v6,v7]/\bD p H H'/\H' l=some (.lst es)/\dB H' es row/\Good n row/\row.length=i/\cY H' p (c+2+2*i))
    ⟨[],[],none,none,none,rfl,sa.trans s2,s2 l _ npl.symm hl1,.nil,wc,rfl,pu2⟩ ?_ ?_
   .rintro i σ H' hi ⟨es,row,v5,v6,v7,rfl,s3,h3,x3,g3,l3,pu3⟩
    have hi2:(i:Int)<r2:=by lia
    refine⟨_,rfl,_,rfl,p,_,near,rfl,pu3,by lia,by lia,by lia,fun r3 H4 r30 r31 pu4 s4=>⟨_,_,rfl,rfl,?_⟩⟩
    refine⟨_,rfl,_,rfl,_,rfl,_,_,rfl,rfl,p,_,n-1,rfl,pu4,by lia,by lia,by lia,fun r4 H5 r40 r41 pu5 s5=>⟨_,_,rfl,rfl,_,rfl,_,_,rfl,rfl,(by show(0:Int)<n;lia),_,_,rfl,rfl,?_⟩⟩
    have h5:H5 l=some (.lst es):=s5 l _ npl.symm (s4 l _ npl.symm h3)
    obtain⟨o1,o2,o3⟩:=CC (n:=n) (one:=1+r3) (r:=r4) c2 (by lia) (by lia) r40 r41
    refine⟨_,rfl,.inl ⟨rfl,_,aC.of h5⟩,_,rfl,_,rfl,_,_,rfl,_,rfl,_,rfl,_,_,rfl,(by show 2<=sizeLine;decide),fun t ht=>?_⟩
    have nlt:l≠t:=aj h5 ht
    have lx:=x3.length
    have npt:p≠t:=by obtain⟨_,e⟩:=pu5.at;exact aj e ht
    refine⟨l,_,_,rfl,rfl,(by rw[ao nlt];exact h5),?_,?_⟩
    .have:(100:Nat)<sizeLine:=by decide
     lia
    .refine⟨es++[.ref t],row++[(if 1+(1+r3+r4)%n<1+r3 then 1+(1+r3+r4)%n else 1+r3,if 1+(1+r3+r4)%n>1+r3 then 1+(1+r3+r4)%n else 1+r3)],_,_,_,rfl,?_,ae,?_,?_,?_,?_⟩
     .intro b o hb e
      have e5:=s5 b o hb (s4 b o hb (s3 b o hb e))
      rw[ao (aj e hl),ao (aj e5 ht)]
      exact e5
     .refine dB.snoc (dB.keep (fun b xs e=>?_) (bD.Lm s5 pu4 (bD.Lm s4 pu3 x3))) (by rw[ao (Ne.symm nlt),ae])
      rw[ao (zS e h5 (by intro z;cases z)),ao (aj e ht)]
      exact e
     .refine g3.append fun e he=>?_
      rw[List.mem_singleton.mp he]
      dsimp only
      split<;>split<;>lia
     .rw[N0,l3];rfl
     .refine cY.mono ((pu5.upd npt).upd npl) (by lia) (by lia)
   .rintro σ H' ⟨es,row,v5,v6,v7,rfl,s3,h3,x3,g3,l3,pu3⟩
    refine⟨_,rfl,k l es row H' hl h3 x3 g3 (by rw[l3];lia) (pu3.mono (by lia) (by lia)) s3⟩
end
def yK:Sp:=fun vs H Q _=>∃(p:Addr)(c:Nat)(n:Int),vs=[.ref p,.int n]/\cY H p c/\c<=80000/\1<=n/\n<=12/\
 ∀l es row H',H l=none->H' l=some (.lst es)->dB H' es row->Good n row->row.length<=30->cY H' p (c+400)->bD p H H'->Q (.ref l) H'
structure HS(P:Program)(w:World)(K:W.Frag)(mg:Str->Option Value)(base:Heap):Prop extends T1 mg K where
 aP:FnAt P w K mg base "_law_take" 1 ["_law_purse_here","_law_many"] qS
 rM:FnAt P w K mg base "_law_row" 2 ["_law_purse_here","_law_n","_law_most"] Hz
section
variable{P:Program}{w:World}{K:W.Frag}{mg:Str->Option Value}{base:Heap}
theorem gB:az ["_law_purse_here","_law_n","_law_row_here","_law_thing","_law_at"] ["_law_purse_here","_law_n"] (ar (top 127)):=⟨rfl,rfl,rfl,by decide+kernel,rfl,by decide+kernel,by decide+kernel⟩
theorem Gz{f:Addr}{fd:FuncData}(F:dh K "_law_told" "_law_told" (top 127) f fd)(T:HS P w K mg base):aR P w K mg base hZ 3 f fd ["_law_purse_here","_law_n"] yK:=by
 refine F.ok gB (fun vs H Q E h=>?_) (fun cdv A outer s H vs Q E hr h=>?_)
 .obtain⟨p,c,n,rfl,_⟩:=h
  rfl
 .obtain⟨p,c,n,rfl,pu,hc,n1,n2,k⟩:=h
  refine⟨_,(ah (aB (i:=2) gB.nd rfl (Or.inl rfl) (au T.rM (hr.mono (by first|decide|lia)) rfl (@aa _ _ _ _ _ (pv 0) (@aa _ _ _ _ _ (pv 1) (@aa _ _ _ _ _ ak af n6) du) du)))
   (ah (bt (aI cG (au T.aP (hr.mono (by first|decide|lia)) rfl (aa (pv 0) (aa ak af))) ak (aL _)) (ai (eu PassesOwn.never rfl (fh rfl T.cQ (aa ak (aa (ax bw (pv 1) ak) af))) (ay (i:=3) gB.nd rfl (Or.inl rfl)) (ah (aB (i:=4) gB.nd rfl (Or.inl rfl) (au T.aP (hr.mono (by first|decide|lia)) rfl (aa (pv 0) (aa (ax bw (aq (aK (K:=K) rfl) rfl T.bV (by decide+kernel) (aa (pv 2) af)) ak) af))))
   (ai (cB (br (K:=K) rfl PySem.F.plainAttrs_list PySem.F.slot_list_insert PySem.F.type_list_insert Bi (pv 2) (aa (pv 4) (aa (jW (aa (ax bw ak (au T.aP (hr.mono (by first|decide|lia)) rfl (aa (pv 0) (aa (ax cx (pv 3) ak) af)))) (aa (pv 3) af))) af)))))))) aE)
   (ai (aA (pv 2))))),?_⟩
  have big:(10000000:Nat)<=sizeLine:=by decide
  refine⟨_,rfl,_,rfl,p,c,n,12,rfl,pu,by lia,n1,by lia,by decide,by decide,fun lf es0 row0 Ha flf ha xa ga la pua sa=>?_⟩
  have npf:p≠lf:=pu.ne flf
  refine⟨_,rfl,p,_,_,rfl,pua,by lia,by decide,by decide,fun rr Hb rr0 rr1 pub sb=>?_⟩
  have hb:=sb _ _ npf.symm ha
  have xb:=bD.Lm sb pua xa
  have sab:=sa.trans sb
  refine⟨rfl,_,rfl,dQ (fun c2=>?_) (fun c2=>?_)⟩
  .refine⟨_,rfl,_,_,rfl,rfl,2,n+1,rfl,⟨by decide,by decide,by lia,by lia⟩,cU (fun i σ H'=>∃es' row' v3 v4,σ=[some (.ref p),some (.int n),some (.ref lf),v3,v4]/\bD p H H'/\H' lf=some (.lst es')/\dB H' es' row'/\Good n row'/\row'.length<=12+i/\cY H' p (c+301+2*i))
    ⟨es0,row0,_,_,rfl,sab,hb,xb,ga,by lia,pub⟩ ?_ ?_⟩
   .rintro i σ H1 hi ⟨es',row',v3,v4,rfl,s1,h1,x1,g1,l1,pu1⟩
    have hi:(i:Int)<n-1:=by lia
    have xl1:=x1.length
    refine⟨_,rfl,_,rfl,lf,_,rfl,.inl (aC.of h1),_,_,rfl,rfl,p,_,_,rfl,pu1,by lia,by lia,by lia,fun r1 H2 r10 r11 pu2 s2=>?_⟩
    have h2:=s2 _ _ npf.symm h1
    have x2:=bD.Lm s2 pu1 x1
    refine⟨_,rfl,.inl ⟨rfl,_,aC.of h2⟩,_,rfl,_,rfl,_,rfl,_,_,rfl,rfl,p,_,_,rfl,pu2,by lia,by lia,by lia,fun r2 H3 r20 r21 pu3 s3=>?_⟩
    have h3:=s3 _ _ npf.symm h2
    have x3:=bD.Lm s3 pu2 x2
    refine⟨_,_,rfl,rfl,_,rfl,(by show 2<=sizeLine;decide),fun t ft=>?_⟩
    have sn:=ag.new (o:= .tup [V.int (1+r2),V.int (2+(i:Int))]) ft
    have npt:p≠t:=pu3.ne ft
    have s13:=(s1.trans s2).trans s3
    have ftH:H t=none:=FZ s13 npt ft
    refine⟨lf,_,r1,_,rfl,rfl,sn _ _ h3,r10,by lia,by lia,?_⟩
    have nft:lf≠t:=aj h3 ft
    have tk:∀b xs,upd H3 t (.tup [V.int (1+r2),V.int (2+(i:Int))]) b=some (.tup xs)->upd (upd H3 t (.tup [V.int (1+r2),V.int (2+(i:Int))])) lf (.lst (es'.take r1.toNat++V.ref t::es'.drop r1.toNat)) b=some (.tup xs):=fun b xs e=>by
     rw[ao (zS e (sn _ _ h3) (by intro z;cases z))]
     exact e
    refine⟨es'.take r1.toNat++V.ref t::es'.drop r1.toNat,row'.take r1.toNat++(1+r2,2+(i:Int))::row'.drop r1.toNat,_,_,rfl,bD.put (bD.put s13 ftH) flf,ae,?_,Dk g1 ⟨by show 1<=1+r2;lia,by show 1+r2<2+(i:Int);lia,by show 2+(i:Int)<=n;lia⟩ _,?_,((pu3.upd npt).upd npf).mono (by lia) (by lia)⟩
    .exact((x3.keep (ag.cy sn)).keep tk).ins _ (tk _ _ ae)
    .rw[N0,N3,N5,List.length_drop]
     lia
   .rintro σ H1 ⟨es',row',v3,v4,rfl,s1,h1,x1,g1,l1,pu1⟩
    exact⟨_,rfl,k lf es' row' H1 flf h1 x1 g1 (by lia) (pu1.mono (by lia) (by lia)) s1⟩
  .exact⟨_,rfl,k lf es0 row0 Hb flf hb xb ga (by lia) (pub.mono (by lia) (by lia)) sab⟩
end
def Hk:Sp:=fun vs H Q _=>∃(l:Addr)(es:List V)(row:List (Int×Int))(k n:Int)(f:Bool),vs=[.ref l,.int k,.str (eX f)]/\H l=some (.lst es)/\dB H es row/\Good n row/\row.length<=1000/\1<=k/\k<row.length/\∀l' es' H',H l'=none->H' l'=some (.lst es')->dB H' es' (x9 row (k-1).toNat f)->ag H H'->Q (.ref l') H'
structure NO(P:Program)(w:World)(K:W.Frag)(mg:Str->Option Value)(base:Heap):Prop extends T1 mg K where
 iD:mg "min" =none
 mX:mg "max" =none
theorem DM(p q:Int):(if q<p then q else p)=min p q:=by split<;>lia
theorem DU(p q:Int):(if q>p then q else p)=max p q:=by split<;>lia
section
variable{P:Program}{w:World}{K:W.Frag}{mg:Str->Option Value}{base:Heap}
theorem bI:az ["_law_row_here","_law_k","_law_way","_law_one","_law_other","_law_c","_law_d","_law_a","_law_b"] ["_law_row_here","_law_k","_law_way"] (ar (top 121)):=⟨rfl,rfl,rfl,by decide+kernel,rfl,by decide+kernel,by decide+kernel⟩
theorem JH{f:Addr}{fd:FuncData}(F:dh K "_law_moved" "_law_moved" (top 121) f fd)(T:NO P w K mg base):aR P w K mg base hZ 1 f fd ["_law_row_here","_law_k","_law_way"] Hk:=by
 refine F.ok bI (fun vs H Q E h=>?_) (fun cdv A outer s H vs Q E hr h=>?_)
 .obtain⟨l,es,row,k,n,fw,rfl,_⟩:=h
  rfl
 .obtain⟨l,es,row,k,n,fw,rfl,hl,hx,hg,rl,k1,k2,kk⟩:=h
  have hu:=o9 hr
  refine⟨_,(ah (qG (jW (aa (aQ (av (K:=K) rfl) (pv 0) (ax cx (pv 1) ak) (fun _ _=>rfl)) (aa (aQ (av (K:=K) rfl) (pv 0) (pv 1) (fun _ _=>rfl)) af))) (eD (K:=K) (n:=2) rfl rfl (bh (eD (K:=K) (n:=2) rfl rfl (bh (ay (i:=7) bI.nd rfl (Or.inl rfl)) (bh (ay (i:=8) bI.nd rfl (Or.inl rfl)) dW))) (bh (eD (K:=K) (n:=2) rfl rfl (bh (ay (i:=5) bI.nd rfl (Or.inl rfl)) (bh (ay (i:=6) bI.nd rfl (Or.inl rfl)) dW))) dW))))
   (ah (bt (aI cG (pv 2) aw (aL _)) (ah (aB (i:=3) bI.nd rfl (Or.inl rfl) (iI hu (nE (c7 (pv 5) (pv 6) (c7 (pv 6) (pv 5) mI)) rfl rfl (by simp) (by decide)) (pv 7) (pv 7) ⟨rfl,rfl,rfl,rfl⟩))
   (ah (aB (i:=4) bI.nd rfl (Or.inl rfl) (iI hu (nE (c7 (pv 5) (pv 6) (c7 (pv 6) (pv 5) mI)) rfl rfl (by simp) (by decide)) (pv 8) (pv 8) ⟨rfl,rfl,rfl,rfl⟩))
   (ai (aA (ax gP (ax gP (gG (gU (K:=K) rfl) (pv 0) iZ (i8 (ax cx (pv 1) ak))) (aZ (aa (jW (aa (pv 5) (aa (pv 6) af))) (aa (jW (aa (aq (iP rfl) rfl T.iD (by decide+kernel) (aa (pv 3) (aa (pv 4) af))) (aa (aq (kZ rfl) rfl T.mX (by decide+kernel) (aa (pv 3) (aa (pv 4) af))) af))) af)))) (gG (gU (K:=K) rfl) (pv 0) (i8 (ax bw (pv 1) ak)) iZ)))))) aE)
   (ah (aB (i:=3) bI.nd rfl (Or.inl rfl) (iI hu (nE (c7 (pv 7) (pv 8) (c7 (pv 8) (pv 7) mI)) rfl rfl (by simp) (by decide)) (pv 5) (pv 5) ⟨rfl,rfl,rfl,rfl⟩))
   (ah (aB (i:=4) bI.nd rfl (Or.inl rfl) (iI hu (nE (c7 (pv 7) (pv 8) (c7 (pv 8) (pv 7) mI)) rfl rfl (by simp) (by decide)) (pv 6) (pv 6) ⟨rfl,rfl,rfl,rfl⟩))
   (ai (aA (ax gP (ax gP (gG (gU (K:=K) rfl) (pv 0) iZ (i8 (ax cx (pv 1) ak))) (aZ (aa (jW (aa (aq (iP rfl) rfl T.iD (by decide+kernel) (aa (pv 3) (aa (pv 4) af))) (aa (aq (kZ rfl) rfl T.mX (by decide+kernel) (aa (pv 3) (aa (pv 4) af))) af))) (aa (jW (aa (pv 7) (aa (pv 8) af))) af)))) (gG (gU (K:=K) rfl) (pv 0) (i8 (ax bw (pv 1) ak)) iZ)))))))),?_⟩
  have big:(10000000:Nat)<=sizeLine:=by decide
  have two:2<=sizeLine:=by decide
  have xl:=hx.length
  obtain⟨v1,hv1⟩:∃v,es[(k-1).toNat]?=some v:=⟨_,N1 (by lia)⟩
  obtain⟨v2,hv2⟩:∃v,es[k.toNat]?=some v:=⟨_,N1 (by lia)⟩
  obtain⟨ts,a,b,rfl,hts,hr1⟩:=hx.get hv1
  obtain⟨tt,c,d,rfl,htt,hr2⟩:=hx.get hv2
  have er1:row.getD (k-1).toNat (0,0)=(a,b):=by rw[N8,hr1];rfl
  have er2:row.getD ((k-1).toNat+1) (0,0)=(c,d):=by rw[show(k-1).toNat+1=k.toNat by lia,N8,hr2];rfl
  have g1:=hg (a,b) (N9 hr1)
  have g2:=hg (c,d) (N9 hr2)
  simp only at g1 g2
  have at1:rF es (k-1)=some (.ref ts):=by rw[←Int.toNat_of_nonneg (show 0<=k-1 by lia)];exact aX hv1
  have at2:rF es k=some (.ref tt):=by rw[←Int.toNat_of_nonneg (show 0<=k by lia)];exact aX hv2
  refine⟨_,rfl,_,rfl,_,_,rfl,rfl,l,_,_,_,rfl,rfl,aC.of hl,at1,_,rfl,_,rfl,l,_,_,_,rfl,rfl,aC.of hl,at2,two,fun tp ftp=>?_⟩
  have s1:ag H (upd H tp (.tup [.ref ts,.ref tt])):=ag.new ftp
  have htp:upd H tp (.tup [.ref ts,.ref tt]) tp=some (.tup [.ref ts,.ref tt]):=ae
  generalize upd H tp (.tup [.ref ts,.ref tt])=H1 at s1 htp⊢
  refine⟨tp,_,rfl,e8.of htp,rfl,_,_,rfl,ts,_,rfl,e8.of (s1 _ _ hts),rfl,_,_,rfl,_,_,rfl,rfl,?_⟩
  refine⟨_,_,rfl,tt,_,rfl,e8.of (s1 _ _ htt),rfl,_,_,rfl,_,_,rfl,rfl,rfl,?_⟩
  refine⟨_,rfl,rfl,_,rfl,?_⟩
  cases fw with
  |true=>
   refine dQ (fun _=>?_) (fun c=>absurd (decide_eq_true rfl) c)
   have ne:c≠d:=by lia
   refine fun p1 f1=>⟨_,rfl,_,rfl,_,rfl,_,rfl,ae,[(Sum.inl c,.int d),(Sum.inl d,.int c)],rfl,(show 2<=15 by decide),p1,rfl,.inl ⟨_,.inl ae⟩,_,rfl,_,rfl,_,c8.k (k:=Sum.inl a) ae,?_⟩
   rw[jY _ _ _ ne]
   have s2:ag H1 (upd (upd H1 p1 (.dK [])) p1 (.dK (eB [] [(Sum.inl c,.int d),(Sum.inl d,.int c)]))):=fun b o e=>by
    rw[ao (aj e f1),ao (aj e f1)];exact e
   generalize upd (upd H1 p1 (.dK [])) p1 (.dK (eB [] [(Sum.inl c,.int d),(Sum.inl d,.int c)]))=H2 at s2⊢
   refine fun p2 f2=>⟨_,rfl,_,rfl,_,rfl,_,rfl,ae,[(Sum.inl c,.int d),(Sum.inl d,.int c)],rfl,(show 2<=15 by decide),p2,rfl,.inl ⟨_,.inl ae⟩,_,rfl,_,rfl,_,c8.k (k:=Sum.inl b) ae,?_⟩
   rw[jY _ _ _ ne]
   have s3:ag H2 (upd (upd H2 p2 (.dK [])) p2 (.dK (eB [] [(Sum.inl c,.int d),(Sum.inl d,.int c)]))):=fun b o e=>by
    rw[ao (aj e f2),ao (aj e f2)];exact e
   generalize upd (upd H2 p2 (.dK [])) p2 (.dK (eB [] [(Sum.inl c,.int d),(Sum.inl d,.int c)]))=H3 at s3⊢
   have s3:=(s1.trans s2).trans s3
   refine⟨_,rfl,_,rfl,_,_,rfl,rfl,k-1,rfl,l,es,rfl,aC.of (s3 _ _ hl),fun q1 e1=>?_⟩
   rw[Ft (by lia) (by lia)]
   have s4:ag H3 (upd H3 q1 (.lst (es.take (k-1).toNat))):=ag.new e1
   have h4:upd H3 q1 (.lst (es.take (k-1).toNat)) q1=some (.lst (es.take (k-1).toNat)):=ae
   generalize upd H3 q1 (.lst (es.take (k-1).toNat))=H4 at s4 h4⊢
   refine⟨_,rfl,_,rfl,two,fun tq1 ftq1=>⟨_,rfl,_,rfl,_,_,rfl,_,rfl,_,rfl,_,_,rfl,two,fun tq2 ftq2=>⟨two,fun lp flp=>?_⟩⟩⟩
   have k1:ag H4 (upd H4 tq1 (.tup [.int c,.int d])):=ag.new ftq1
   have z1:upd H4 tq1 (.tup [.int c,.int d]) tq1=some (.tup [.int c,.int d]):=ae
   generalize upd H4 tq1 (.tup [.int c,.int d])=H5 at k1 z1 ftq2 flp⊢
   have k2:ag H5 (upd H5 tq2 (.tup [.int (if bK b (c,d)<bK a (c,d)then bK b (c,d)else bK a (c,d)),.int (if bK b (c,d)>bK a (c,d)then bK b (c,d)else bK a (c,d))])):=ag.new ftq2
   have z2:upd H5 tq2 (.tup [.int (if bK b (c,d)<bK a (c,d)then bK b (c,d)else bK a (c,d)),.int (if bK b (c,d)>bK a (c,d)then bK b (c,d)else bK a (c,d))]) tq2=some (.tup [.int (if bK b (c,d)<bK a (c,d)then bK b (c,d)else bK a (c,d)),.int (if bK b (c,d)>bK a (c,d)then bK b (c,d)else bK a (c,d))]):=ae
   generalize upd H5 tq2 (.tup [.int (if bK b (c,d)<bK a (c,d)then bK b (c,d)else bK a (c,d)),.int (if bK b (c,d)>bK a (c,d)then bK b (c,d)else bK a (c,d))])=H6 at k2 z2 flp⊢
   have k3:ag H6 (upd H6 lp (.lst [.ref tq1,.ref tq2])):=ag.new flp
   have hlp:upd H6 lp (.lst [.ref tq1,.ref tq2]) lp=some (.lst [.ref tq1,.ref tq2]):=ae
   generalize upd H6 lp (.lst [.ref tq1,.ref tq2])=H7 at k3 hlp⊢
   rw[DM,DU]at z2
   have xp:dB H7 [.ref tq1,.ref tq2] (FY (a,b) (c,d) true):= .cons (k3 _ _ (k2 _ _ z1)) (.cons (k3 _ _ z2) .nil)
   have s7:=k1.trans (k2.trans k3)
   have a7:=(s3.trans s4).trans s7
   refine⟨q1,lp,_,_,rfl,rfl,s7 _ _ h4,hlp,by rw[N5];show _+2<=sizeLine;lia,fun q2 e2=>?_⟩
   have s8:ag H7 (upd H7 q2 (.lst (es.take (k-1).toNat++[.ref tq1,.ref tq2]))):=ag.new e2
   have h8:upd H7 q2 (.lst (es.take (k-1).toNat++[.ref tq1,.ref tq2])) q2=some (.lst (es.take (k-1).toNat++[.ref tq1,.ref tq2])):=ae
   generalize upd H7 q2 (.lst (es.take (k-1).toNat++[.ref tq1,.ref tq2]))=H8 at s8 h8⊢
   refine⟨_,rfl,_,rfl,_,_,rfl,rfl,k+1,rfl,?_⟩
   unfold m6
   refine⟨l,es,rfl,aC.of (s8 _ _ (a7 _ _ hl)),fun q3 e3=>?_⟩
   rw[cutD (by lia)]
   have s9:ag H8 (upd H8 q3 (.lst (es.drop (k+1).toNat))):=ag.new e3
   have h9:upd H8 q3 (.lst (es.drop (k+1).toNat)) q3=some (.lst (es.drop (k+1).toNat)):=ae
   generalize upd H8 q3 (.lst (es.drop (k+1).toNat))=H9 at s9 h9⊢
   refine⟨q2,q3,_,_,rfl,rfl,s9 _ _ h8,h9,by rw[N0,N5,List.length_drop];show _+2+_<=sizeLine;lia,fun q4 e4=>?_⟩
   have sA:=s8.trans (s9.trans (ag.new (o:= .lst (es.take (k-1).toNat++[.ref tq1,.ref tq2]++es.drop (k+1).toNat)) e4))
   refine kk q4 _ _ ((a7.trans (s8.trans s9)).free e4) ae ?_ (a7.trans sA)
   unfold x9
   rw[er1,er2,show(k-1).toNat+2=(k+1).toNat by lia]
   have hxA:=hx.keep (ag.cy (a7.trans sA))
   exact((hxA.take _).append (xp.keep (ag.cy sA))).append (hxA.drop _)
  |false=>
   refine dQ (fun c=>absurd (of_decide_eq_true c) (by intro z;injection z with z;exact absurd z (by decide))) (fun _=>?_)
   have ne:a≠b:=by lia
   refine fun p1 f1=>⟨_,rfl,_,rfl,_,rfl,_,rfl,ae,[(Sum.inl a,.int b),(Sum.inl b,.int a)],rfl,(show 2<=15 by decide),p1,rfl,.inl ⟨_,.inl ae⟩,_,rfl,_,rfl,_,c8.k (k:=Sum.inl c) ae,?_⟩
   rw[jY _ _ _ ne]
   have s2:ag H1 (upd (upd H1 p1 (.dK [])) p1 (.dK (eB [] [(Sum.inl a,.int b),(Sum.inl b,.int a)]))):=fun b o e=>by
    rw[ao (aj e f1),ao (aj e f1)];exact e
   generalize upd (upd H1 p1 (.dK [])) p1 (.dK (eB [] [(Sum.inl a,.int b),(Sum.inl b,.int a)]))=H2 at s2⊢
   refine fun p2 f2=>⟨_,rfl,_,rfl,_,rfl,_,rfl,ae,[(Sum.inl a,.int b),(Sum.inl b,.int a)],rfl,(show 2<=15 by decide),p2,rfl,.inl ⟨_,.inl ae⟩,_,rfl,_,rfl,_,c8.k (k:=Sum.inl d) ae,?_⟩
   rw[jY _ _ _ ne]
   have s3:ag H2 (upd (upd H2 p2 (.dK [])) p2 (.dK (eB [] [(Sum.inl a,.int b),(Sum.inl b,.int a)]))):=fun b o e=>by
    rw[ao (aj e f2),ao (aj e f2)];exact e
   generalize upd (upd H2 p2 (.dK [])) p2 (.dK (eB [] [(Sum.inl a,.int b),(Sum.inl b,.int a)]))=H3 at s3⊢
   have s3:=(s1.trans s2).trans s3
   refine⟨_,rfl,_,rfl,_,_,rfl,rfl,k-1,rfl,l,es,rfl,aC.of (s3 _ _ hl),fun q1 e1=>?_⟩
   rw[Ft (by lia) (by lia)]
   have s4:ag H3 (upd H3 q1 (.lst (es.take (k-1).toNat))):=ag.new e1
   have h4:upd H3 q1 (.lst (es.take (k-1).toNat)) q1=some (.lst (es.take (k-1).toNat)):=ae
   generalize upd H3 q1 (.lst (es.take (k-1).toNat))=H4 at s4 h4⊢
   refine⟨_,rfl,_,rfl,_,_,rfl,_,rfl,_,rfl,_,_,rfl,two,fun tq1 ftq1=>⟨_,rfl,_,rfl,two,fun tq2 ftq2=>⟨two,fun lp flp=>?_⟩⟩⟩
   have k1:ag H4 (upd H4 tq1 (.tup [.int (if bK d (a,b)<bK c (a,b)then bK d (a,b)else bK c (a,b)),.int (if bK d (a,b)>bK c (a,b)then bK d (a,b)else bK c (a,b))])):=ag.new ftq1
   have z1:upd H4 tq1 (.tup [.int (if bK d (a,b)<bK c (a,b)then bK d (a,b)else bK c (a,b)),.int (if bK d (a,b)>bK c (a,b)then bK d (a,b)else bK c (a,b))]) tq1=some (.tup [.int (if bK d (a,b)<bK c (a,b)then bK d (a,b)else bK c (a,b)),.int (if bK d (a,b)>bK c (a,b)then bK d (a,b)else bK c (a,b))]):=ae
   generalize upd H4 tq1 (.tup [.int (if bK d (a,b)<bK c (a,b)then bK d (a,b)else bK c (a,b)),.int (if bK d (a,b)>bK c (a,b)then bK d (a,b)else bK c (a,b))])=H5 at k1 z1 ftq2 flp⊢
   have k2:ag H5 (upd H5 tq2 (.tup [.int a,.int b])):=ag.new ftq2
   have z2:upd H5 tq2 (.tup [.int a,.int b]) tq2=some (.tup [.int a,.int b]):=ae
   generalize upd H5 tq2 (.tup [.int a,.int b])=H6 at k2 z2 flp⊢
   have k3:ag H6 (upd H6 lp (.lst [.ref tq1,.ref tq2])):=ag.new flp
   have hlp:upd H6 lp (.lst [.ref tq1,.ref tq2]) lp=some (.lst [.ref tq1,.ref tq2]):=ae
   generalize upd H6 lp (.lst [.ref tq1,.ref tq2])=H7 at k3 hlp⊢
   rw[DM,DU]at z1
   have xp:dB H7 [.ref tq1,.ref tq2] (FY (a,b) (c,d) false):= .cons (k3 _ _ (k2 _ _ z1)) (.cons (k3 _ _ z2) .nil)
   have s7:=k1.trans (k2.trans k3)
   have a7:=(s3.trans s4).trans s7
   refine⟨q1,lp,_,_,rfl,rfl,s7 _ _ h4,hlp,by rw[N5];show _+2<=sizeLine;lia,fun q2 e2=>?_⟩
   have s8:ag H7 (upd H7 q2 (.lst (es.take (k-1).toNat++[.ref tq1,.ref tq2]))):=ag.new e2
   have h8:upd H7 q2 (.lst (es.take (k-1).toNat++[.ref tq1,.ref tq2])) q2=some (.lst (es.take (k-1).toNat++[.ref tq1,.ref tq2])):=ae
   generalize upd H7 q2 (.lst (es.take (k-1).toNat++[.ref tq1,.ref tq2]))=H8 at s8 h8⊢
   refine⟨_,rfl,_,rfl,_,_,rfl,rfl,k+1,rfl,?_⟩
   unfold m6
   refine⟨l,es,rfl,aC.of (s8 _ _ (a7 _ _ hl)),fun q3 e3=>?_⟩
   rw[cutD (by lia)]
   have s9:ag H8 (upd H8 q3 (.lst (es.drop (k+1).toNat))):=ag.new e3
   have h9:upd H8 q3 (.lst (es.drop (k+1).toNat)) q3=some (.lst (es.drop (k+1).toNat)):=ae
   generalize upd H8 q3 (.lst (es.drop (k+1).toNat))=H9 at s9 h9⊢
   refine⟨q2,q3,_,_,rfl,rfl,s9 _ _ h8,h9,by rw[N0,N5,List.length_drop];show _+2+_<=sizeLine;lia,fun q4 e4=>?_⟩
   have sA:=s8.trans (s9.trans (ag.new (o:= .lst (es.take (k-1).toNat++[.ref tq1,.ref tq2]++es.drop (k+1).toNat)) e4))
   refine kk q4 _ _ ((a7.trans (s8.trans s9)).free e4) ae ?_ (a7.trans sA)
   unfold x9
   rw[er1,er2,show(k-1).toNat+2=(k+1).toNat by lia]
   have hxA:=hx.keep (ag.cy (a7.trans sA))
   exact((hxA.take _).append (xp.keep (ag.cy sA))).append (hxA.drop _)
end
structure TL(P:Program)(w:World)(K:W.Frag)(mg:Str->Option Value)(base:Heap)(cl:mn)(C:Addr):Prop extends T1 mg K where
 cI:mg "str" =none
 mX:mg "max" =none
 iD:mg "min" =none
 iS:FnAt P w K mg base "_law_purse" 1 ["_law_script","_law_at"] (zZ K)
 aP:FnAt P w K mg base "_law_take" 1 ["_law_purse_here","_law_many"] qS
 o7:FnAt P w K mg base "_law_told" 3 ["_law_purse_here","_law_n"] yK
 mJ:FnAt P w K mg base "_law_moved" 1 ["_law_row_here","_law_k","_law_way"] Hk
 jE:FnAt P w K mg base "_law_row_word" 1 ["_law_row_here"] D4
 gM:FnAt P w K mg base "_law_say" 31 ["_law_desk","_law_row_here"] (oM K cl C (yT cl))
 mF:FnAt P w K mg base "_law_right" 32 ["_law_desk","_law_n","_law_kept"] (HK K cl C)
 uX:Ez P w K mg base C "Desk" 1 ["self","n"] (D3 C)
structure GI(C:Addr)(H:Hp)(i:Nat)(aD d k:Nat->Addr)(n:Nat->Int)(m:Nat->Kept)(kv:Nat->List (Key×V)):Prop where
 Dj:∀j,j<2->bW C H (aD j) (d j) (n j) (m j)
 kept:∀j,j<2->H (k j)=some (.dK (kv j))/\bj H (kv j) (m j)
 good:∀j,j<2->lF (n j) (m j)/\(m j).length<=i/\1<=n j/\n j<=12
 Kk:d 0≠d 1
 Ko:k 0≠k 1
 Iz:∀j l,j<2->l<2->d j≠k l
theorem GI.same {C:Addr}{H H':Hp}{i:Nat}{aD d k:Nat->Addr}{n:Nat->Int}{m:Nat->Kept}{kv:Nat->List (Key×V)}(W:GI C H i aD d k n m kv)(s:ag H H'):GI C H' i aD d k n m kv:=
 ⟨fun j hj=>(W.Dj j hj).same s,fun j hj=>⟨s _ _ (W.kept j hj).1,(W.kept j hj).2.same s⟩,W.good,W.Kk,W.Ko,W.Iz⟩
theorem GI.step {C:Addr}{H H6 H7:Hp}{i j:Nat}{aD d k:Nat->Addr}{n:Nat->Int}{m:Nat->Kept}{kv:Nat->List (Key×V)}{nm:Str}{R:List (Int×Int)}{v:V}(W:GI C H i aD d k n m kv)(hj:j<2)(hv:df H v R)
  (s:ag (upd H (k j) (.dK (putK (kv j) (.inr nm) v))) H6) (hd:bW C H7 (aD j) (d j) (n j) (qz (m j) nm R)) (off:∀b o,b≠d j->H6 b=some o->H7 b=some o) (hn:isNm nm) (g:Good (n j) R) (l60:R.length<=60):
  GI C H7 (i+1) aD d k n (fun l=>if l=j then qz (m j) nm R else m l) (fun l=>if l=j then putK (kv j) (.inr nm) v else kv l):=by
 have two:∀l,l<2->l=0\/l=1:=fun l h=>by lia
 have Kk:∀l,l<2->l≠j->d l≠d j:=fun l hl ne=>by
  rcases two l hl with rfl|rfl<;>rcases two j hj with rfl|rfl
  .exact absurd rfl ne
  .exact W.Kk
  .exact W.Kk.symm
  .exact absurd rfl ne
 have Ko:∀l,l<2->l≠j->k l≠k j:=fun l hl ne=>by
  rcases two l hl with rfl|rfl<;>rcases two j hj with rfl|rfl
  .exact absurd rfl ne
  .exact W.Ko
  .exact W.Ko.symm
  .exact absurd rfl ne
 have e0:=(W.kept j hj).1
 have k0:∀b o,b≠k j->H b=some o->(upd H (k j) (.dK (putK (kv j) (.inr nm) v))) b=some o:=fun b o hb e=>by rw[ao hb];exact e
 obtain⟨dx,fs,kd,ha,hf,hdk,ne,km,ml⟩:=W.Dj j hj
 have h6d:H6 (d j)=some (.dK kd):=s _ _ (k0 _ _ (W.Iz j j hj hj) hdk)
 refine⟨fun l hl=>?_,fun l hl=>?_,fun l hl=>?_,W.Kk,W.Ko,W.Iz⟩
 .by_cases c:l=j
  .subst c
   rw[if_pos rfl]
   exact hd
  .rw[if_neg c]
   exact(((W.Dj l hl).off e0 (W.Iz l j hl hj) k0).same s).off h6d (Kk l hl c) off
 .by_cases c:l=j
  .subst c
   rw[if_pos rfl,if_pos rfl]
   refine⟨off _ _ (W.Iz l l hj hj).symm (s _ _ ae),?_⟩
   exact((((W.kept l hj).2.off e0 k0).put (hv.off e0 k0)).same s).off h6d off
  .rw[if_neg c,if_neg c]
   refine⟨off _ _ (W.Iz j l hj hl).symm (s _ _ (k0 _ _ (Ko l hl c) (W.kept l hl).1)),?_⟩
   exact(((W.kept l hl).2.off e0 k0).same s).off h6d off
 .have gl:=W.good l hl
  by_cases c:l=j
  .subst c
   rw[if_pos rfl]
   refine⟨gl.1.put hn g l60,?_,gl.2.2⟩
   unfold qz
   split
   .rw[NY];lia
   .rw[N0,List.length_singleton];lia
  .rw[if_neg c]
   exact⟨gl.1,by lia,gl.2.2⟩
theorem at2(f:Nat->V){j:Nat}(hj:j<2):rF [f 0,f 1] (j:Int)=some (f j):=by
 have:j=0\/j=1:=by lia
 rcases this with rfl|rfl
 .exact aX (j:=0) rfl
 .exact aX (j:=1) rfl
theorem CO{K:W.Frag}{H H':Hp}{a d:Addr}{xs:List V}{q:List (Key×V)}(h:aC K H a xs)(e:H d=some (.dK q))(k:∀b o,b≠d->H b=some o->H' b=some o):aC K H' a xs:=by
 rcases h with(h|⟨o,h⟩)|h
 .exact .inl (.inl (k _ _ (fun z=>by rw[z,e]at h;cases h) h))
 .exact .inl (.inr ⟨o,k _ _ (fun z=>by rw[z,e]at h;cases h) h⟩)
 .exact .inr h
theorem i7{H H':Hp}{a d:Addr}{xs:List V}{q:List (Key×V)}(h:H a=some (.lst xs))(e:H d=some (.dK q))(k:∀b o,b≠d->H b=some o->H' b=some o):H' a=some (.lst xs):=k _ _ (fun z=>by rw[z,e]at h;cases h) h
def Dg:R2:=fun x y H Q=>∃i j,x=V.str i/\y=V.str j/\i.length+j.length<=sizeLine/\Q (V.str (i++j)) H
theorem FF(nm:Str)(R:List (Int×Int)):NX "row " ++nm++NX " " ++mh R=Str.join (NX " ") [NX "row",nm,mh R]:=by
 rw[←tX,show NX "row " =NX "row" ++NX " " by decide+kernel]
theorem Jw(f:Bool):32∉signs (eX f):=by cases f<;>decide+kernel
theorem Gd(f:Bool):(eX f).length<=5:=by cases f<;>decide+kernel
def C0(j:Nat):Str:=if j=0 then NX "a"else NX "other"
theorem Fg(j:Nat):isNm (C0 j):=by
 unfold C0
 split
 .exact⟨by decide+kernel,by decide+kernel,by decide+kernel⟩
 .exact⟨by decide+kernel,by decide+kernel,by decide+kernel⟩
section
variable{P:Program}{w:World}{K:W.Frag}{mg:Str->Option Value}{base:Heap}{cl:mn}{C:Addr}
theorem dA:az ["_law_script","_law_purse_here","_law_sizes","_law_desks","_law_kept","_law_k","_law_at","_law_name","_law_move","_law_desk","_law_place","_law_way","_law_row_here"] ["_law_script"] (ar (top 129)):=⟨rfl,rfl,rfl,by decide+kernel,rfl,by decide+kernel,by decide+kernel⟩
theorem JB{f:Addr}{fd:FuncData}(F:dh K "law" "law" (top 129) f fd)(T:TL P w K mg base cl C):aR P w K mg base hZ 33 f fd ["_law_script"] (Af K):=by
 refine F.ok dA (fun vs H Q E h=>?_) (fun cdv A outer s H vs Q E hr h=>?_)
 .obtain⟨a,ns,rfl,_⟩:=h
  rfl
 .obtain⟨a,ns,rfl,hS,hlen,k⟩:=h
  have hu:=o9 hr
  refine⟨_,(ah (aB (i:=1) dA.nd rfl (Or.inl rfl) (au T.iS (hr.mono (by first|decide|lia)) rfl (aa (pv 0) (aa ak af))))
   (ah (aB (i:=2) dA.nd rfl (Or.inl rfl) (aZ (aa (ax bw ak (au T.aP (hr.mono (by first|decide|lia)) rfl (aa (pv 1) (aa ak af)))) (aa (ax bw ak (au T.aP (hr.mono (by first|decide|lia)) rfl (aa (pv 1) (aa ak af)))) af))))
   (ah (aB (i:=3) dA.nd rfl (Or.inl rfl) (aZ (aa (we T.uX (hr.mono (by decide)) rfl (aa (aQ (av (K:=K) rfl) (pv 2) ak (fun _ _=>rfl)) af)) (aa (we T.uX (hr.mono (by decide)) rfl (aa (aQ (av (K:=K) rfl) (pv 2) ak (fun _ _=>rfl)) af)) af))))
   (ah (aB (i:=4) dA.nd rfl (Or.inl rfl) (aZ (aa mP (aa mP af))))
   (ah (eu PassesOwn.never rfl (fh rfl T.cQ (aa ak (aa (aq (iP rfl) rfl T.iD (by decide+kernel) (aa (aq (kZ rfl) rfl T.mX (by decide+kernel) (aa (aq (aK (K:=K) rfl) rfl T.bV (by decide+kernel) (aa (pv 0) af)) (aa ak af))) (aa ak af))) af))) (ay (i:=5) dA.nd rfl (Or.inl rfl)) (ah (aB (i:=1) dA.nd rfl (Or.inl rfl) (au T.iS (hr.mono (by first|decide|lia)) rfl (aa (pv 0) (aa (pv 5) af))))
   (ah (aB (i:=6) dA.nd rfl (Or.inl rfl) (au T.aP (hr.mono (by first|decide|lia)) rfl (aa (pv 1) (aa ak af))))
   (ah (aB (i:=7) dA.nd rfl (Or.inl rfl) (aQ (av (K:=K) rfl) (aZ (aa aw (aa aw af))) (au T.aP (hr.mono (by first|decide|lia)) rfl (aa (pv 1) (aa ak af))) (fun _ _=>rfl)))
   (ah (aB (i:=8) dA.nd rfl (Or.inl rfl) (fH cG (au T.aP (hr.mono (by first|decide|lia)) rfl (aa (pv 1) (aa ak af))) ak (aL _)))
   (ah (bt (PW.pt (y2 (cC (pv 8)) (uo (aI qB (aq (aK (K:=K) rfl) rfl T.bV (by decide+kernel) (aa (iI hu (aQ (av (K:=K) rfl) (pv 4) (pv 6) (fun _ _=>rfl)) (pv 7) (aZ af) ⟨rfl,rfl,rfl,rfl⟩) af)) ak (aL _))))) (ah (aB (i:=10) dA.nd rfl (Or.inl rfl) (ax bw ak (au T.aP (hr.mono (by first|decide|lia)) rfl (aa (pv 1) (aa (ax cx (aq (aK (K:=K) rfl) rfl T.bV (by decide+kernel) (aa (mW hu (aQ (av (K:=K) rfl) (pv 4) (pv 6) (fun _ _=>rfl)) (pv 7) (fun _ _=>rfl)) af)) ak) af)))))
   (ah (aB (i:=11) dA.nd rfl (Or.inl rfl) (aQ (av (K:=K) rfl) (aZ (aa aw (aa aw af))) (au T.aP (hr.mono (by first|decide|lia)) rfl (aa (pv 1) (aa ak af))) (fun _ _=>rfl)))
   (ah (uJ hu (aQ (av (K:=K) rfl) (pv 4) (pv 6) (fun _ _=>rfl)) (pv 7) (au T.mJ (hr.mono (by first|decide|lia)) rfl (@aa _ _ _ _ _ (mW hu (aQ (av (K:=K) rfl) (pv 4) (pv 6) (fun _ _=>rfl)) (pv 7) (fun _ _=>rfl)) (@aa _ _ _ _ _ (pv 10) (@aa _ _ _ _ _ (pv 11) af du) du) oi)) rfl)
   (ai (aB (i:=12) dA.nd rfl (Or.inl rfl) (ax bo (ax bo (ax bo (ax bo (pv 11) aw) (pv 7)) aw) (aO bH rfl T.cI (by decide+kernel) (aa (pv 10) af)))))))) (ah (uJ hu (aQ (av (K:=K) rfl) (pv 4) (pv 6) (fun _ _=>rfl)) (pv 7) (au T.o7 (hr.mono (by first|decide|lia)) rfl (aa (pv 1) (aa (aQ (av (K:=K) rfl) (pv 2) (pv 6) (fun _ _=>rfl)) af))) rfl)
   (ai (aB (i:=12) dA.nd rfl (Or.inl rfl) (ax bo (ax bo (ax bo aw (pv 7)) aw) (au T.jE (hr.mono (by first|decide|lia)) rfl (aa (mW hu (aQ (av (K:=K) rfl) (pv 4) (pv 6) (fun _ _=>rfl)) (pv 7) (fun _ _=>rfl)) af)))))))
   (ah (bt (aI lG (au T.gM (hr.mono (by first|decide|lia)) rfl (aa (aQ (av (K:=K) rfl) (pv 3) (pv 6) (fun _ _=>rfl)) (aa (pv 12) af))) aw (aL _)) (ai (aA iK)) aE)
   (ai (eu PassesOwn.never rfl (oI rfl T.cQ (aa ak af)) (ay (i:=9) dA.nd rfl (Or.inl rfl)) (ai (bt (dz (cC (au T.mF (hr.mono (by first|decide|lia)) rfl (@aa _ _ _ _ _ (aQ (av (K:=K) rfl) (pv 3) (pv 9) (fun _ _=>rfl)) (@aa _ _ _ _ _ (aQ (av (K:=K) rfl) (pv 2) (pv 9) (fun _ _=>rfl)) (@aa _ _ _ _ _ (aQ (av (K:=K) rfl) (pv 4) (pv 9) (fun _ _=>rfl)) af oi) oi) oi)))) (ai (aA iK)) aE)))))))))))
   (ai (aA iK))))))),?_⟩
  have big:(10000000:Nat)<=sizeLine:=by decide
  have two:2<=sizeLine:=by decide
  refine⟨_,rfl,a,ns,0,rfl,hS,by lia,by lia,fun p0 H1 hp0 pu0 s1=>?_⟩
  refine⟨_,rfl,p0,0,12,rfl,pu0,by decide,by decide,by decide,fun r0 H2 r00 r01 pu1 s2=>?_⟩
  have a2:=ag.of s1 hp0 s2
  refine⟨_,_,rfl,rfl,_,rfl,p0,1,12,rfl,pu1,by decide,by decide,by decide,fun r1 H3 r10 r11 pu2 s3=>?_⟩
  have a3:=ag.of a2 hp0 s3
  refine⟨_,_,rfl,rfl,two,fun lS fS=>?_⟩
  have a4:=a3.trans (ag.new (o:= .lst [.int (1+r0),.int (1+r1)]) fS)
  have hlS:upd H3 lS (.lst [.int (1+r0),.int (1+r1)]) lS=some (.lst [.int (1+r0),.int (1+r1)]):=ae
  generalize upd H3 lS (.lst [.int (1+r0),.int (1+r1)])=H4 at a4 hlS⊢
  refine⟨_,rfl,lS,_,0,_,rfl,rfl,aC.of hlS,aX (j:=0) rfl,fun a0 dx0 fa0 fd0 ne0=>⟨a0,dx0,1+r0,rfl,ae,by rw[ao ne0,ae],ne0,fun d0 H5 fd0' nd0 dk0 off0=>⟨rfl,?_⟩⟩⟩
  have s5:ag H4 H5:=fun b o e=>off0 b o (aj e fa0) (by rw[ao (aj e fa0),ao (aj e fd0)];exact e)
  have fd0:H4 d0=none:=by
   by_cases z:d0=dx0
   .rw[z];assumption
   .rw[ao nd0,ao z]at fd0';exact fd0'
  have hlS5:=s5 _ _ hlS
  refine⟨_,rfl,lS,_,1,_,rfl,rfl,aC.of hlS5,aX (j:=1) rfl,fun a1 dx1 fa1 fd1 ne1=>⟨a1,dx1,1+r1,rfl,ae,by rw[ao ne1,ae],ne1,fun d1 H6 fd1' nd1 dk1 off1=>⟨rfl,?_⟩⟩⟩
  have s6:ag H5 H6:=fun b o e=>off1 b o (aj e fa1) (by rw[ao (aj e fa1),ao (aj e fd1)];exact e)
  have fd1:H5 d1=none:=by
   by_cases z:d1=dx1
   .rw[z];assumption
   .rw[ao nd1,ao z]at fd1';exact fd1'
  have hd05:∃q,H5 d0=some (.dK q):=by obtain⟨_,_,q,_,_,e,_⟩:=dk0;exact⟨q,e⟩
  obtain⟨q0,hd05⟩:=hd05
  obtain⟨_,_,q1,_,_,hd16,_⟩:=id dk1
  refine⟨two,fun lD fD=>?_⟩
  have s7:ag H6 (upd H6 lD (.lst [.ref a0,.ref a1])):=ag.new fD
  have hlD:upd H6 lD (.lst [.ref a0,.ref a1]) lD=some (.lst [.ref a0,.ref a1]):=ae
  generalize upd H6 lD (.lst [.ref a0,.ref a1])=H7 at s7 hlD⊢
  refine fun k0 f0 k1 f1=>⟨two,fun lK fK=>?_⟩
  have n01:k0≠k1:=fun z=>by rw[←z,ae]at f1;cases f1
  have s8:ag H7 (upd H7 k0 (.dK [])):=ag.new f0
  have s9:=s8.trans (ag.new (o:= .dK []) f1)
  have s10:=s9.trans (ag.new (o:= .lst [.ref k0,.ref k1]) fK)
  have hk0:upd (upd (upd H7 k0 (.dK [])) k1 (.dK [])) lK (.lst [.ref k0,.ref k1]) k0=some (.dK []):=ag.new fK _ _ (by rw[ao n01,ae])
  have hk1:upd (upd (upd H7 k0 (.dK [])) k1 (.dK [])) lK (.lst [.ref k0,.ref k1]) k1=some (.dK []):=ag.new fK _ _ ae
  have hlK:upd (upd (upd H7 k0 (.dK [])) k1 (.dK [])) lK (.lst [.ref k0,.ref k1]) lK=some (.lst [.ref k0,.ref k1]):=ae
  have f17:H7 k1=none:=s8.free f1
  generalize upd (upd (upd H7 k0 (.dK [])) k1 (.dK [])) lK (.lst [.ref k0,.ref k1])=H8 at s10 hk0 hk1 hlK⊢
  have hlS8:=(s5.trans (s6.trans (s7.trans s10))) _ _ hlS
  have hlD8:=s10 _ _ hlD
  obtain⟨aD,d,kd,n,m,kv,W0,hlS8,hlD8,hlK⟩:∃(aD d kd:Nat->Addr)(n:Nat->Int)(m:Nat->Kept)(kv:Nat->List (Key×V)),GI C H8 0 aD d kd n m kv/\H8 lS=some (.lst [.int (n 0),.int (n 1)])/\H8 lD=some (.lst [.ref (aD 0),.ref (aD 1)])/\H8 lK=some (.lst [.ref (kd 0),.ref (kd 1)]):=by
   refine⟨fun j=>if j=0 then a0 else a1,fun j=>if j=0 then d0 else d1,fun j=>if j=0 then k0 else k1,fun j=>if j=0 then 1+r0 else 1+r1,fun _=>[],fun _=>[],?_,hlS8,hlD8,hlK⟩
   have dd0:H7 d0=some (.dK q0):=s7 _ _ (s6 _ _ hd05)
   have dd1:H7 d1=some (.dK q1):=s7 _ _ hd16
   have gd:∀n:Int,lF n []:=fun n p hp=>by cases hp
   refine⟨fun j hj=>?_,fun j hj=>?_,fun j hj=>⟨gd _,Nat.zero_le _,?_⟩,?_,?_,fun j l hj hl=>?_⟩
   .show bW C H8 (if j=0 then a0 else a1) (if j=0 then d0 else d1) (if j=0 then 1+r0 else 1+r1) []
    split
    .exact dk0.same (s6.trans (s7.trans s10))
    .exact dk1.same (s7.trans s10)
   .show H8 (if j=0 then k0 else k1)=some (.dK [])/\bj H8 [] []
    split
    .exact⟨hk0,.nil⟩
    .exact⟨hk1,.nil⟩
   .show 1<=(if j=0 then 1+r0 else 1+r1)/\(if j=0 then 1+r0 else 1+r1)<=12
    split<;>lia
   .exact aj hd05 fd1
   .exact n01
   .show(if j=0 then d0 else d1)≠(if l=0 then k0 else k1)
    split<;>split
    .exact aj dd0 f0
    .exact aj dd0 f17
    .exact aj dd1 f0
    .exact aj dd1 f17
  have aS:ag H H8:=a4.trans (s5.trans (s6.trans (s7.trans s10)))
  clear s10 s9 s8 s7 s6 s5 hk0 hk1 f17 f0 f1 fK fD hd05 hd16 dk0 dk1 off0 off1
  refine⟨_,rfl,a,_,rfl,.inl (aS.seq hS),_,_,rfl,_,_,rfl,_,_,rfl,?b1,cU (fun i σ H'=>(∃v1 v5 v6 v7 v8 v9 v10 v11 v12,σ=[some (.ref a),v1,some (.ref lS),some (.ref lD),some (.ref lK),v5,v6,v7,v8,v9,v10,v11,v12])/\i<=12/\aC K H' a (ns.map V.int)/\H' lS=some (.lst [.int (n 0),.int (n 1)])/\H' lD=some (.lst [.ref (aD 0),.ref (aD 1)])/\H' lK=some (.lst [.ref (kd 0),.ref (kd 1)])/\∃m kv,GI C H' i aD d kd n m kv) ⟨⟨_,_,_,_,_,_,_,_,_,rfl⟩,Nat.zero_le _,aS.seq hS,hlS8,hlD8,hlK,m,kv,W0⟩ ?_ ?_⟩
  case b1=>
   rw[NY]
   refine⟨by decide,by decide,?_,?_⟩<;>(split<;>(try split)<;>lia)
  .rintro i σ G1 hi ⟨⟨v1,v5,v6,v7,v8,v9,v10,v11,v12,rfl⟩,i12,hSa,gS,gD,gK,m,kv,W⟩
   have hi:i<12:=Nat.lt_of_lt_of_le hi (by rw[NY];split<;>(try split)<;>lia)
   refine⟨_,rfl,_,rfl,a,ns,_,rfl,hSa,by lia,by lia,fun p G2 hp pu0 s1=>?_⟩
   refine⟨_,rfl,p,0,2,rfl,pu0,by decide,by decide,by decide,fun rj G3 rj0 rj1 pu1 s2=>?_⟩
   have b2:=ag.of s1 hp s2
   obtain⟨j,rfl⟩:=Int.eq_ofNat_of_zero_le rj0
   have hj:j<2:=by lia
   refine⟨two,fun lt jR=>?_⟩
   have nlt:p≠lt:=pu1.ne jR
   have b3:=b2.trans (ag.new (o:= .lst [V.str (NX "a"),V.str (NX "other")]) jR)
   have hlt:upd G3 lt (.lst [V.str (NX "a"),V.str (NX "other")]) lt=some (.lst [V.str (NX "a"),V.str (NX "other")]):=ae
   have pu1':=pu1.upd nlt (o:= .lst [V.str (NX "a"),V.str (NX "other")])
   generalize upd G3 lt (.lst [V.str (NX "a"),V.str (NX "other")])=G4 at b3 hlt pu1'⊢
   refine⟨_,rfl,p,1,2,rfl,pu1',by decide,by decide,by decide,fun rn G5 rn0 rn1 pu2 s4=>?_⟩
   have b5:=ag.of b3 hp s4
   obtain⟨jn,rfl⟩:=Int.eq_ofNat_of_zero_le rn0
   have hjn:jn<2:=by lia
   have atn:rF [V.str (NX "a"),V.str (NX "other")] (jn:Int)=some (V.str (C0 jn)):=at2 (fun j=>V.str (C0 j)) hjn
   refine⟨lt,_,_,_,rfl,rfl,aC.of (s4 _ _ nlt.symm hlt),atn,?_⟩
   have hn:=Fg jn
   generalize C0 jn=nm at hn⊢
   refine⟨_,rfl,p,2,3,rfl,pu2,by decide,by decide,by decide,fun rm G6 rm0 rm1 pu3 s5=>⟨rfl,?_⟩⟩
   have b6:=ag.of b5 hp s5
   have W6:=W.same b6
   have gS6:=b6 _ _ gS
   have gD6:=b6 _ _ gD
   have gK6:=b6 _ _ gK
   have gd:=W6.good j hj
   have npK:lK≠p:=aj gK hp
   have npk:kd j≠p:=aj (W.kept j hj).1 hp
   obtain⟨hk6,km6⟩:=W6.kept j hj
   have kl:(kv j).length=(m j).length:=Paired.Fd km6
   clear atn jR s1 s2 s4 s5 hlt
   refine Nl ?_
   dsimp only
   refine Ab (t:=Ed _ _ _) (fun σ' H'=>∃(v10 v11:Option V)(t:Str)(R:List (Int×Int))(v:V)(H4:Hp),σ'=[some (.ref a),some (.ref p),some (.ref lS),some (.ref lD),some (.ref lK),some (.int (1+(i:Int))),some (.int (j:Int)),some (.str nm),some (.bl (decide (V.int rm=V.int 1))),v9,v10,v11,some (.str t)]/\ag G1 H4/\df H4 v R/\Good (n j) R/\R.length<=60/\ag (upd H4 (kd j) (.dK (putK (kv j) (.inr nm) v))) H'/\t.length<=990/\(yT cl).out (n j) (m j) (Txt.split t (NX " "))=some (.put nm R)) (fun D' hD=>?_) ?_
   .have sp1:(NX " ").length=1:=by decide+kernel
    have rw4:(NX "row ").length=4:=by decide+kernel
    have nl:=hn.2.1
    have els:∀(G:Hp),ag G6 G->cY G p 3->(DJ (HN (zE (yW K) (lj 4) (lj 6)) (lj 7) (rJ yK [] E0 (kj (lj 1) (kj (zE (yW K) (lj 2) (lj 6)) u6)))) (yt (zE Dg (zE Dg (zE Dg (tC (V.str (NX "row "))) (lj 7)) (tC (V.str (NX " ")))) (rJ D4 [] E0 (kj (HH (zE (yW K) (lj 4) (lj 6)) (lj 7)) u6))) (cF 12))) D' [some (.ref a),some (.ref p),some (.ref lS),some (.ref lD),some (.ref lK),some (.int (1+(i:Int))),some (.int (j:Int)),some (.str nm),some (.bl (decide (V.int rm=V.int 1))),v9,v10,v11,v12] G:=by
     intro G sG pu
     refine⟨_,rfl,_,rfl,_,rfl,lS,_,_,_,rfl,rfl,aC.of (sG _ _ gS6),at2 (fun j=>V.int (n j)) hj,p,3,n j,rfl,pu,by lia,gd.2.2.1,gd.2.2.2,fun l es R H5 fl hl xe gR lR pu5 s5=>?_⟩
     have sH5:ag G1 H5:=ag.of (b6.trans sG) hp s5
     have hk5:=sH5 _ _ (W.kept j hj).1
     refine⟨_,rfl,_,rfl,lK,_,_,_,rfl,rfl,aC.of (sH5 _ _ gK),at2 (fun j=>V.ref (kd j)) hj,_,rfl,kd j,_,rfl,yM.k (k:= .inr nm) hk5 (by lia),?_⟩
     have hv:df H5 (.ref l) R:=⟨l,es,rfl,hl,xe⟩
     have off1:∀b o,b≠kd j->H5 b=some o->(upd H5 (kd j) (.dK (putK (kv j) (.inr nm) (.ref l)))) b=some o:=fun b o hb e=>by rw[ao hb];exact e
     have gK6':=i7 (sH5 _ _ gK) hk5 off1
     have gg:c8 (upd H5 (kd j) (.dK (putK (kv j) (.inr nm) (.ref l)))) (kd j) (kV (.inr nm)) (some (.ref l)):=by
      have:=c8.k (H:=upd H5 (kd j) (.dK (putK (kv j) (.inr nm) (.ref l)))) (a:=kd j) (k:= .inr nm) ae
      rw[qO,if_pos rfl]at this
      exact this
     obtain⟨l',es',el,hl',xe'⟩:=hv.off hk5 off1
     cases el
     have smx:Mv R:=fun e he=>by have:=gR e he;have:=gd.2.2.2;lia
     have rl:=D7 smx
     refine⟨_,rfl,_,_,rfl,rfl,(by show(NX "row ").length+nm.length<=sizeLine;lia),_,_,rfl,rfl,(by show(NX "row " ++nm).length+(NX " ").length<=sizeLine;rw[Str.length_append];lia),_,rfl,_,rfl,lK,_,_,_,rfl,rfl,aC.of gK6',at2 (fun j=>V.ref (kd j)) hj,_,rfl,kd j,_,rfl,gg,l,es',R,rfl,hl',xe',by lia,smx,fun H7 s7=>⟨_,_,rfl,rfl,(by show(NX "row " ++nm++NX " ").length+(mh R).length<=sizeLine;rw[Str.length_append,Str.length_append];lia),?_⟩⟩
     refine hD _ _ ⟨v10,v11,NX "row " ++nm++NX " " ++mh R,R,.ref l,H5,rfl,sH5,hv,gR,by lia,s7,by rw[Str.length_append,Str.length_append,Str.length_append];lia,?_⟩
     rw[FF,kg (by simp) fun t ht=>?_]
     .exact FJ (by decide+kernel) (by decide+kernel) (by decide+kernel) hn gd.2.2.2 gR (by lia)
     .simp only[N6,List.not_mem_nil,or_false]at ht
      rcases ht with rfl|rfl|rfl
      .decide+kernel
      .exact DQ hn
      .exact E9 fun e he=>by have:=gR e he;lia
    refine⟨_,rfl,_,rfl,?_⟩
    by_cases hm:rm=1
    case neg=>exact fW (by simpa using hm) (els G6 (ag.refl _) pu3)
    refine BW (by simpa using hm) ?_
    refine⟨_,rfl,_,rfl,lK,_,_,_,rfl,rfl,aC.of gK6,at2 (fun j=>V.ref (kd j)) hj,kd j,rfl,.inl ⟨_,.inl hk6⟩,_,rfl,Nat.zero_le _,fun lE fE=>?_⟩
    have sE:=ag.new (o:= .lst []) fE
    have hE:upd G6 lE (.lst []) lE=some (.lst []):=ae
    have npE:p≠lE:=pu3.ne fE
    have puE:=pu3.upd npE (o:= .lst [])
    generalize upd G6 lE (.lst [])=GE at sE hE puE⊢
    have hkE:=sE _ _ hk6
    have gKE:=sE _ _ gK6
    rcases(km6.same sE).get nm with⟨e1,e2⟩|⟨R0,v0,e1,e2,e3⟩
    .have g:c8 GE (kd j) (kV (.inr nm)) none:=by rw[←e2];exact c8.k hkE
     exact⟨none,g,lE,_,rfl,.inl (aC.of hE),_,_,rfl,rfl,_,rfl,fW (by decide) (els GE sE puE)⟩
    have g:c8 GE (kd j) (kV (.inr nm)) (some v0):=by rw[←e2];exact c8.k hkE
    obtain⟨b,es0,rfl,hb,xb⟩:=e3
    have gR0:Good (n j) R0/\R0.length<=60/\isNm nm:=gd.1 _ (dM e1)
    have xl0:=xb.length
    refine⟨some (.ref b),g,b,_,rfl,.inl (aC.of hb),_,_,rfl,rfl,_,rfl,?_⟩
    by_cases hl1:1<es0.length
    case neg=>exact fW (by rw[decide_eq_true_eq];lia) (els GE sE puE)
    refine BW (by rw[decide_eq_true_eq];lia) ?_
    clear els
    refine⟨_,rfl,_,rfl,_,rfl,lK,_,_,_,rfl,rfl,aC.of gKE,at2 (fun j=>V.ref (kd j)) hj,_,rfl,kd j,_,rfl,g,b,_,rfl,.inl (aC.of hb),_,_,rfl,rfl,p,3,_,rfl,puE,by decide,by lia,by have:=gR0.2.1;lia,fun rp G7 rp0 rp1 pu4 s6=>⟨_,_,rfl,rfl,?_⟩⟩
    have rp1':rp<(es0.length:Int)-1:=rp1
    have b7:=ag.of (b6.trans sE) hp s6
    refine⟨two,fun lw flw=>?_⟩
    have nlw:p≠lw:=pu4.ne flw
    have b8:=b7.trans (ag.new (o:= .lst [V.str (NX "forth"),V.str (NX "back")]) flw)
    have hlw:upd G7 lw (.lst [V.str (NX "forth"),V.str (NX "back")]) lw=some (.lst [V.str (NX "forth"),V.str (NX "back")]):=ae
    have pu4':=pu4.upd nlw (o:= .lst [V.str (NX "forth"),V.str (NX "back")])
    generalize upd G7 lw (.lst [V.str (NX "forth"),V.str (NX "back")])=G8 at b8 hlw pu4'⊢
    refine⟨_,rfl,p,4,2,rfl,pu4',by decide,by decide,by decide,fun rw' G9 rw0 rw1 pu5 s8=>?_⟩
    have b9:=ag.of b8 hp s8
    obtain⟨jw,rfl⟩:=Int.eq_ofNat_of_zero_le rw0
    have hjw:jw<2:=by lia
    obtain⟨ff,hff⟩:∃ff:Bool,rF [V.str (NX "forth"),V.str (NX "back")] (jw:Int)=some (V.str (eX ff)):=by
     have:jw=0\/jw=1:=by lia
     rcases this with rfl|rfl
     .exact⟨true,aX (j:=0) rfl⟩
     .exact⟨false,aX (j:=1) rfl⟩
    refine⟨lw,_,_,_,rfl,rfl,aC.of (s8 _ _ nlw.symm hlw),hff,?_⟩
    have hk9:=b9 _ _ (W.kept j hj).1
    have gK9:=b9 _ _ gK
    have km9:=(W.kept j hj).2.same b9
    rcases km9.get nm with⟨f1,_⟩|⟨R1,v1',f1,f2,f3⟩
    .rw[e1]at f1;cases f1
    rw[e1]at f1
    cases f1
    have g9:c8 G9 (kd j) (kV (.inr nm)) (some v1'):=by rw[←f2];exact c8.k hk9
    obtain⟨b9',es9,rfl,hb9,xb9⟩:=f3
    have xl9:=xb9.length
    have r60:R0.length<=60:=gR0.2.1
    refine⟨_,rfl,_,rfl,lK,_,_,_,rfl,rfl,aC.of gK9,at2 (fun j=>V.ref (kd j)) hj,_,rfl,kd j,_,rfl,g9,_,rfl,_,rfl,b9',es9,R0,1+rp,n j,ff,rfl,hb9,xb9,gR0.1,by lia,by lia,by lia,fun l' es' HM _ hl' xe' sM=>?_⟩
    have bM:=b9.trans sM
    have hkM:=bM _ _ (W.kept j hj).1
    refine⟨_,rfl,_,rfl,lK,_,_,_,rfl,rfl,aC.of (bM _ _ gK),at2 (fun j=>V.ref (kd j)) hj,_,rfl,kd j,_,rfl,yM.k (k:= .inr nm) hkM (by lia),?_⟩
    have nT:=dv (i:=1+rp) (by lia) (by lia)
    have wl:=Gd ff
    refine⟨_,rfl,_,_,rfl,rfl,(by show(eX ff).length+(NX " ").length<=sizeLine;lia),_,rfl,_,_,rfl,rfl,(by show(eX ff++NX " ").length+nm.length<=sizeLine;rw[Str.length_append];lia),_,_,rfl,rfl,(by show(eX ff++NX " " ++nm).length+(NX " ").length<=sizeLine;rw[Str.length_append,Str.length_append];lia),_,rfl,1+rp,rfl,fi (by lia) (by lia),_,_,rfl,rfl,(by show(eX ff++NX " " ++nm++NX " ").length+(aF (1+rp)).length<=sizeLine;rw[Str.length_append,Str.length_append,Str.length_append];lia),?_⟩
    have hmv:=FV (i:=(1+rp-1).toNat) (f:=ff) gR0.1 (by lia)
    have hml:=Jl (row:=R0) (i:=(1+rp-1).toNat) (f:=ff) (by lia)
    refine hD _ _ ⟨_,_,eX ff++NX " " ++nm++NX " " ++aF (1+rp),x9 R0 (1+rp-1).toNat ff,.ref l',HM,rfl,bM,⟨l',es',rfl,hl',xe'⟩,hmv,by lia,ag.refl _,by rw[Str.length_append,Str.length_append,Str.length_append,Str.length_append];lia,?_⟩
    rw[tX,kg (by simp) fun t ht=>?_]
    .have q:=EJ (okd:=fun d=>decide (d≠NX "order")) (ans:=bY cl.Apart) (U:=fun w=>decide (w∈([NX "row",NX "forth",NX "back"]:List Str))) (CT:=cl.iV) (CN:=cl.gH) (CB:=cl.hV) (CM:=cl.je) (n:=n j) (m:=m j) (nm:=nm) (f:=ff) (k:=1+rp) (by decide+kernel) (by decide+kernel) (by cases ff<;>decide+kernel) hn (by lia) (by lia) e1 r60
     rw[if_pos ⟨by lia,by lia⟩]at q
     exact q
    .simp only[N6,List.not_mem_nil,or_false]at ht
     rcases ht with rfl|rfl|rfl
     .exact Jw ff
     .exact DQ hn
     .exact IA (by lia)
   .rintro σ' H5 ⟨v10',v11',t,R,v,H4,rfl,s4,hv,gR,l60,s5,tl,ho⟩
    have W4:=W.same s4
    have e0:=(W4.kept j hj).1
    have off1:∀b o,b≠kd j->H4 b=some o->H5 b=some o:=fun b o hb e=>s5 _ _ (by rw[ao hb];exact e)
    have hd5:bW C H5 (aD j) (d j) (n j) (m j):=(W4.Dj j hj).off e0 (W4.Iz j j hj hj) off1
    have gS5:=i7 (s4 _ _ gS) e0 off1
    have gD5:=i7 (s4 _ _ gD) e0 off1
    have gK5:=i7 (s4 _ _ gK) e0 off1
    have hS5:=CO (s4.seq hSa) e0 off1
    obtain⟨_,_,q5,_,_,hq5,_⟩:=id hd5
    refine⟨_,rfl,_,rfl,lD,_,_,_,rfl,rfl,aC.of gD5,at2 (fun j=>V.ref (aD j)) hj,_,rfl,aD j,d j,t,n j,m j,_,rfl,tl,gd.2.2.1,gd.2.2.2,by lia,gd.1.names,hd5,ho,fun H6 dk6 off6=>?_⟩
    refine⟨rfl,_,rfl,sF ?_⟩
    have W7:GI C H6 (i+1) aD d kd n _ _:=W4.step hj hv s5 dk6 off6 hn gR l60
    have gS6':=i7 gS5 hq5 off6
    have gD6':=i7 gD5 hq5 off6
    have gK6':=i7 gK5 hq5 off6
    have hS6':=CO hS5 hq5 off6
    generalize(fun l=>if l=j then qz (m j) nm R else m l)=m7 at W7
    generalize(fun l=>if l=j then putK (kv j) (.inr nm) v else kv l)=kv7 at W7
    refine⟨2,rfl,by decide,by decide,cU (fun l σ H'=>(∃v9,σ=[some (.ref a),some (.ref p),some (.ref lS),some (.ref lD),some (.ref lK),some (.int (1+(i:Int))),some (.int (j:Int)),some (.str nm),some (.bl (decide (V.int rm=V.int 1))),v9,v10',v11',some (.str t)])/\ag H6 H') ⟨⟨_,rfl⟩,ag.refl _⟩ ?_ ?_⟩
    .rintro l σ G hl ⟨⟨v9',rfl⟩,sl⟩
     have hl:l<2:=hl
     have W8:=W7.same sl
     have g8:=W8.good l hl
     have at3:∀f:Nat->V,rF [f 0,f 1] (0+(l:Int))=some (f l):=fun f=>by rw[Int.zero_add];exact at2 f hl
     exact⟨_,rfl,_,rfl,lD,_,_,_,rfl,rfl,aC.of (sl _ _ gD6'),at3 (fun j=>V.ref (aD j)),_,rfl,_,rfl,lS,_,_,_,rfl,rfl,aC.of (sl _ _ gS6'),at3 (fun j=>V.int (n j)),_,rfl,_,rfl,lK,_,_,_,rfl,rfl,aC.of (sl _ _ gK6'),at3 (fun j=>V.ref (kd j)),aD l,d l,kd l,n l,m7 l,kv7 l,rfl,g8.2.2.1,g8.2.2.2,by lia,g8.1,W8.Dj l hl,(W8.kept l hl).1,(W8.kept l hl).2,fun H' s'=>⟨_,rfl,sF ⟨⟨_,rfl⟩,sl.trans s'⟩⟩⟩
    .rintro σ G ⟨⟨v9',rfl⟩,sl⟩
     exact⟨⟨_,_,_,_,_,_,_,_,_,rfl⟩,by lia,sl.seq hS6',sl _ _ gS6',sl _ _ gD6',sl _ _ gK6',m7,kv7,W7.same sl⟩
  .rintro σ G1 ⟨⟨v1,v5,v6,v7,v8,v9,v10,v11,v12,rfl⟩,_⟩
   exact k _
end
def bB(K:W.Frag)(x:Str)(st:Stmt)(f:Addr):Prop:=∃(oc:Value)(od:Option Addr)(kV doc pm:Value)(an:Option Addr)(cdv ct:Value)(osl:Array (Option Value)),K.lookup f=some ⟨oc,od,.func (W.fnOf x x (gC st) (dw st) (ar st) .none kV doc pm an cdv ct),osl⟩/\W.codeIn K cdv x=true/\W.keepIn K (.ref f)=true
theorem bB.fn {K:W.Frag}{x:Str}{st:Stmt}{f:Addr}(d:bB K x st f):∃fd,dh K x x st f fd:=by
 obtain⟨oc,od,kV,doc,pm,an,cdv,ct,osl,l,c,k⟩:=d
 exact⟨_,u4 l c k⟩
section
variable{P:Program}{w:World}{K:W.Frag}{mg:Str->Option Value}{base:Heap}{x q:Str}{st:Stmt}{k:Nat}{ps:List Str}{sp:Sp}{f:Addr}{fd:FuncData}
theorem GN{CX:sf}(F:dh K x q st f fd)(no:∀vs H Q E,sp vs H Q E->False):aR P w K mg base CX k f fd ps sp:=
 ⟨fun vs H Q E h=>(no vs H Q E h).elim,fun _ _ _ H _ _ vs Q E _ _ _ _ h=>(no vs H Q E h).elim⟩
theorem vq{ps:List Str}(F:iB P w K mg base (jG P w) k f fd ps sp)(h:k<=20)(kp:W.keepIn K (.ref f)=true)(b:Binds K fd ps []):F8 P w K mg base 20 f sp:=⟨⟨fd,ps,F.mono h,kp,b⟩⟩
theorem yN{ps:List Str}(F:dh K x q st f fd)(kp:W.keepIn K (.ref f)=true)(b:Binds K fd ps [])(no:∀vs H Q E,sp vs H Q E->False):F8 P w K mg base 20 f sp:=⟨⟨fd,ps,(GN (CX:=jG P w) (k:=20) (ps:=ps) F no).toQ,kp,b⟩⟩
end
def JU(K:W.Frag)(p:Str×List Str)(q:Str×Addr):Prop:=p.1=q.1/\p.2.length<=10/\∃(o:Obj)(its:Array Value)(n:Nat),K.lookup q.2=some o/\o.cls= .type "tuple"/\o.data= .seq its n/\its.size<=sizeLine/\Vals (p.2.map V.str) its.toList
theorem xC{K:W.Frag}(w:Str):∀{ps:List (Str×List Str)}{qs:List (Str×Addr)},Paired (JU K) ps qs->((ps.find? fun p=>p.1=w).map (·.2)=none/\tabOf qs w=none)\/∃xs b,(ps.find? fun p=>p.1=w).map (·.2)=some xs/\tabOf qs w=some b/\xs.length<=10/\∀H,e8 K H b (xs.map V.str)
 |_,_,.nil=> .inl ⟨rfl,rfl⟩
 |_,_,.cons (a:=p) (b:=q) h r=>by
  by_cases c:p.1=w
  .refine .inr ⟨p.2,q.2,?_,?_,h.2.1,fun H=> .inr h.2.2⟩
   .rw[List.find?_cons_of_pos (by simpa using c)];rfl
   .unfold tabOf
    rw[List.find?_cons_of_pos (by rw[←h.1];simpa using c)];rfl
  .have e1:=xC w r
   unfold tabOf at e1⊢
   rw[List.find?_cons_of_neg (by simpa using c),List.find?_cons_of_neg (by rw[←h.1];simpa using c)]
   exact e1
theorem tU{f:Addr}{w:Str}:∀{qs:List (Str×Addr)},tabOf qs w=some f->(w,f)∈qs
 |[],h=>by cases h
 |p::r,h=>by
  unfold tabOf at h
  by_cases c:p.1=w
  .rw[List.find?_cons_of_pos (by simpa using c)]at h
   cases h
   rw[←c]
   exact List.mem_cons_self
  .rw[List.find?_cons_of_neg (by simpa using c)]at h
   exact List.mem_cons_of_mem _ (tU h)
theorem AZ{K:W.Frag}{okd:Str->Bool}{ans:Str->Int->List Wd->Option (Except Addr Str)}{U:Str->Bool}{CT CN CB CM:Addr}{wC ansA:List (Str×Addr)}(hd:Paired (JU K) IB wC)(ha:ansA.map (·.1)=Bn):LL K (pC okd ans U CT CN CB CM) wC ansA:=
 ⟨fun w=>xC w hd,fun w=>by rw[E2,ha];rfl,fun n w x h=>by
  have q:=xq (n:=n) (d:=NX "name") (w:=w) (by decide+kernel) (by decide+kernel) (by decide+kernel)
  by_cases c:isNm w
  .exact⟨w,Option.some.inj (h.symm.trans (q.1 c))⟩
  .rw[show dY n (NX "name") w=some x from h]at q
   cases q.2 c⟩
theorem all_mk{l:W.OpenLaw}{w:World}{K:W.Frag}{h:Heap}{mg:Str->Option Value}{fa:Addr}{eI fX jH:Tok}{AD AA bq0 bq1 bq2 bq3 bq4 bq5 bq6 bq7 bq8 bq9 bq10 bq11 bq12 bq13 bq14 bq15 bq16 bq17 bq18 bq19 bq20 cD UU:Addr}{tq0 tq1 tq2 tq3 tq4 tq5 tq6 tq7 tq8 tq9 tq10 tq11 tq12 tq13 tq14 tq15 tq16 tq17 tq18 tq19 tq20 tr0_0 tr0_1 tr1_0 tr1_1 tr2_0 tr2_1 tr3_0 tr3_1 tr4_0 tr4_1 tr4_2 tr5_0 tr5_1 tr6_0 tr6_1 tr7_0 tr8_0 tr9_0 tr10_0 tr11_0 tr12_0 tr13_0 tr14_0 tr14_1 tr15_0 tr16_0 tr17_0 tr17_1 tr18_0 tr18_1 tr19_0 tr19_1 ts0 ts1 ts2 ts3 ts4 ts5 ts6 ts7 ts8 ts9 ts10 ts11 tkL tc0 td0 tc1 td1:Tok}{epD epA ep2:Nat}{fmI:Addr}{odmI anmI:Option Addr}{slmI:Array (Option Value)}{ocmI kVmI dcmI pmmI cdmI ctmI:Value}{fmR:Addr}{odmR anmR:Option Addr}{slmR:Array (Option Value)}{ocmR kVmR dcmR pmmR cdmR ctmR:Value}{fmY:Addr}{odmY anmY:Option Addr}{slmY:Array (Option Value)}{ocmY kVmY dcmY pmmY cdmY ctmY:Value}(X:K.In h)(G:h.Ns mainGlobals mg)(hfa:mg "law" =some (.ref fa))
  {f0 f1 f2 f3 f4 f5 f6 f7 f8 f9 f10 f11 f12 f13 f14 f15 f16 f17 f18 f19 f20 f21 f22 f23 f24 f25 f26 f27 f28 f29 f30 f31 f32 f33 f34 f35 f36 f37 f38 f39 f40 f41 f42 f43 f44 f45 f46 f47 f48 f49 f50 f51 f52 f53 f54:Addr}
  (a0:W.nsIn K mainGlobals "is_whole" =some (some (.ref f0))) (d0:bB K "is_whole" (top 15) f0)
  (a1:W.nsIn K mainGlobals "is_between" =some (some (.ref f1))) (d1:bB K "is_between" (top 16) f1)
  (a2:W.nsIn K mainGlobals "is_exchange" =some (some (.ref f2))) (d2:bB K "is_exchange" (top 30) f2)
  (a3:W.nsIn K mainGlobals "is_row" =some (some (.ref f3))) (d3:bB K "is_row" (top 31) f3)
  (a4:W.nsIn K mainGlobals "plain" =some (some (.ref f4))) (d4:bB K "plain" (top 21) f4)
  (a5:W.nsIn K mainGlobals "round_from" =some (some (.ref f5))) (d5:bB K "round_from" (top 23) f5)
  (a6:W.nsIn K mainGlobals "rounds" =some (some (.ref f6))) (d6:bB K "rounds" (top 24) f6)
  (a7:W.nsIn K mainGlobals "exchanged" =some (some (.ref f7))) (d7:bB K "exchanged" (top 32) f7)
  (a8:W.nsIn K mainGlobals "led" =some (some (.ref f8))) (d8:bB K "led" (top 33) f8)
  (a9:W.nsIn K mainGlobals "kind" =some (some (.ref f9))) (d9:bB K "kind" (top 25) f9)
  (a10:W.nsIn K mainGlobals "is_least" =some (some (.ref f10))) (d10:bB K "is_least" (top 36) f10)
  (a11:W.nsIn K mainGlobals "parts" =some (some (.ref f11))) (d11:bB K "parts" (top 34) f11)
  (a12:W.nsIn K mainGlobals "holes" =some (some (.ref f12))) (d12:bB K "holes" (top 35) f12)
  (a13:W.nsIn K mainGlobals "star" =some (some (.ref f13))) (d13:bB K "star" (top 38) f13)
  (a14:W.nsIn K mainGlobals "home" =some (some (.ref f14))) (d14:bB K "home" (top 39) f14)
  (a15:W.nsIn K mainGlobals "carried" =some (some (.ref f15))) (d15:bB K "carried" (top 63) f15)
  (a16:W.nsIn K mainGlobals "moved" =some (some (.ref f16))) (d16:bB K "moved" (top 64) f16)
  (a17:W.nsIn K mainGlobals "show_things" =some (some (.ref f17))) (d17:bB K "show_things" (top 76) f17)
  (a18:W.nsIn K mainGlobals "show_order" =some (some (.ref f18))) (d18:bB K "show_order" (top 77) f18)
  (a19:W.nsIn K mainGlobals "show_sharing" =some (some (.ref f19))) (d19:bB K "show_sharing" (top 79) f19)
  (a20:W.nsIn K mainGlobals "check_text" =some (some (.ref f20))) (d20:bB K "check_text" (top 80) f20)
  (a21:W.nsIn K mainGlobals "read_number" =some (some (.ref f21))) (d21:bB K "read_number" (top 81) f21)
  (a22:W.nsIn K mainGlobals "read_row" =some (some (.ref f22))) (d22:bB K "read_row" (top 85) f22)
  (a23:W.nsIn K mainGlobals "read_order" =some (some (.ref f23))) (d23:bB K "read_order" (top 84) f23)
  (a24:W.nsIn K mainGlobals "one_word" =some (some (.ref f24))) (d24:bB K "one_word" (top 94) f24)
  (a25:W.nsIn K mainGlobals "with_commas" =some (some (.ref f25))) (d25:bB K "with_commas" (top 95) f25)
  (a26:W.nsIn K mainGlobals "check_name" =some (some (.ref f26))) (d26:bB K "check_name" (top 96) f26)
  (a27:W.nsIn K mainGlobals "read_word" =some (some (.ref f27))) (d27:bB K "read_word" (top 97) f27)
  (a28:W.nsIn K mainGlobals "row_due" =some (some (.ref f28))) (d28:bB K "row_due" (top 98) f28)
  (a29:W.nsIn K mainGlobals "show_order_of" =some (some (.ref f29))) (d29:bB K "show_order_of" (top 99) f29)
  (a30:W.nsIn K mainGlobals "show_kind" =some (some (.ref f30))) (d30:bB K "show_kind" (top 100) f30)
  (a31:W.nsIn K mainGlobals "show_least" =some (some (.ref f31))) (d31:bB K "show_least" (top 101) f31)
  (a32:W.nsIn K mainGlobals "show_parts" =some (some (.ref f32))) (d32:bB K "show_parts" (top 102) f32)
  (a33:W.nsIn K mainGlobals "show_holes" =some (some (.ref f33))) (d33:bB K "show_holes" (top 103) f33)
  (a34:W.nsIn K mainGlobals "show_lead" =some (some (.ref f34))) (d34:bB K "show_lead" (top 104) f34)
  (a35:W.nsIn K mainGlobals "show_tree" =some (some (.ref f35))) (d35:bB K "show_tree" (top 106) f35)
  (a36:W.nsIn K mainGlobals "show_cars" =some (some (.ref f36))) (d36:bB K "show_cars" (top 107) f36)
  (a37:W.nsIn K mainGlobals "show_begun" =some (some (.ref f37))) (d37:bB K "show_begun" (top 108) f37)
  (a38:W.nsIn K mainGlobals "show_count" =some (some (.ref f38))) (d38:bB K "show_count" (top 110) f38)
  (a39:W.nsIn K mainGlobals "show_joined" =some (some (.ref f39))) (d39:bB K "show_joined" (top 111) f39)
  (a40:W.nsIn K mainGlobals "show_kept" =some (some (.ref f40))) (d40:bB K "show_kept" (top 112) f40)
  (a41:W.nsIn K mainGlobals "_law_purse" =some (some (.ref f41))) (d41:bB K "_law_purse" (top 116) f41)
  (a42:W.nsIn K mainGlobals "_law_take" =some (some (.ref f42))) (d42:bB K "_law_take" (top 117) f42)
  (a43:W.nsIn K mainGlobals "_law_row" =some (some (.ref f43))) (d43:bB K "_law_row" (top 118) f43)
  (a44:W.nsIn K mainGlobals "_law_led" =some (some (.ref f44))) (d44:bB K "_law_led" (top 119) f44)
  (a45:W.nsIn K mainGlobals "_law_rounds" =some (some (.ref f45))) (d45:bB K "_law_rounds" (top 120) f45)
  (a46:W.nsIn K mainGlobals "_law_moved" =some (some (.ref f46))) (d46:bB K "_law_moved" (top 121) f46)
  (a47:W.nsIn K mainGlobals "_law_parts" =some (some (.ref f47))) (d47:bB K "_law_parts" (top 122) f47)
  (a48:W.nsIn K mainGlobals "_law_row_word" =some (some (.ref f48))) (d48:bB K "_law_row_word" (top 123) f48)
  (a49:W.nsIn K mainGlobals "_law_order_word" =some (some (.ref f49))) (d49:bB K "_law_order_word" (top 124) f49)
  (a50:W.nsIn K mainGlobals "_law_answers" =some (some (.ref f50))) (d50:bB K "_law_answers" (top 125) f50)
  (a51:W.nsIn K mainGlobals "_law_say" =some (some (.ref f51))) (d51:bB K "_law_say" (top 126) f51)
  (a52:W.nsIn K mainGlobals "_law_told" =some (some (.ref f52))) (d52:bB K "_law_told" (top 127) f52)
  (a53:W.nsIn K mainGlobals "_law_right" =some (some (.ref f53))) (d53:bB K "_law_right" (top 128) f53)
  (a54:W.nsIn K mainGlobals "law" =some (some (.ref f54))) (d54:bB K "law" (top 129) f54)
  (xH:W.nsIn K mainGlobals "len" =some none)
  (xI:W.nsIn K mainGlobals "abs" =some none)
  (xJ:W.nsIn K mainGlobals "int" =some none)
  (xK:W.nsIn K mainGlobals "all" =some none)
  (cW:W.nsIn K mainGlobals "isinstance" =some none)
  (rO:W.nsIn K mainGlobals "bool" =some none)
  (nG:W.nsIn K mainGlobals "tuple" =some none)
  (rP:W.nsIn K mainGlobals "list" =some none)
  (nH:W.nsIn K mainGlobals "range" =some none)
  (pq:W.nsIn K mainGlobals "min" =some none)
  (rQ:W.nsIn K mainGlobals "max" =some none)
  (dm:W.nsIn K mainGlobals "sorted" =some none)
  (xM:W.nsIn K mainGlobals "zip" =some none)
  (kn:W.nsIn K mainGlobals "str" =some none)
  (eJ:W.nsIn K mainGlobals "ValueError" =some none)
  {nI jh bJ ko ji jj nJ nK lh iQ kq bu dP:Addr}
  (oO:W.nsIn K mainGlobals "Unlike" =some (some (.ref nI)))
  (kr:W.nsIn K mainGlobals "NoRounds" =some (some (.ref jh)))
  (rR:W.nsIn K mainGlobals "Apart" =some (some (.ref bJ)))
  (oP:W.nsIn K mainGlobals "NoMove" =some (some (.ref ko)))
  (ku:W.nsIn K mainGlobals "NotLeast" =some (some (.ref ji)))
  (kA:W.nsIn K mainGlobals "NotGreat" =some (some (.ref jj)))
  (oQ:W.nsIn K mainGlobals "NoTree" =some (some (.ref nJ)))
  (oR:W.nsIn K mainGlobals "NoCars" =some (some (.ref nK)))
  (mq:W.nsIn K mainGlobals "NoChain" =some (some (.ref lh)))
  (mr:W.nsIn K mainGlobals "NoBound" =some (some (.ref iQ)))
  (oS:W.nsIn K mainGlobals "NoText" =some (some (.ref kq)))
  (oU:W.nsIn K mainGlobals "NoName" =some (some (.ref bu)))
  (jk:W.nsIn K mainGlobals "StarError" =some (some (.ref dP)))
  (rS:iH K bJ)
  (rT:sJ K bJ)
  (rV:W.kitOne K (.ref bJ) (.type "ValueError")=some true)
  (fY:W.kitOne K (.ref bJ) (.ref nI)=some false)
  (eK:W.kitOne K (.ref bJ) (.ref jh)=some false)
  (gW:W.kitOne K (.ref bJ) (.ref bJ)=some true)
  (fZ:W.kitOne K (.ref bJ) (.ref ko)=some false)
  (eN:W.kitOne K (.ref bJ) (.ref ji)=some false)
  (eO:W.kitOne K (.ref bJ) (.ref jj)=some false)
  (gc:W.kitOne K (.ref bJ) (.ref nJ)=some false)
  (gf:W.kitOne K (.ref bJ) (.ref nK)=some false)
  (fj:W.kitOne K (.ref bJ) (.ref lh)=some false)
  (fm:W.kitOne K (.ref bJ) (.ref iQ)=some false)
  (gh:W.kitOne K (.ref bJ) (.ref kq)=some false)
  (gj:W.kitOne K (.ref bJ) (.ref bu)=some false)
  (gX:W.kitOne K (.ref bJ) (.ref dP)=some true)
  (dF:CK K bJ dP true)
  (oV:iH K bu)
  (oW:sJ K bu)
  (oX:W.kitOne K (.ref bu) (.type "ValueError")=some true)
  (fo:W.kitOne K (.ref bu) (.ref nI)=some false)
  (dG:W.kitOne K (.ref bu) (.ref jh)=some false)
  (gk:W.kitOne K (.ref bu) (.ref bJ)=some false)
  (fu:W.kitOne K (.ref bu) (.ref ko)=some false)
  (dH:W.kitOne K (.ref bu) (.ref ji)=some false)
  (dI:W.kitOne K (.ref bu) (.ref jj)=some false)
  (fz:W.kitOne K (.ref bu) (.ref nJ)=some false)
  (fB:W.kitOne K (.ref bu) (.ref nK)=some false)
  (eQ:W.kitOne K (.ref bu) (.ref lh)=some false)
  (eR:W.kitOne K (.ref bu) (.ref iQ)=some false)
  (fC:W.kitOne K (.ref bu) (.ref kq)=some false)
  (fF:W.kitOne K (.ref bu) (.ref bu)=some true)
  (gA:W.kitOne K (.ref bu) (.ref dP)=some true)
  (cZ:CK K bu dP true)
  (eT:W.nsIn K mainGlobals "MOST_EXCHANGES" =some (some (.int 60 eI)))
  (gn:W.nsIn K mainGlobals "MOST_FIGURES" =some (some (.int 9 fX)))
  (gp:W.nsIn K mainGlobals "MOST_LETTERS" =some (some (.int 8 jH)))
  (aDUE:W.nsIn K mainGlobals "DUE" =some (some (.ref AD)))
  (lDUE:K.lookup AD=some {cls:= .type "dict",data:= .dict [{hash:=PyData.keyHash w.params (NX "row"),key:= .str (NX "row") tq0,val:= .ref bq0},{hash:=PyData.keyHash w.params (NX "star"),key:= .str (NX "star") tq1,val:= .ref bq1},{hash:=PyData.keyHash w.params (NX "home"),key:= .str (NX "home") tq2,val:= .ref bq2},{hash:=PyData.keyHash w.params (NX "copy"),key:= .str (NX "copy") tq3,val:= .ref bq3},{hash:=PyData.keyHash w.params (NX "join"),key:= .str (NX "join") tq4,val:= .ref bq4},{hash:=PyData.keyHash w.params (NX "forth"),key:= .str (NX "forth") tq5,val:= .ref bq5},{hash:=PyData.keyHash w.params (NX "back"),key:= .str (NX "back") tq6,val:= .ref bq6},{hash:=PyData.keyHash w.params (NX "drop"),key:= .str (NX "drop") tq7,val:= .ref bq7},{hash:=PyData.keyHash w.params (NX "show"),key:= .str (NX "show") tq8,val:= .ref bq8},{hash:=PyData.keyHash w.params (NX "order"),key:= .str (NX "order") tq9,val:= .ref bq9},{hash:=PyData.keyHash w.params (NX "kind"),key:= .str (NX "kind") tq10,val:= .ref bq10},{hash:=PyData.keyHash w.params (NX "least"),key:= .str (NX "least") tq11,val:= .ref bq11},{hash:=PyData.keyHash w.params (NX "parts"),key:= .str (NX "parts") tq12,val:= .ref bq12},{hash:=PyData.keyHash w.params (NX "holes"),key:= .str (NX "holes") tq13,val:= .ref bq13},{hash:=PyData.keyHash w.params (NX "lead"),key:= .str (NX "lead") tq14,val:= .ref bq14},{hash:=PyData.keyHash w.params (NX "tree"),key:= .str (NX "tree") tq15,val:= .ref bq15},{hash:=PyData.keyHash w.params (NX "cars"),key:= .str (NX "cars") tq16,val:= .ref bq16},{hash:=PyData.keyHash w.params (NX "begun"),key:= .str (NX "begun") tq17,val:= .ref bq17},{hash:=PyData.keyHash w.params (NX "count"),key:= .str (NX "count") tq18,val:= .ref bq18},{hash:=PyData.keyHash w.params (NX "joined"),key:= .str (NX "joined") tq19,val:= .ref bq19},{hash:=PyData.keyHash w.params (NX "names"),key:= .str (NX "names") tq20,val:= .ref bq20}].toArray epD})
  (sDUE:(AD==sysModules)=false)
  (lq0:K.lookup bq0=some {cls:= .type "tuple",data:= .seq [.str (NX "new") tr0_0,.str (NX "row") tr0_1].toArray})
  (lq1:K.lookup bq1=some {cls:= .type "tuple",data:= .seq [.str (NX "new") tr1_0,.str (NX "order") tr1_1].toArray})
  (lq2:K.lookup bq2=some {cls:= .type "tuple",data:= .seq [.str (NX "new") tr2_0,.str (NX "order") tr2_1].toArray})
  (lq3:K.lookup bq3=some {cls:= .type "tuple",data:= .seq [.str (NX "new") tr3_0,.str (NX "name") tr3_1].toArray})
  (lq4:K.lookup bq4=some {cls:= .type "tuple",data:= .seq [.str (NX "new") tr4_0,.str (NX "name") tr4_1,.str (NX "name") tr4_2].toArray})
  (lq5:K.lookup bq5=some {cls:= .type "tuple",data:= .seq [.str (NX "name") tr5_0,.str (NX "number") tr5_1].toArray})
  (lq6:K.lookup bq6=some {cls:= .type "tuple",data:= .seq [.str (NX "name") tr6_0,.str (NX "number") tr6_1].toArray})
  (lq7:K.lookup bq7=some {cls:= .type "tuple",data:= .seq [.str (NX "name") tr7_0].toArray})
  (lq8:K.lookup bq8=some {cls:= .type "tuple",data:= .seq [.str (NX "name") tr8_0].toArray})
  (lq9:K.lookup bq9=some {cls:= .type "tuple",data:= .seq [.str (NX "name") tr9_0].toArray})
  (lq10:K.lookup bq10=some {cls:= .type "tuple",data:= .seq [.str (NX "name") tr10_0].toArray})
  (lq11:K.lookup bq11=some {cls:= .type "tuple",data:= .seq [.str (NX "name") tr11_0].toArray})
  (lq12:K.lookup bq12=some {cls:= .type "tuple",data:= .seq [.str (NX "name") tr12_0].toArray})
  (lq13:K.lookup bq13=some {cls:= .type "tuple",data:= .seq [.str (NX "name") tr13_0].toArray})
  (lq14:K.lookup bq14=some {cls:= .type "tuple",data:= .seq [.str (NX "name") tr14_0,.str (NX "name") tr14_1].toArray})
  (lq15:K.lookup bq15=some {cls:= .type "tuple",data:= .seq [.str (NX "name") tr15_0].toArray})
  (lq16:K.lookup bq16=some {cls:= .type "tuple",data:= .seq [.str (NX "name") tr16_0].toArray})
  (lq17:K.lookup bq17=some {cls:= .type "tuple",data:= .seq [.str (NX "name") tr17_0,.str (NX "number") tr17_1].toArray})
  (lq18:K.lookup bq18=some {cls:= .type "tuple",data:= .seq [.str (NX "name") tr18_0,.str (NX "number") tr18_1].toArray})
  (lq19:K.lookup bq19=some {cls:= .type "tuple",data:= .seq [.str (NX "name") tr19_0,.str (NX "number") tr19_1].toArray})
  (lq20:K.lookup bq20=some {cls:= .type "tuple",data:= .seq [].toArray})
  (aANS:W.nsIn K mainGlobals "ANSWERS" =some (some (.ref AA)))
  (lANS:K.lookup AA=some {cls:= .type "dict",data:= .dict [{hash:=PyData.keyHash w.params (NX "show"),key:= .str (NX "show") ts0,val:= .ref f40},{hash:=PyData.keyHash w.params (NX "order"),key:= .str (NX "order") ts1,val:= .ref f29},{hash:=PyData.keyHash w.params (NX "kind"),key:= .str (NX "kind") ts2,val:= .ref f30},{hash:=PyData.keyHash w.params (NX "least"),key:= .str (NX "least") ts3,val:= .ref f31},{hash:=PyData.keyHash w.params (NX "parts"),key:= .str (NX "parts") ts4,val:= .ref f32},{hash:=PyData.keyHash w.params (NX "holes"),key:= .str (NX "holes") ts5,val:= .ref f33},{hash:=PyData.keyHash w.params (NX "lead"),key:= .str (NX "lead") ts6,val:= .ref f34},{hash:=PyData.keyHash w.params (NX "tree"),key:= .str (NX "tree") ts7,val:= .ref f35},{hash:=PyData.keyHash w.params (NX "cars"),key:= .str (NX "cars") ts8,val:= .ref f36},{hash:=PyData.keyHash w.params (NX "begun"),key:= .str (NX "begun") ts9,val:= .ref f37},{hash:=PyData.keyHash w.params (NX "count"),key:= .str (NX "count") ts10,val:= .ref f38},{hash:=PyData.keyHash w.params (NX "joined"),key:= .str (NX "joined") ts11,val:= .ref f39}].toArray epA})
  (sANS:(AA==sysModules)=false)
  (mv:W.nsIn K mainGlobals "LETTERS" =some (some (.str (NX "abcdefghijklmnopqrstuvwxyz") tkL)))
  (aDesk:W.nsIn K mainGlobals "Desk" =some (some (.ref cD)))
  (cpg:W.plainGet K cD Str.empty=true)
  (chd:W.hasDictIn K cD=true)
  (cpo:W.plainOver K cD=true)
  (csa:W.findIn K (.ref cD) "__setattr__" =some (some (.builtin "object.__setattr__")))
  (cno:W.findIn K (.ref cD) "n" =some none)
  (cnk:W.findIn K (.ref cD) "kept" =some none)
  (cmk:W.makesIn K cD=true)
  (ckp:W.keepIn K (.ref cD)=true)
  (amI:W.findIn K (.ref cD) "__init__" =some (some (.ref fmI)))
  (fnmI:W.isFn K (.ref fmI)=true)
  (kmI:W.keepIn K (.ref fmI)=true)
  (lmI:K.lookup fmI=some ⟨ocmI,odmI,.func (W.fnOf "__init__" "Desk.__init__" (gC (mem (top 114) 0)) (dw (mem (top 114) 0)) (ar (mem (top 114) 0)) .none kVmI dcmI pmmI anmI cdmI ctmI),slmI⟩)
  (cmI:W.codeIn K cdmI "Desk.__init__" =true)
  (amR:W.findIn K (.ref cD) "row_of" =some (some (.ref fmR)))
  (fnmR:W.isFn K (.ref fmR)=true)
  (kmR:W.keepIn K (.ref fmR)=true)
  (lmR:K.lookup fmR=some ⟨ocmR,odmR,.func (W.fnOf "row_of" "Desk.row_of" (gC (mem (top 114) 1)) (dw (mem (top 114) 1)) (ar (mem (top 114) 1)) .none kVmR dcmR pmmR anmR cdmR ctmR),slmR⟩)
  (cmR:W.codeIn K cdmR "Desk.row_of" =true)
  (amY:W.findIn K (.ref cD) "say" =some (some (.ref fmY)))
  (fnmY:W.isFn K (.ref fmY)=true)
  (kmY:W.keepIn K (.ref fmY)=true)
  (lmY:K.lookup fmY=some ⟨ocmY,odmY,.func (W.fnOf "say" "Desk.say" (gC (mem (top 114) 2)) (dw (mem (top 114) 2)) (ar (mem (top 114) 2)) .none kVmY dcmY pmmY anmY cdmY ctmY),slmY⟩)
  (cmY:W.codeIn K cdmY "Desk.say" =true)
  (oY:iH K kq)
  (oZ:iH K ko)
  (mw:iH K iQ)
  (au2:W.nsIn K mainGlobals "UNDOING" =some (some (.ref UU)))
  (lu2:K.lookup UU=some {cls:= .type "dict",data:= .dict [{hash:=PyData.keyHash w.params (NX "forth"),key:= .str (NX "forth") tc0,val:= .str (NX "back") td0},{hash:=PyData.keyHash w.params (NX "back"),key:= .str (NX "back") tc1,val:= .str (NX "forth") td1}].toArray ep2})
  (su2:(UU==sysModules)=false)
  (kib:W.kitOne K (.type "int") (.type "bool")=some false):
  ∃fd:FuncData,(∀(s:Shared)(v:Value),BindsTo s fd ⟨[v],[]⟩ [("_law_script",v)])/\∀base:Heap,K.In base->base.Ns mainGlobals mg->aR l.prog w K mg base hZ 33 fa fd ["_law_script"] (Af K):=by
 obtain⟨_,mx⟩:=d0.fn
 have zf:=mx.binds (ps:=["thing"]) fun _ _ _ _ _ _ us hl=>match us,hl with|[_],_=>rfl
 have zg:=W.mg_of X G a0
 obtain⟨_,eU⟩:=d1.fn
 have nM:=eU.binds (ps:=["thing","low","high"]) fun _ _ _ _ _ _ us hl=>match us,hl with|[_,_,_],_=>rfl
 have nN:=W.mg_of X G a1
 obtain⟨_,iu⟩:=d2.fn
 have sX:=iu.binds (ps:=["n","thing"]) fun _ _ _ _ _ _ us hl=>match us,hl with|[_,_],_=>rfl
 have sY:=W.mg_of X G a2
 obtain⟨_,rW⟩:=d3.fn
 have EK:=rW.binds (ps:=["n","thing"]) fun _ _ _ _ _ _ us hl=>match us,hl with|[_,_],_=>rfl
 have EL:=W.mg_of X G a3
 obtain⟨_,vb⟩:=d4.fn
 have GO:=vb.binds (ps:=["n"]) fun _ _ _ _ _ _ us hl=>match us,hl with|[_],_=>rfl
 have GP:=W.mg_of X G a4
 obtain⟨_,jm⟩:=d5.fn
 have vc:=jm.binds (ps:=["order","first"]) fun _ _ _ _ _ _ us hl=>match us,hl with|[_,_],_=>rfl
 have vd:=W.mg_of X G a5
 obtain⟨_,rX⟩:=d6.fn
 have EM:=rX.binds (ps:=["order"]) fun _ _ _ _ _ _ us hl=>match us,hl with|[_],_=>rfl
 have EN:=W.mg_of X G a6
 obtain⟨_,fR⟩:=d7.fn
 have pA:=fR.binds (ps:=["exchange","thing"]) fun _ _ _ _ _ _ us hl=>match us,hl with|[_,_],_=>rfl
 have pB:=W.mg_of X G a7
 obtain⟨_,EO⟩:=d8.fn
 have Mb:=EO.binds (ps:=["n","row"]) fun _ _ _ _ _ _ us hl=>match us,hl with|[_,_],_=>rfl
 have Mc:=W.mg_of X G a8
 obtain⟨_,zh⟩:=d9.fn
 have Kb:=zh.binds (ps:=["order"]) fun _ _ _ _ _ _ us hl=>match us,hl with|[_],_=>rfl
 have Kc:=W.mg_of X G a9
 obtain⟨_,my⟩:=d10.fn
 have zi:=my.binds (ps:=["n","row"]) fun _ _ _ _ _ _ us hl=>match us,hl with|[_,_],_=>rfl
 have zj:=W.mg_of X G a10
 obtain⟨_,vf⟩:=d11.fn
 have GQ:=vf.binds (ps:=["n","row"]) fun _ _ _ _ _ _ us hl=>match us,hl with|[_,_],_=>rfl
 have GR:=W.mg_of X G a11
 obtain⟨_,vg⟩:=d12.fn
 have GS:=vg.binds (ps:=["n","row"]) fun _ _ _ _ _ _ us hl=>match us,hl with|[_,_],_=>rfl
 have GU:=W.mg_of X G a12
 obtain⟨_,zk⟩:=d13.fn
 have Kd:=zk.binds (ps:=["order"]) fun _ _ _ _ _ _ us hl=>match us,hl with|[_],_=>rfl
 have Ke:=W.mg_of X G a13
 obtain⟨_,zl⟩:=d14.fn
 have Kf:=zl.binds (ps:=["order"]) fun _ _ _ _ _ _ us hl=>match us,hl with|[_],_=>rfl
 have Kg:=W.mg_of X G a14
 obtain⟨_,o4⟩:=d15.fn
 have BZ:=o4.binds (ps:=["exchange","other"]) fun _ _ _ _ _ _ us hl=>match us,hl with|[_,_],_=>rfl
 have B0:=W.mg_of X G a15
 obtain⟨_,vh⟩:=d16.fn
 have GV:=vh.binds (ps:=["row","k","way"]) fun _ _ _ _ _ _ us hl=>match us,hl with|[_,_,_],_=>rfl
 have GW:=W.mg_of X G a16
 obtain⟨_,dn⟩:=d17.fn
 have lN:=dn.binds (ps:=["things"]) fun _ _ _ _ _ _ us hl=>match us,hl with|[_],_=>rfl
 have lO:=W.mg_of X G a17
 obtain⟨_,jo⟩:=d18.fn
 have vi:=jo.binds (ps:=["order"]) fun _ _ _ _ _ _ us hl=>match us,hl with|[_],_=>rfl
 have vj:=W.mg_of X G a18
 obtain⟨_,gY⟩:=d19.fn
 have rY:=gY.binds (ps:=["sharing"]) fun _ _ _ _ _ _ us hl=>match us,hl with|[_],_=>rfl
 have rZ:=W.mg_of X G a19
 obtain⟨_,eV⟩:=d20.fn
 have nO:=eV.binds (ps:=["thing"]) fun _ _ _ _ _ _ us hl=>match us,hl with|[_],_=>rfl
 have nP:=W.mg_of X G a20
 obtain⟨_,cf⟩:=d21.fn
 have iw:=cf.binds (ps:=["word"]) fun _ _ _ _ _ _ us hl=>match us,hl with|[_],_=>rfl
 have iy:=W.mg_of X G a21
 obtain⟨_,jq⟩:=d22.fn
 have zm:=jq.binds (ps:=["n","text"]) fun _ _ _ _ _ _ us hl=>match us,hl with|[_,_],_=>rfl
 have zo:=W.mg_of X G a22
 obtain⟨_,jr⟩:=d23.fn
 have vk:=jr.binds (ps:=["text"]) fun _ _ _ _ _ _ us hl=>match us,hl with|[_],_=>rfl
 have vm:=W.mg_of X G a23
 obtain⟨_,mz⟩:=d24.fn
 have zp:=mz.binds (ps:=["text"]) fun _ _ _ _ _ _ us hl=>match us,hl with|[_],_=>rfl
 have zq:=W.mg_of X G a24
 obtain⟨_,dq⟩:=d25.fn
 have lP:=dq.binds (ps:=["words"]) fun _ _ _ _ _ _ us hl=>match us,hl with|[_],_=>rfl
 have lQ:=W.mg_of X G a25
 obtain⟨_,jt⟩:=d26.fn
 have vn:=jt.binds (ps:=["word"]) fun _ _ _ _ _ _ us hl=>match us,hl with|[_],_=>rfl
 have vo:=W.mg_of X G a26
 obtain⟨_,kB⟩:=d27.fn
 have xN:=kB.binds (ps:=["n","due","word"]) fun _ _ _ _ _ _ us hl=>match us,hl with|[_,_,_],_=>rfl
 have xO:=W.mg_of X G a27
 obtain⟨_,o5⟩:=d28.fn
 have B1:=o5.binds (ps:=["word","given"]) fun _ _ _ _ _ _ us hl=>match us,hl with|[_,_],_=>rfl
 have B2:=W.mg_of X G a28
 obtain⟨_,gu⟩:=d29.fn
 have pI:=gu.binds (ps:=["n","given"]) fun _ _ _ _ _ _ us hl=>match us,hl with|[_,_],_=>rfl
 have Ce:=W.mg_of X G a29
 obtain⟨_,kC⟩:=d30.fn
 have xP:=kC.binds (ps:=["n","given"]) fun _ _ _ _ _ _ us hl=>match us,hl with|[_,_],_=>rfl
 have Ig:=W.mg_of X G a30
 obtain⟨_,ju⟩:=d31.fn
 have vp:=ju.binds (ps:=["n","given"]) fun _ _ _ _ _ _ us hl=>match us,hl with|[_,_],_=>rfl
 have GX:=W.mg_of X G a31
 obtain⟨_,jv⟩:=d32.fn
 have vt:=jv.binds (ps:=["n","given"]) fun _ _ _ _ _ _ us hl=>match us,hl with|[_,_],_=>rfl
 have GY:=W.mg_of X G a32
 obtain⟨_,jx⟩:=d33.fn
 have vv:=jx.binds (ps:=["n","given"]) fun _ _ _ _ _ _ us hl=>match us,hl with|[_,_],_=>rfl
 have GZ:=W.mg_of X G a33
 obtain⟨_,kD⟩:=d34.fn
 have xQ:=kD.binds (ps:=["n","given"]) fun _ _ _ _ _ _ us hl=>match us,hl with|[_,_],_=>rfl
 have Ih:=W.mg_of X G a34
 obtain⟨_,kF⟩:=d35.fn
 have xR:=kF.binds (ps:=["n","given"]) fun _ _ _ _ _ _ us hl=>match us,hl with|[_,_],_=>rfl
 have Ii:=W.mg_of X G a35
 obtain⟨_,kG⟩:=d36.fn
 have xS:=kG.binds (ps:=["n","given"]) fun _ _ _ _ _ _ us hl=>match us,hl with|[_,_],_=>rfl
 have Ij:=W.mg_of X G a36
 obtain⟨_,jy⟩:=d37.fn
 have vw:=jy.binds (ps:=["n","given"]) fun _ _ _ _ _ _ us hl=>match us,hl with|[_,_],_=>rfl
 have G0:=W.mg_of X G a37
 obtain⟨_,jz⟩:=d38.fn
 have vA:=jz.binds (ps:=["n","given"]) fun _ _ _ _ _ _ us hl=>match us,hl with|[_,_],_=>rfl
 have Hc:=W.mg_of X G a38
 obtain⟨_,iz⟩:=d39.fn
 have sZ:=iz.binds (ps:=["n","given"]) fun _ _ _ _ _ _ us hl=>match us,hl with|[_,_],_=>rfl
 have EV:=W.mg_of X G a39
 obtain⟨_,kH⟩:=d40.fn
 have xT:=kH.binds (ps:=["n","given"]) fun _ _ _ _ _ _ us hl=>match us,hl with|[_,_],_=>rfl
 have Ik:=W.mg_of X G a40
 obtain⟨_,jA⟩:=d41.fn
 have vB:=jA.binds (ps:=["_law_script","_law_at"]) fun _ _ _ _ _ _ us hl=>match us,hl with|[_,_],_=>rfl
 have vC:=W.mg_of X G a41
 obtain⟨_,kI⟩:=d42.fn
 have xU:=kI.binds (ps:=["_law_purse_here","_law_many"]) fun _ _ _ _ _ _ us hl=>match us,hl with|[_,_],_=>rfl
 have xV:=W.mg_of X G a42
 obtain⟨_,mB⟩:=d43.fn
 have zr:=mB.binds (ps:=["_law_purse_here","_law_n","_law_most"]) fun _ _ _ _ _ _ us hl=>match us,hl with|[_,_,_],_=>rfl
 have zt:=W.mg_of X G a43
 obtain⟨_,mC⟩:=d44.fn
 have zu:=mC.binds (ps:=["_law_n","_law_row_here"]) fun _ _ _ _ _ _ us hl=>match us,hl with|[_,_],_=>rfl
 have zv:=W.mg_of X G a44
 obtain⟨_,iA⟩:=d45.fn
 have tf:=iA.binds (ps:=["_law_order"]) fun _ _ _ _ _ _ us hl=>match us,hl with|[_],_=>rfl
 have tj:=W.mg_of X G a45
 obtain⟨_,jB⟩:=d46.fn
 have vE:=jB.binds (ps:=["_law_row_here","_law_k","_law_way"]) fun _ _ _ _ _ _ us hl=>match us,hl with|[_,_,_],_=>rfl
 have vF:=W.mg_of X G a46
 obtain⟨_,jC⟩:=d47.fn
 have vG:=jC.binds (ps:=["_law_n","_law_row_here"]) fun _ _ _ _ _ _ us hl=>match us,hl with|[_,_],_=>rfl
 have vH:=W.mg_of X G a47
 obtain⟨_,gv⟩:=d48.fn
 have pJ:=gv.binds (ps:=["_law_row_here"]) fun _ _ _ _ _ _ us hl=>match us,hl with|[_],_=>rfl
 have pK:=W.mg_of X G a48
 obtain⟨_,eW⟩:=d49.fn
 have nQ:=eW.binds (ps:=["_law_order"]) fun _ _ _ _ _ _ us hl=>match us,hl with|[_],_=>rfl
 have nR:=W.mg_of X G a49
 obtain⟨_,gZ⟩:=d50.fn
 have r6:=gZ.binds (ps:=["_law_n","_law_row_here"]) fun _ _ _ _ _ _ us hl=>match us,hl with|[_,_],_=>rfl
 have r9:=W.mg_of X G a50
 obtain⟨_,mD⟩:=d51.fn
 have zw:=mD.binds (ps:=["_law_desk","_law_row_here"]) fun _ _ _ _ _ _ us hl=>match us,hl with|[_,_],_=>rfl
 have zx:=W.mg_of X G a51
 obtain⟨_,kJ⟩:=d52.fn
 have xW:=kJ.binds (ps:=["_law_purse_here","_law_n"]) fun _ _ _ _ _ _ us hl=>match us,hl with|[_,_],_=>rfl
 have xX:=W.mg_of X G a52
 obtain⟨_,jD⟩:=d53.fn
 have vI:=jD.binds (ps:=["_law_desk","_law_n","_law_kept"]) fun _ _ _ _ _ _ us hl=>match us,hl with|[_,_,_],_=>rfl
 have vJ:=W.mg_of X G a53
 obtain⟨fd_law,Il⟩:=d54.fn
 have Md:=W.mg_of X G a54
 have xH:=W.mg_none_of X G xH
 have xI:=W.mg_none_of X G xI
 have xJ:=W.mg_none_of X G xJ
 have xK:=W.mg_none_of X G xK
 have cW:=W.mg_none_of X G cW
 have rO:=W.mg_none_of X G rO
 have nG:=W.mg_none_of X G nG
 have rP:=W.mg_none_of X G rP
 have nH:=W.mg_none_of X G nH
 have pq:=W.mg_none_of X G pq
 have rQ:=W.mg_none_of X G rQ
 have dm:=W.mg_none_of X G dm
 have xM:=W.mg_none_of X G xM
 have kn:=W.mg_none_of X G kn
 have eJ:=W.mg_none_of X G eJ
 have B3:=W.mg_of X G oO
 have xY:=W.mg_of X G kr
 have ER:=W.mg_of X G rR
 have B4:=W.mg_of X G oP
 have xZ:=W.mg_of X G ku
 have x6:=W.mg_of X G kA
 have B5:=W.mg_of X G oQ
 have B6:=W.mg_of X G oR
 have zy:=W.mg_of X G mq
 have zA:=W.mg_of X G mr
 have B7:=W.mg_of X G oS
 have B8:=W.mg_of X G oU
 have vK:=W.mg_of X G jk
 have ik:=W.mg_of X G eT
 have pL:=W.mg_of X G gn
 have pM:=W.mg_of X G gp
 have e:=hfa.symm.trans Md
 cases e
 obtain⟨_,_,kV,dc,pm,an,cd,ct,_,rfl,_,_⟩:=id Il.ex
 refine⟨W.fnOf "law" "law" (gC (top 129)) (dw (top 129)) (ar (top 129)) .none kV dc pm an cd ct,fun s v=> .of_eq rfl,fun base _ _=>?_⟩
 have t0:ze mg:=⟨xH,xI,xJ⟩
 have t1:T1 mg K:={t0 with zG:=xK,aG:=cW,CU:=rO,hJ:=nG,va:=rP,cQ:=nH,MW:=kib}
 have Me:=W.mg_of X G aDUE
 have Mf:=W.mg_of X G aANS
 have B9:=W.mg_of X G mv
 have Kh:=W.mg_of X G aDesk
 have kd:KTab K w.params AD [((NX "row"),bq0),((NX "star"),bq1),((NX "home"),bq2),((NX "copy"),bq3),((NX "join"),bq4),((NX "forth"),bq5),((NX "back"),bq6),((NX "drop"),bq7),((NX "show"),bq8),((NX "order"),bq9),((NX "kind"),bq10),((NX "least"),bq11),((NX "parts"),bq12),((NX "holes"),bq13),((NX "lead"),bq14),((NX "tree"),bq15),((NX "cars"),bq16),((NX "begun"),bq17),((NX "count"),bq18),((NX "joined"),bq19),((NX "names"),bq20)]:=⟨sDUE,by show List.Nodup [(NX "row"),(NX "star"),(NX "home"),(NX "copy"),(NX "join"),(NX "forth"),(NX "back"),(NX "drop"),(NX "show"),(NX "order"),(NX "kind"),(NX "least"),(NX "parts"),(NX "holes"),(NX "lead"),(NX "tree"),(NX "cars"),(NX "begun"),(NX "count"),(NX "joined"),(NX "names")];decide+kernel,_,_,lDUE,(.cons (.cons (.cons (.cons (.cons (.cons (.cons (.cons (.cons (.cons (.cons (.cons (.cons (.cons (.cons (.cons (.cons (.cons (.cons (.cons (.cons .nil)))))))))))))))))))))⟩
 have ka:KTab K w.params AA [((NX "show"),f40),((NX "order"),f29),((NX "kind"),f30),((NX "least"),f31),((NX "parts"),f32),((NX "holes"),f33),((NX "lead"),f34),((NX "tree"),f35),((NX "cars"),f36),((NX "begun"),f37),((NX "count"),f38),((NX "joined"),f39)]:=⟨sANS,by show List.Nodup [(NX "show"),(NX "order"),(NX "kind"),(NX "least"),(NX "parts"),(NX "holes"),(NX "lead"),(NX "tree"),(NX "cars"),(NX "begun"),(NX "count"),(NX "joined")];decide+kernel,_,_,lANS,(.cons (.cons (.cons (.cons (.cons (.cons (.cons (.cons (.cons (.cons (.cons (.cons .nil))))))))))))⟩
 have tupk:Paired (JU K) IB [((NX "row"),bq0),((NX "star"),bq1),((NX "home"),bq2),((NX "copy"),bq3),((NX "join"),bq4),((NX "forth"),bq5),((NX "back"),bq6),((NX "drop"),bq7),((NX "show"),bq8),((NX "order"),bq9),((NX "kind"),bq10),((NX "least"),bq11),((NX "parts"),bq12),((NX "holes"),bq13),((NX "lead"),bq14),((NX "tree"),bq15),((NX "cars"),bq16),((NX "begun"),bq17),((NX "count"),bq18),((NX "joined"),bq19),((NX "names"),bq20)]:=(.cons ⟨rfl,by decide,_,_,_,lq0,rfl,rfl,(by show 2<=sizeLine;decide),(.cons ⟨_,rfl⟩ (.cons ⟨_,rfl⟩ .nil))⟩ (.cons ⟨rfl,by decide,_,_,_,lq1,rfl,rfl,(by show 2<=sizeLine;decide),(.cons ⟨_,rfl⟩ (.cons ⟨_,rfl⟩ .nil))⟩ (.cons ⟨rfl,by decide,_,_,_,lq2,rfl,rfl,(by show 2<=sizeLine;decide),(.cons ⟨_,rfl⟩ (.cons ⟨_,rfl⟩ .nil))⟩ (.cons ⟨rfl,by decide,_,_,_,lq3,rfl,rfl,(by show 2<=sizeLine;decide),(.cons ⟨_,rfl⟩ (.cons ⟨_,rfl⟩ .nil))⟩ (.cons ⟨rfl,by decide,_,_,_,lq4,rfl,rfl,(by show 3<=sizeLine;decide),(.cons ⟨_,rfl⟩ (.cons ⟨_,rfl⟩ (.cons ⟨_,rfl⟩ .nil)))⟩ (.cons ⟨rfl,by decide,_,_,_,lq5,rfl,rfl,(by show 2<=sizeLine;decide),(.cons ⟨_,rfl⟩ (.cons ⟨_,rfl⟩ .nil))⟩ (.cons ⟨rfl,by decide,_,_,_,lq6,rfl,rfl,(by show 2<=sizeLine;decide),(.cons ⟨_,rfl⟩ (.cons ⟨_,rfl⟩ .nil))⟩ (.cons ⟨rfl,by decide,_,_,_,lq7,rfl,rfl,(by show 1<=sizeLine;decide),(.cons ⟨_,rfl⟩ .nil)⟩ (.cons ⟨rfl,by decide,_,_,_,lq8,rfl,rfl,(by show 1<=sizeLine;decide),(.cons ⟨_,rfl⟩ .nil)⟩ (.cons ⟨rfl,by decide,_,_,_,lq9,rfl,rfl,(by show 1<=sizeLine;decide),(.cons ⟨_,rfl⟩ .nil)⟩ (.cons ⟨rfl,by decide,_,_,_,lq10,rfl,rfl,(by show 1<=sizeLine;decide),(.cons ⟨_,rfl⟩ .nil)⟩ (.cons ⟨rfl,by decide,_,_,_,lq11,rfl,rfl,(by show 1<=sizeLine;decide),(.cons ⟨_,rfl⟩ .nil)⟩ (.cons ⟨rfl,by decide,_,_,_,lq12,rfl,rfl,(by show 1<=sizeLine;decide),(.cons ⟨_,rfl⟩ .nil)⟩ (.cons ⟨rfl,by decide,_,_,_,lq13,rfl,rfl,(by show 1<=sizeLine;decide),(.cons ⟨_,rfl⟩ .nil)⟩ (.cons ⟨rfl,by decide,_,_,_,lq14,rfl,rfl,(by show 2<=sizeLine;decide),(.cons ⟨_,rfl⟩ (.cons ⟨_,rfl⟩ .nil))⟩ (.cons ⟨rfl,by decide,_,_,_,lq15,rfl,rfl,(by show 1<=sizeLine;decide),(.cons ⟨_,rfl⟩ .nil)⟩ (.cons ⟨rfl,by decide,_,_,_,lq16,rfl,rfl,(by show 1<=sizeLine;decide),(.cons ⟨_,rfl⟩ .nil)⟩ (.cons ⟨rfl,by decide,_,_,_,lq17,rfl,rfl,(by show 2<=sizeLine;decide),(.cons ⟨_,rfl⟩ (.cons ⟨_,rfl⟩ .nil))⟩ (.cons ⟨rfl,by decide,_,_,_,lq18,rfl,rfl,(by show 2<=sizeLine;decide),(.cons ⟨_,rfl⟩ (.cons ⟨_,rfl⟩ .nil))⟩ (.cons ⟨rfl,by decide,_,_,_,lq19,rfl,rfl,(by show 2<=sizeLine;decide),(.cons ⟨_,rfl⟩ (.cons ⟨_,rfl⟩ .nil))⟩ (.cons ⟨rfl,by decide,_,_,_,lq20,rfl,rfl,(by show 0<=sizeLine;decide),.nil⟩ .nil)))))))))))))))))))))
 have cls:Bg K cD:=⟨cpg,chd,cpo,csa⟩
 have tdk:zH K cD:=⟨cls,cno,cnk⟩
 have FMI:=u4 (st:=(mem (top 114) 0)) lmI cmI kmI
 have bmI:=FMI.binds (ps:=["self","n"]) fun _ _ _ _ _ _ us hl=>match us,hl with|[_,_],_=>rfl
 have FMR:=u4 (st:=(mem (top 114) 1)) lmR cmR kmR
 have bmR:=FMR.binds (ps:=["self","name"]) fun _ _ _ _ _ _ us hl=>match us,hl with|[_,_],_=>rfl
 have FMY:=u4 (st:=(mem (top 114) 2)) lmY cmY kmY
 have bmY:=FMY.binds (ps:=["self","row"]) fun _ _ _ _ _ _ us hl=>match us,hl with|[_,_],_=>rfl
 have Ki:=W.mg_of X G au2
 have ku2:Dh K w.params UU kO:=⟨su2,by decide,_,_,lu2,.cons (.cons .nil)⟩
 have cl:∃c:mn,c=⟨nI,jh,bJ,ko,ji,jj,nJ,nK,lh,iQ,kq,bu,dP⟩:=⟨_,rfl⟩
 obtain⟨cl,ecl⟩:=cl
 have tcl:Nr mg cl:=by subst ecl;exact⟨B3,xY,ER,B4,xZ,x6,B5,B6,zy,zA,B7,B8,vK,cW,eJ⟩
 have al2:jb K cl cl.Apart 2:=by subst ecl;exact⟨rT,dF,rV,⟨_,_,_,_,_,_,_,_,_,_,_,_,fY,eK,gW,fZ,eN,eO,gc,gf,fj,fm,gh,gj,by decide⟩,by decide⟩
 have al11:jb K cl cl.gH 11:=by subst ecl;exact⟨oW,cZ,oX,⟨_,_,_,_,_,_,_,_,_,_,_,_,fo,dG,gk,fu,dH,dI,fz,fB,eQ,eR,fC,fF,by decide⟩,by decide⟩
 have xcT:iH K cl.iV:=by subst ecl;exact oY
 have xcN:iH K cl.gH:=by subst ecl;exact oV
 have xcM:iH K cl.je:=by subst ecl;exact oZ
 have xcB:iH K cl.hV:=by subst ecl;exact mw
 have xcA:iH K cl.Apart:=by subst ecl;exact rS
 have hLr:(yT cl).E6=dY:=rfl
 have hLd:(yT cl).Ie=uj (fun w=>decide (w∈([NX "row",NX "forth",NX "back"]:List Str))) cl.hV cl.je:=rfl
 have hLa:(yT cl).ans=bY cl.Apart:=rfl
 have ftake:FnAt l.prog w K mg base "_law_take" 1 ["_law_purse_here","_law_many"] qS:=⟨⟨_,_,Gb kI,xV,kI.kp,xU⟩⟩
 have td:TD l.prog w K mg base:={t1 with qh:=⟨⟨_,_,Jq mx t1,zg,mx.kp,zf⟩⟩}
 have td2:Nw l.prog w K mg base:={t1 with eG:=⟨⟨_,_,EC eU td,nN,eU.kp,nM⟩⟩}
 have td3:Na l.prog w K mg base (.int 60 eI):={t1 with cn:=ik,ck:=⟨_,rfl⟩,lC:=⟨⟨_,_,FC iu td2,sY,iu.kp,sX⟩⟩}
 have fbi:FnAt l.prog w K mg base "is_between" 2 ["thing","low","high"] LP:=⟨⟨_,_,aR.imp (EC eU td) (fun _ H _ _ z=>by obtain⟨x,lo,hi,e,q⟩:=z;exact⟨.int x,fun _=>True,.int x,lo,hi,e,.int x,q⟩),nN,eU.kp,nM⟩⟩
 have trw:Nm l.prog w K mg base:={t1 with aP:=ftake,iD:=pq,mX:=rQ}
 have ttx:KN mg K (.int 9 fX):={t1 with cI:=kn,gO:=pL,gI:=⟨_,rfl⟩}
 have ttn:DA mg K (.int 9 fX) cl.iV:={ttx with bf:=tcl.bf,bO:=xcT}
 have fir:FnAt l.prog w K mg base "is_row" 6 ["n","thing"] pN:=⟨⟨_,_,C8 rW td3,EL,rW.kp,EK⟩⟩
 have trr:Np l.prog w K mg base:={t1 with
  eE:=⟨⟨_,_,Ad eV ttx,nP,eV.kp,nO⟩⟩
  bS:=⟨⟨_,_,Ew cf ttx,iy,cf.kp,iw⟩⟩
  ke:=fir}
 have trn:Lb l.prog w K mg base cl.iV:={t1 with
  eE:=⟨⟨_,_,Fn eV ttn,nP,eV.kp,nO⟩⟩
  bS:=⟨⟨_,_,Ax cf ttn,iy,cf.kp,iw⟩⟩
  ke:=fir
  bf:=tcl.bf
  bO:=xcT}
 have tck:L8 mg K (.int 8 jH) (.str (NX "abcdefghijklmnopqrstuvwxyz") tkL) cl.iV:={t1 with
  jX:=pM
  jP:=⟨_,rfl⟩
  t8:=B9
  ua:=⟨_,rfl⟩
  bf:=tcl.bf
  bO:=xcT}
 have trwd:LF l.prog w K mg base (yT cl):={t1 with
  bS:=⟨⟨_,_,aR.imp (Ax cf ttn) fun _ _ _ _ h=>h.2,iy,cf.kp,iw⟩⟩
  qW:=⟨⟨_,_,aR.imp ((yH jq trr).lift.or (w9 jq trn)) fun _ _ _ _ h=>h.2,zo,jq.kp,zm⟩⟩
  mO:=⟨⟨_,_,GN jr fun _ _ _ _ h=>absurd h.1 (by show¬(decide (NX "order"≠NX "order")=true);decide+kernel),vm,jr.kp,vk⟩⟩
  nB:=⟨⟨_,_,JZ jt tck,vo,jt.kp,vn⟩⟩
  bf:=tcl.bf
  bO:=xcT}
 have tca:Nd l.prog w K mg base:={t1 with bC:=dm,fN:=⟨⟨_,_,HD fR,pB,fR.kp,pA⟩⟩}
 have tmv:Nc l.prog w K mg base UU cl.je:={t1 with
  eG:=fbi
  og:=⟨⟨_,_,J7 o4 tca,B0,o4.kp,BZ⟩⟩
  ue:=Ki
  t6:=rfl
  tL:=ku2
  iO:=tcl.iO
  qM:=xcM}
 have trd:Nh l.prog w K mg base (fun w=>decide (w∈([NX "row",NX "forth",NX "back"]:List Str))) (.int 60 eI) cl.hV cl.je:={t1 with
  Cy:=⟨⟨_,_,GN zk fun _ _ _ _ h=>absurd h.1 (by decide+kernel),Ke,zk.kp,Kd⟩⟩
  DK:=⟨⟨_,_,GN zl fun _ _ _ _ h=>absurd h.1 (by decide+kernel),Kg,zl.kp,Kf⟩⟩
  Ao:=⟨⟨_,_,(IU vh tmv).mono (by decide),GW,vh.kp,GV⟩⟩
  cn:=ik
  ck:=⟨_,rfl⟩
  iL:=tcl.iL
  uc:=xcB}
 have fex:FnAt l.prog w K mg base "exchanged" 1 ["exchange","thing"] FL:=⟨⟨_,_,HD fR,pB,fR.kp,pA⟩⟩
 have t2:T2 l.prog w K mg base:={t1 with Ac:=⟨⟨_,_,Eo vb t1,GP,vb.kp,GO⟩⟩,fN:=fex}
 have tr0:Nb l.prog w K mg base:={t1 with iD:=pq,nu:=⟨⟨_,_,Lf jm,vd,jm.kp,vc⟩⟩}
 have fled:FnAt l.prog w K mg base "led" 3 ["n","row"] qQ:=⟨⟨_,_,Jc EO t2,Mc,EO.kp,Mb⟩⟩
 have frd:FnAt l.prog w K mg base "rounds" 3 ["order"] de:=⟨⟨_,_,Bb rX tr0,EN,rX.kp,EM⟩⟩
 have tr1:Ni l.prog w K mg base:={t1 with mY:=fled,cM:=frd}
 have fpt:FnAt l.prog w K mg base "parts" 2 ["n","row"] pR:=⟨⟨_,_,Dz vf {t1 with bC:=dm},GR,vf.kp,GQ⟩⟩
 have tso:Nu l.prog w K mg base:={t1 with cI:=kn,dg:=⟨⟨_,_,tG dn ttx,lO,dn.kp,lN⟩⟩,cM:=frd}
 have tshw:Lq l.prog w K mg base:={t1 with dg:=⟨⟨_,_,tG dn ttx,lO,dn.kp,lN⟩⟩}
 have ts5:Bq l.prog w K mg base cl.Apart:={t1 with
  cI:=kn
  mj:=⟨⟨_,_,K7 mz,zq,mz.kp,zp⟩⟩
  mG:=⟨⟨_,_,yz jo tso,vj,jo.kp,vi⟩⟩
  mY:=fled
  Cm:=⟨⟨_,_,GA zh {t1 with bC:=dm,cM:=frd},Kc,zh.kp,Kb⟩⟩
  c9:=⟨⟨_,_,Hr dq t1,lQ,dq.kp,lP⟩⟩
  qX:=⟨⟨_,_,C5 my tr1,zj,my.kp,zi⟩⟩
  jZ:=⟨⟨_,_,BX gY tshw,rZ,gY.kp,rY⟩⟩
  m9:=fpt
  zQ:=⟨⟨_,_,Cq vg {t1 with m9:=fpt,mY:=fled,cM:=frd,ny:=tcl.ny,zB:=xcA},GU,vg.kp,GS⟩⟩}
 have noA:∀{word:Str},word∉w5->∀vs H Q E,j6 (yT cl) word vs H Q E->False:=fun{word} hw vs H Q E h=>D9 hw hLa h
 have tsay:Lk l.prog w K mg base cD AD AA _ _ (yT cl):={t1,tdk with
  Eg:=xM
  bC:=dm
  bf:=tcl.bf
  bO:=xcT
  An:=Me
  Ak:=rfl
  zX:=kd
  ou:=Mf
  oA:=rfl
  oN:=ka
  tabs:=AZ tupk rfl
  lJ:=⟨cls,_,_,⟨amR,fnmR,kmR⟩,CZ FMR {tdk with ki:=tcl.ki,wV:=xcN},bmR⟩
  pd:=⟨⟨_,_,Ln kB hLr trwd,xO,kB.kp,xN⟩⟩
  tD:=⟨⟨_,_,JM o5 hLd trd,B2,o5.kp,B1⟩⟩
  c9:=⟨⟨_,_,Hr dq t1,lQ,dq.kp,lP⟩⟩
  Hs:=fun f sp h=>by
   obtain⟨word,e,rfl⟩:=h
   have mm:=tU e
   simp only[N6,List.not_mem_nil,or_false,Prod.mk.injEq]at mm
   rcases mm with⟨rfl,rfl⟩|⟨rfl,rfl⟩|⟨rfl,rfl⟩|⟨rfl,rfl⟩|⟨rfl,rfl⟩|⟨rfl,rfl⟩|⟨rfl,rfl⟩|⟨rfl,rfl⟩|⟨rfl,rfl⟩|⟨rfl,rfl⟩|⟨rfl,rfl⟩|⟨rfl,rfl⟩
   .exact yN (ps:=["n","given"]) kH kH.kp xT (noA (by decide+kernel))
   .exact vq (Js gu hLa ts5) (by decide) gu.kp pI
   .exact vq (KC kC hLa ts5).toQ (by decide) kC.kp xP
   .exact vq (Ks ju hLa ts5).toQ (by decide) ju.kp vp
   .exact vq (Kv jv hLa ts5) (by decide) jv.kp vt
   .exact vq (K6 jx hLa ts5).toQ (by decide) jx.kp vv
   .exact yN (ps:=["n","given"]) kD kD.kp xQ (noA (by decide+kernel))
   .exact yN (ps:=["n","given"]) kF kF.kp xR (noA (by decide+kernel))
   .exact yN (ps:=["n","given"]) kG kG.kp xS (noA (by decide+kernel))
   .exact yN (ps:=["n","given"]) jy jy.kp vw (noA (by decide+kernel))
   .exact yN (ps:=["n","given"]) jz jz.kp vA (noA (by decide+kernel))
   .exact yN (ps:=["n","given"]) iz iz.kp sZ (noA (by decide+kernel))}
 have tls:Hl l.prog w K mg base cl cD (yT cl):={t1,tcl with
  rE:=⟨cls,_,_,⟨amY,fnmY,kmY⟩,II FMY tsay,bmY⟩}
 have fsay:FnAt l.prog w K mg base "_law_say" 31 ["_law_desk","_law_row_here"] (oM K cl cD (yT cl)):=⟨⟨_,_,FG mD tls,zx,mD.kp,zw⟩⟩
 have fro:FnAt l.prog w K mg base "_law_rounds" 1 ["_law_order"] de:=⟨⟨_,_,yJ iA t1,tj,iA.kp,tf⟩⟩
 have tanl:KD l.prog w K mg base:={t1 with
  cI:=kn
  bC:=dm
  qV:=⟨⟨_,_,FR mC t1,zv,mC.kp,zu⟩⟩
  c0:=fro
  nq:=⟨⟨_,_,J2 jC {t1 with bC:=dm},vH,jC.kp,vG⟩⟩
  ij:=⟨⟨_,_,Jv eW {t1 with cI:=kn,c0:=fro},nR,eW.kp,nQ⟩⟩}
 have trgt:LW l.prog w K mg base cl cD:={t1 with
  gM:=fsay
  j0:=⟨⟨_,_,Jf gZ tanl,r9,gZ.kp,r6⟩⟩
  Aq:=al2
  vW:=al11}
 have ttld:HS l.prog w K mg base:={t1 with aP:=ftake,rM:=⟨⟨_,_,Jg mB trw,zt,mB.kp,zr⟩⟩}
 have tl:TL l.prog w K mg base cl cD:={t1 with
  cI:=kn
  mX:=rQ
  iD:=pq
  iS:=⟨⟨_,_,Et jA t0,vC,jA.kp,vB⟩⟩
  aP:=ftake
  o7:=⟨⟨_,_,Gz kJ ttld,xX,kJ.kp,xW⟩⟩
  mJ:=⟨⟨_,_,JH jB {t1 with iD:=pq,mX:=rQ},vF,jB.kp,vE⟩⟩
  jE:=⟨⟨_,_,IH gv {t1 with cI:=kn},pK,gv.kp,pJ⟩⟩
  gM:=fsay
  mF:=⟨⟨_,_,IS jD trgt,vJ,jD.kp,vI⟩⟩
  uX:=⟨Kh,_,_,⟨cmk,amI,fnmI,ckp⟩,FP FMI tdk,bmI⟩}
 exact JB Il tl
theorem walk{l:W.OpenLaw}{q:Program}{loose:List Str}{XP:(Str->Option Value)->Heap->Prop}{YP:World->Heap->Prop}{d:DefRec}{K:Params->W.Frag}(hn:l.most=some 63)(hdf:d.params.defaults=[])
  (hY:∀(w:World)(h:Heap),YP w h->(K w.params).In h)
  (F:∀(w:World)(mg:Str->Option Value)(fa:Addr)(h:Heap),(K w.params).In h->h.Ns mainGlobals mg->mg d.name=some (.ref fa)->
   ∃fd:FuncData,(∀(s:Shared)(u:Value),BindsTo s fd ⟨[u],[]⟩ [("_law_script",u)])/\∀base:Heap,(K w.params).In base->base.Ns mainGlobals mg->aR l.prog w (K w.params) mg base hZ 33 fa fd ["_law_script"] (Af (K w.params))):
  W.WalkO q loose XP YP l.row.toRowW d [] (fun f vs=>PySem.call f vs):=
 L2.FN (n:=63) (k:=33) (x:= "_law_script") (CX:=fun _=>hZ) (sp:=fun w=>Af (K w.params)) hn (by decide) hdf ⟨rfl,rfl,by decide,by decide⟩ hY F (fun _ _ a ns hl _ hS=>⟨a,ns,rfl,hS,hl,fun _=>rfl⟩) fun _ _ _ _ _ z=>z
end Sw
namespace PySem.W.Fast
def tw3156197172685297392:=0
def tw13187645466765367026:=0
def tw15782119759757664454:=0
def tw16979475486688394603:=0
def tw10986645391725822724:=0
def tw17024678636585204049:=0
def tw8935770660653621531:=0
def tw13090224251305317103:=0
def tw6244342275044307431:=0
def tw2430246946453307339:=0
def tw4000975354482911943:=0
def tw16070412685776675152:=0
def tw890847606810245726:=0
def tw11483706269085385509:=0
def tw14881295541593870312:=0
def tw8376496304986985642:=0
def tw12378485700907736082:=0
def tw18065878759405146978:=0
def tw14610539927194173771:=0
def tw12670781419307100345:=0
def tw89876887075489558:=0
def tw9557080647508948445:=0
def tw10542874356311022130:=0
def tw16178969602284141677:=0
def tw1703712162091290770:=0
def tw596560319159046637:=0
def tw18155997626305612005:=0
def tw12985776926403625435:=0
def tw17302290719250935983:=0
def tw11887072784154446661:=0
def tw9889089593311037343:=0
def tw15044394269830187629:=0
def tw12291801712292184235:=0
def tw4685003125417005449:=0
def tw2052752676160219816:=0
def tw10021692439702735384:=0
def tw302847635858988928:=0
def tw8431472629252163960:=0
def tw17788475961676064883:=0
def tw2712893770825427381:=0
def tw2684385674370235163:=0
def tw17299249949347437459:=0
def tw10439570956272972903:=0
def tw15104872464390349063:=0
def tw823028656283931327:=0
def tw17489776072251051280:=0
def tw715595527397608855:=0
def tw6133411352017630353:=0
def tw8917294554978012396:=0
def tw15684585046957410513:=0
def tw17435123342862760294:=0
def tw16767387402469846497:=0
def tw5653154961709989370:=0
def tw637436511702648662:=0
def tw2387543966921226900:=0
def tw8707766921057297910:=0
def tw3538155335716302464:=0
def tw5412431260752985616:=0
def tw934762314370936001:=0
def tw714655686429269563:=0
def tw1071448024135852141:=0
def tw4047463609986324555:=0
def tw6901270881119236529:=0
def tw9794142029192097949:=0
def tw15170910319638358974:=0
def tw16415084129879811204:=0
def tw4173976207724203731:=0
def tw16046982819984855727:=0
def tw8765873064864457814:=0
def tw4416266164750051551:=0
def tw13016328938960130853:=0
def tw244411810829179051:=0
def tw10880889498727068472:=0
def tw13935737807074435047:=0
def tw18317834778628786305:=0
def tw17639700737504472477:=0
def tw1409976497954163901:=0
def tw3341433762956047319:=0
def tw18214147257860744229:=0
def tw17936832381878456438:=0
def tw17911339788359081600:=0
def tw17781435934439432081:=0
def tw12395809215183097336:=0
def tw1262739122694556804:=0
def tw13390442869708489992:=0
def tw6564447462371235970:=0
def tw17254153422810089346:=0
def tw14466260654264627839:=0
def tw15694290162492321827:=0
def tw7231849732847748502:=0
def tw1346610143472047308:=0
def tw16779219394244864497:=0
def tw13490795981933463384:=0
def tw11503077189748810153:=0
def tw16695356013165991827:=0
def tw15877322565708280067:=0
def tw18226735693265596404:=0
def tw1476474792873890970:=0
def tw8985136161721051684:=0
def tw12794589914295776891:=0
def tw14862101474350193706:=0
def tw2656553230275343892:=0
def tw15569598942104121677:=0
def tw12819695608068048490:=0
def tw7153350401611358577:=0
def tw12335374304433279157:=0
def tw12427897847072342227:=0
def tw17183069257832832866:=0
def tw16433053895023602453:=0
def tw4990550523068816572:=0
def tw2985977308510343293:=0
def tw9880689053913475557:=0
def tw1840386122937200121:=0
def tw12870005415314012899:=0
def tw2239402403657683547:=0
def tw1645041504937669837:=0
def tw6454624993384574468:=0
def tw17460670718869666941:=0
def tw9125671958642277555:=0
def tw16383338108468437065:=0
def tw10267798513432424352:=0
def tw17394094338233323459:=0
def tw16453158448543181664:=0
def tw9366348193539883762:=0
def tw15588039080711943077:=0
def tw12333436654040847097:=0
def tw15528557698585478807:=0
def tw6215002705193671144:=0
def tw6150281998855398993:=0
def tw7049113107871430737:=0
def tw11368447815759116476:=0
def tw4944561544778597597:=0
def tw10939674940184573197:=0
def tw17244424902168949529:=0
def tw2476468153054856963:=0
def tw6345614137873132524:=0
def tw14243921399018037218:=0
def tw11787832376397359607:=0
def tw12876461113782080089:=0
def tw2847085506464155087:=0
def tw2774241307629432110:=0
def tw4312486841650032361:=0
def tw4959358836247768708:=0
def tw9548579923644303138:=0
def tw16917435866500621722:=0
def tw2097601313196821640:=0
def tw6705623110706455259:=0
def tw13310932900043029928:=0
def tw1096370900866057226:=0
def tw15287404391847671850:=0
def tw10229141456968015977:=0
def tw2610936809478573259:=0
def tw14042747917769118382:=0
def tw17304593696186928385:=0
def tw8490976887054715916:=0
def tw12693020124654304478:=0
def tw13151029502672364490:=0
def tw13218681412932158503:=0
def tw7984584433180515419:=0
def tw4517912711962058207:=0
def tw11822648045292766687:=0
def tw18371920575355929020:=0
def tw12135532274079097869:=0
def tw14888416316291682527:=0
def tw11760904061974165390:=0
def tw3065109223925165552:=0
def tw5647927718066979567:=0
def tw2848290881194283535:=0
def tw14566573654134387621:=0
def tw14556357978215331704:=0
def tw15737270922338446506:=0
def tw17297191805127742757:=0
def tw5158161722197515031:=0
def tw18342756860101559737:=0
def tw6020925156591462186:=0
def tw3826022224571866006:=0
def tw13685283320432827616:=0
def tw3482820037899452942:=0
def tw4540378882962444367:=0
def tw17702718006954574605:=0
def tw4345648344189201116:=0
def tw3874233263012640602:=0
def tw9317389097472240088:=0
def tw3708514958900244854:=0
def tw13207211513492886346:=0
def tw9206759949322612943:=0
def tw11304883584165925480:=0
def tw4908158579079236646:=0
def tw9841301629867515989:=0
def tw15864688410875653883:=0
def tw18187111825679569205:=0
def tw311611816860281034:=0
def tw9899175439500317208:=0
def tw8966422978327012619:=0
def tw4456064577980754035:=0
def tw2371887290609900628:=0
def tw5112836338957072931:=0
def tw17921591981725800480:=0
def tw17441278594398714486:=0
def tw17936970098357721048:=0
def tw1851468585866599876:=0
def tw16874947881879470213:=0
def tw14625312832882212779:=0
def tw12959058555872558731:=0
def tw5392709676208120239:=0
def tw5072154519086224706:=0
def tw13365426399931039764:=0
def tw4839363775837163688:=0
def tw2949211681523332492:=0
def tw7234532286697001553:=0
def tw4760701823166212643:=0
def tw16548903918418090530:=0
def tw15249837280635944662:=0
def tw2673664328795598042:=0
def tw11126783697336245588:=0
def tw172531091747138316:=0
def tw16013812310816877829:=0
def tw305117129328229223:=0
def tw15889755751137477692:=0
def tw3469999431615679032:=0
def tw229535333204879179:=0
def tw15521114346993673500:=0
def tw17891020703048653415:=0
def tw11162296962007277511:=0
def tw11546321224295690852:=0
def tw12146357654622276124:=0
def tw8345167999829101098:=0
def tw5580272537024249653:=0
def tw8797887364786288522:=0
def tw14739404490060851665:=0
def tw14178590679065564713:=0
def tw13029398699586675631:=0
def tw2911413756404936263:=0
def tw6814271682350151970:=0
def tw8591668850118473469:=0
def tw12503428649487830155:=0
def tw8123236953767727126:=0
def tw10130812874044313444:=0
def tw15686864495094434261:=0
def tw8372735946088443249:=0
def tw4788888535023429038:=0
def tw12547139793009447547:=0
def tw9185463360765893731:=0
def tw17358529089366608953:=0
def tw10485978856652576008:=0
def tw6506417060443945742:=0
def tw10470692119303878847:=0
def tw1388044107372848967:=0
def tw5240528928149084488:=0
def tw13099830121267776237:=0
def tw9158278184176099729:=0
def tw14244692899908046852:=0
def tw6053278159665790304:=0
def tw1054435177672995438:=0
def tw1241102467544292697:=0
def tw955909997202068612:=0
def tw15966411933044299608:=0
def tw2182635448962283423:=0
def tw18304321781944214045:=0
def tw2611728288417256061:=0
def tw16537540387697594119:=0
def tw15628094459809067208:=0
def tw2426939046245746197:=0
def tw10298299634244123940:=0
def tw13194542170099984338:=0
def tw4034688321934583483:=0
def tw8287224383095448509:=0
def tw1415146527804433385:=0
def tw13046024598714149756:=0
def tw5736611639997098967:=0
def tw3864619640597212755:=0
def tw2266516150418885698:=0
def tw3029747712911444298:=0
def tw18041115060455911701:=0
def tw7283698116207038047:=0
def tw6308964999357084699:=0
def tw1307110303496122300:=0
def tw7532916637879300219:=0
def tw1958825493501328428:=0
def tw14138867003929732774:=0
def tw3712582967983092911:=0
def tw7858968986521535872:=0
def tw10933566905381099519:=0
def tw7275568104471410437:=0
def tw15470028232641143246:=0
def tw1702076297946267934:=0
def tw617677016710100023:=0
def tw1311084471393964952:=0
def tw18232182908169515579:=0
def tw3059954919324773499:=0
def tw3626364320444828614:=0
def tw9107820404504110539:=0
def tw5907265459854284308:=0
def tw5259092123575492824:=0
def tw3897386322830341170:=0
def tw3709384981316136794:=0
def tw17991409016512755723:=0
def tw16008600004504573975:=0
def tw14334929217578494210:=0
def tw13213792524613283381:=0
def tw11370603814093904596:=0
def tw3878711716272374170:=0
def tw14098489158741307986:=0
def tw11447218807470586077:=0
def tw16628042019112151589:=0
def tw11672939191190273362:=0
def tw7914822873806392939:=0
def tw2658176219092210043:=0
def tw3400983085426458821:=0
def tw13895065302774418679:=0
def tw16392064237056035595:=0
def tw15937043101606484369:=0
def tw16930978478835562160:=0
def tw14379220910509929606:=0
def tw11468730703687455145:=0
def tw2380183161740309049:=0
def tw2347805520165031124:=0
def tw3882000886771540077:=0
def tw12433090865832962525:=0
def tw6015101805103857563:=0
def tw16544513217898275533:=0
def tw18127302959747202696:=0
def tw8425217767328579617:=0
def tw443136058830251134:=0
def tw1173438915185006993:=0
def tw8618753404227863069:=0
def tw7866824171310942212:=0
def tw2992666497611072173:=0
def tw2981801497730417747:=0
def tw8157408800492557496:=0
def tw13094579157595202747:=0
def tw15969208476004059714:=0
def tw15800904857525125213:=0
def tw11703747965485795375:=0
def tw306136294404456210:=0
def tw8953721524805783277:=0
def tw15483653750377892501:=0
def tw4392568277022895741:=0
def tw15770164188558618759:=0
def tw7011383317627811069:=0
def tw4365525226240770147:=0
def tw7705449599451897696:=0
def tw2264552406242496860:=0
def tw9446567078151168231:=0
def tw4821615802887800046:=0
def tw3694874599200815143:=0
def tw14499695196292116650:=0
def tw7530924316270245563:=0
def tw7106787058459073574:=0
def tw12758380426251810727:=0
def tw11910990010481151516:=0
def tw11528448213644260109:=0
def tw6788307506454942507:=0
def tw15482923791453874937:=0
def tw13365515826478960057:=0
def tw4889048559907963471:=0
def tw18340022292678475007:=0
def tw9629460093447590478:=0
def tw6328029353911821378:=0
def tw3745659021442979871:=0
def tw1520181515441260105:=0
def tw1488759155742410337:=0
def tw10437411631649653290:=0
def tw9625375355412098888:=0
def tw6332710138593220360:=0
def tw16902170204732443838:=0
def tw14669943074408916332:=0
def tw1258908119360089880:=0
def tw8112671358405034741:=0
def tw2191713792725617510:=0
def tw15598553295877148723:=0
def tw945496812624966008:=0
def tw7864371990165760447:=0
def tw7837645427632771753:=0
def tw485744806628888098:=0
def tw13208414860045396572:=0
def tw1160036099004781006:=0
def tw3137630463501225515:=0
def tw10884532898661764061:=0
def tw8341315647485031847:=0
def tw14323546246318577848:=0
def tw12685669485586297312:=0
def tw1227245058837274312:=0
def tw11886672347384351355:=0
def tw11375993193606504091:=0
def tw9687134024092308905:=0
def tw4404576425978993970:=0
def tw1498626338388390753:=0
def tw130329739821621101:=0
def tw12432854939404890683:=0
def tw10609423917530687258:=0
def tw953657111515971181:=0
def tw5119689126780856368:=0
def tw3593023403109129902:=0
def tw157617517145952765:=0
def tw8542272161491613641:=0
def tw6884869607096359061:=0
def tw515033351527360997:=0
def tw216280522932194508:=0
def tw10869302862179261001:=0
def tw10559396068076472625:=0
def tw5526362922172661977:=0
def tw1801212355294704736:=0
def tw1604066384217514203:=0
def tw15055505560435781608:=0
def tw12670497713668613874:=0
def tw10144881819944146575:=0
def tw9458676829469018086:=0
def tw12510675142677222726:=0
def tw11453017576549367449:=0
def tw11072959411459910205:=0
def tw4411668568804560725:=0
def tw7691676099594695107:=0
def tw15304855050334068857:=0
def tw14850495515976526023:=0
def tw8534630143643972193:=0
def tw17114897783039228724:=0
def tw16983314753676263197:=0
def tw1641520070657868163:=0
def tw13090634663482461510:=0
def tw579071752591852477:=0
def tw3257924011761377890:=0
def tw16920820646675835907:=0
def tw16055023987160112968:=0
def tw15863538682095231820:=0
def tw6904560572983401306:=0
def tw8846941740539650146:=0
def tw16514495526697117527:=0
def tw6373268917287367215:=0
def tw2313092324616661187:=0
def tw1921747862306751513:=0
def tw3120497928437462597:=0
def tw8526635616109431864:=0
def tw3215157093471821744:=0
def tw2496052876813085295:=0
def tw5005886759844391078:=0
def tw4254284355142899311:=0
def tw11369354431593110406:=0
def tw5363233725644760219:=0
def tw17229378504373874613:=0
def tw12392213159972786590:=0
def tw8353804283840660726:=0
def tw17790630242814843901:=0
def tw12906779669109023832:=0
def tw17426673555420648616:=0
def tw17370227715476638175:=0
def tw442067204417481505:=0
def tw3534685355629773539:=0
def tw7508448824982021812:=0
def tw13553095755511296572:=0
def tw9838922265259720078:=0
def tw15334194846898171420:=0
def tw1832958167781095287:=0
def tw65738341138288025:=0
def tw2687426220928969254:=0
def tw12459889324099744386:=0
def tw7632558017085137062:=0
def tw225346020038107381:=0
def tw4580399190596089412:=0
def tw11064709266564128108:=0
def tw9856547536406056490:=0
def tw9357475852430043443:=0
def tw8422367680657005302:=0
def tw7531675618797317730:=0
def tw380529881972144356:=0
def tw2862327132889124669:=0
def tw15929229901456865536:=0
def tw14975817801521718117:=0
def tw148172047987451299:=0
def tw14616937714739236382:=0
def tw13230772470714615805:=0
def tw12520900441113529278:=0
def tw10086411760285950739:=0
def tw12462432728955815619:=0
def tw6051156763841420100:=0
def tw9921910023040697495:=0
def tw3501275792505314431:=0
def tw2426635058627761048:=0
def tw18149881159831397697:=0
def tw12699624719807627701:=0
def tw13666133298535581224:=0
def tw10342040888244647530:=0
def tw14474154242461032238:=0
def tw12503051720060556969:=0
def tw14755908882126511958:=0
def tw11895526776946310710:=0
def tw13746371123429906745:=0
def tw9499975652551295229:=0
def tw9257235467389302645:=0
def tw6462460391718249068:=0
def tw608417245137804633:=0
def tw5720357284464855969:=0
def tw1776781271197025008:=0
def tw17237798362074857067:=0
def tw14794954576192256460:=0
def tw12316152465761757282:=0
def tw11514581231680129402:=0
def tw10931777336558809847:=0
def tw12501881575383996904:=0
def tw8348046891493744204:=0
def tw622499479978309548:=0
def tw13061427493071286883:=0
def tw11637158874602613527:=0
def tw10067102362548078255:=0
def tw9616158935205498863:=0
def tw12023709837257788234:=0
def tw2007556014617310134:=0
def tw13797270534740589172:=0
def tw11173462646845720147:=0
def tw8596376675851136130:=0
def tw6825290860216891630:=0
def tw6007048523029377356:=0
def tw4956664257113191016:=0
def tw1598067164853882410:=0
def tw1576227960126325899:=0
def tw1540382697877605244:=0
def tw14909012890152680646:=0
def tw14295711853808481563:=0
def tw1022187643769184583:=0
def tw7638926968385470761:=0
def tw5808293277595720934:=0
def tw18182800016360686038:=0
def tw18010925886359940495:=0
def tw16505997288480980595:=0
def tw14036023544529704410:=0
def tw9267206540505028662:=0
def tw8641914709871084599:=0
def tw512757790594909101:=0
def tw5116143321335653940:=0
def tw4987068648027260375:=0
def tw4356142183968123548:=0
def tw3698034976893762893:=0
def tw2967481368830251014:=0
def tw17063894370301523350:=0
def tw12596079277268780234:=0
def tw11202626608765414206:=0
def tw11122523281781579836:=0
def tw10972513390034195363:=0
def tw10143400659202970375:=0
def tw9191334074007536547:=0
def tw8301719043442311272:=0
def tw736225947403140991:=0
def tw5818403005542331298:=0
def tw4774173486472504591:=0
def tw4756747039739724188:=0
def tw393294144145506920:=0
def tw3355706797321576725:=0
def tw18245425985901752282:=0
def tw18036175944502136667:=0
def tw17696963254976070047:=0
def tw15964389028943162525:=0
def tw14032268296031647169:=0
def tw12214992253364187257:=0
def tw10680756561884781536:=0
def tw774879588903217585:=0
def tw7203254928013528465:=0
def tw3359409491788998373:=0
def tw18027949026467745036:=0
def tw1740776508844932755:=0
def tw16760750456029988286:=0
def tw1508868794364995739:=0
def tw14341075616562782249:=0
def tw13241682252521857173:=0
def tw13201713584692614227:=0
def tw12111176020636577344:=0
def tw11400416641624757020:=0
def tw9676889203244656678:=0
def tw9462948246488540676:=0
def tw8317039082720557711:=0
def tw4353936226865820785:=0
def tw3430305696512093254:=0
def tw3133297696477160394:=0
def tw2731778037813436566:=0
def tw2679172392510639671:=0
def tw2640739152999550074:=0
def tw1981666053825170169:=0
def tw15199656777027909381:=0
def tw14944180937790134480:=0
def tw11371441656227752976:=0
def tw10866909679973952531:=0
def tw9980897170710534284:=0
def tw9823049244420614179:=0
def tw9675938586130071134:=0
def tw9674521015176228729:=0
def tw9658022185280136220:=0
def tw9112637488289693067:=0
def tw8871883014430821224:=0
def tw8856174232028987290:=0
def tw8792882692160934603:=0
def tw8729105858805372882:=0
def tw866011529577085255:=0
def tw8603148553256700245:=0
def tw8516311875389724507:=0
def tw8466609236813182248:=0
def tw843236147286200699:=0
def tw8338098273725024227:=0
def tw8236335464896980861:=0
def tw8185342889811582037:=0
def tw8117027873786247803:=0
def tw8000071788609693272:=0
def tw7923585075699996459:=0
def tw7919180432506488643:=0
def tw7845145479513114824:=0
def tw7827753539267523583:=0
def tw7431994492468551308:=0
def tw7356541982346960561:=0
def tw7338814122142782922:=0
def tw7019598658177809967:=0
def tw6945859530523566641:=0
def tw6941012051463695330:=0
def tw6732632819778978969:=0
def tw6695055933620300858:=0
def tw6671911840369936715:=0
def tw657482746775767295:=0
def tw6403725085572419222:=0
def tw6383092343045641547:=0
def tw6122043209032710490:=0
def tw5935036814302140400:=0
def tw5678816272525807365:=0
def tw565028837217272693:=0
def tw5633823563757516136:=0
def tw5569494857904795489:=0
def tw5471707754528375677:=0
def tw5461562337575694004:=0
def tw5371466075001183098:=0
def tw5211193097791876288:=0
def tw4954745819538739975:=0
def tw4950522086046049447:=0
def tw4934589726826234468:=0
def tw4904245809167183292:=0
def tw4879075639892042529:=0
def tw4861525690665626317:=0
def tw4853684308264152170:=0
def tw4745829334453945390:=0
def tw4696435530449411092:=0
def tw4609962678969632983:=0
def tw4555351231789374457:=0
def tw4463556945149522520:=0
def tw4149149115595550297:=0
def tw4044177050746333850:=0
def tw4007265553664074306:=0
def tw396175352121727633:=0
def tw3681584941306474589:=0
def tw3431279343159660261:=0
def tw3329627311945309181:=0
def tw3199512905916338390:=0
def tw3141510590630908:=0
def tw3122737979155643218:=0
def tw2976069859915151229:=0
def tw2792835113413462984:=0
def tw2750177273970136848:=0
def tw2640045371811384218:=0
def tw2638093661299183132:=0
def tw2249620348304651554:=0
def tw2178151289683671879:=0
def tw2153414172339886132:=0
def tw2142176410806079763:=0
def tw2037559976795870179:=0
def tw1992993649807852365:=0
def tw1949229384696262920:=0
def tw18372236577042290227:=0
def tw18331478269584088518:=0
def tw1813670514270304477:=0
def tw17952977117619999091:=0
def tw17875201245869530140:=0
def tw17824231114764132030:=0
def tw17778658899736678158:=0
def tw17695958449023338332:=0
def tw17692242548372642668:=0
def tw17643976472686537922:=0
def tw17601673758655219299:=0
def tw17370367157934034192:=0
def tw17354605675315262666:=0
def tw17146547700156800090:=0
def tw17145656279287431096:=0
def tw16863071053899024308:=0
def tw16857362723384806924:=0
def tw16843642769387540843:=0
def tw16807022901952639892:=0
def tw16619150515925536516:=0
def tw16518366228977616316:=0
def tw1634339505734860812:=0
def tw16327026115422515053:=0
def tw16235197374612049146:=0
def tw16192158922413820845:=0
def tw16191609541599447546:=0
def tw16156037680535003932:=0
def tw1610251724276781664:=0
def tw16098102598387029259:=0
def tw16074529910145264497:=0
def tw16054586540019517579:=0
def tw16016617347939867591:=0
def tw16001789306918919255:=0
def tw1597893748263692184:=0
def tw15896023436303943272:=0
def tw15798129073711834832:=0
def tw15720805656736295264:=0
def tw15605854961181702006:=0
def tw15562914558235401949:=0
def tw15544504854981566582:=0
def tw15477606442685770618:=0
def tw15372199786756453413:=0
def tw15344063778530198877:=0
def tw15324935867366670386:=0
def tw15299291764136836552:=0
def tw15282475153068041590:=0
def tw15240723333257249065:=0
def tw15167028028609183389:=0
def tw14868888479885046127:=0
def tw14557518654868357285:=0
def tw14393496018556173148:=0
def tw14333437112160392244:=0
def tw14332989286606647950:=0
def tw14298126222064425422:=0
def tw14197353201599955800:=0
def tw14036370546894545032:=0
def tw14013644862952820529:=0
def tw13826194478109866976:=0
def tw13772359008097911384:=0
def tw13327324203616586599:=0
def tw1325054620401727116:=0
def tw13178643413118838665:=0
def tw13097032414009783654:=0
def tw12983272108030841359:=0
def tw12813963424859134207:=0
def tw12773850434660264758:=0
def tw12729055468336837903:=0
def tw12708559128008763509:=0
def tw124754507127026397:=0
def tw12386675900423472474:=0
def tw12252549372482014826:=0
def tw12244343737635979923:=0
def tw12226546189240272200:=0
def tw12225803905421954594:=0
def tw12167095527657359293:=0
def tw12143826350349167598:=0
def tw12102316462764394785:=0
def tw12071607101557334033:=0
def tw1200150506714189196:=0
def tw11933605149832813794:=0
def tw11915541889784353675:=0
def tw11882203791026227146:=0
def tw11881379188340397843:=0
def tw11735751168320924370:=0
def tw11621097293493490083:=0
def tw1142272196828872869:=0
def tw11415586886930261176:=0
def tw10990755541840099576:=0
def tw10963895846903894778:=0
def tw10751142034452693609:=0
def tw10745655437568679437:=0
def tw10725077533270003630:=0
def tw10628960025174320132:=0
def tw10627806761113202821:=0
def tw10459553628616480136:=0
def tw10128558723572443813:=0
end PySem.W.Fast
open PySem PySem.W PyProof.Rows
set_option maxRecDepth 100000 in
set_option maxHeartbeats 0 in
theorem PySem.Challenge.cw_swapstars_k75_a_desk_asked_holds : PySem.Challenge.rw_swapstars_k75_a_desk_asked.Holds := by
 w_on;o_law;k_head;(case hw=>w_witness2)
 k_fill
 refine Sw.walk (l:=PySem.Challenge.rw_swapstars_k75_a_desk_asked) rfl rfl (fun w h Y=>W.kIn_of Y) ?F
 case F=>
  intro w mg fa h KX G hmg
  refine' Sw.all_mk KX G hmg ?a0 ?d0 ?a1 ?d1 ?a2 ?d2 ?a3 ?d3 ?a4 ?d4 ?a5 ?d5 ?a6 ?d6 ?a7 ?d7 ?a8 ?d8 ?a9 ?d9 ?a10 ?d10 ?a11 ?d11 ?a12 ?d12 ?a13 ?d13 ?a14 ?d14 ?a15 ?d15 ?a16 ?d16 ?a17 ?d17 ?a18 ?d18 ?a19 ?d19 ?a20 ?d20 ?a21 ?d21 ?a22 ?d22 ?a23 ?d23 ?a24 ?d24 ?a25 ?d25 ?a26 ?d26 ?a27 ?d27 ?a28 ?d28 ?a29 ?d29 ?a30 ?d30 ?a31 ?d31 ?a32 ?d32 ?a33 ?d33 ?a34 ?d34 ?a35 ?d35 ?a36 ?d36 ?a37 ?d37 ?a38 ?d38 ?a39 ?d39 ?a40 ?d40 ?a41 ?d41 ?a42 ?d42 ?a43 ?d43 ?a44 ?d44 ?a45 ?d45 ?a46 ?d46 ?a47 ?d47 ?a48 ?d48 ?a49 ?d49 ?a50 ?d50 ?a51 ?d51 ?a52 ?d52 ?a53 ?d53 ?a54 ?d54 ?xH ?xI ?xJ ?xK ?cW ?rO ?nG ?rP ?nH ?pq ?rQ ?dm ?xM ?kn ?eJ ?oO ?kr ?rR ?oP ?ku ?kA ?oQ ?oR ?mq ?mr ?oS ?oU ?jk ?rS ?rT ?rV ?fY ?eK ?gW ?fZ ?eN ?eO ?gc ?gf ?fj ?fm ?gh ?gj ?gX ?dF ?oV ?oW ?oX ?fo ?dG ?gk ?fu ?dH ?dI ?fz ?fB ?eQ ?eR ?fC ?fF ?gA ?cZ ?eT ?gn ?gp ?aDUE ?lDUE ?sDUE ?lq0 ?lq1 ?lq2 ?lq3 ?lq4 ?lq5 ?lq6 ?lq7 ?lq8 ?lq9 ?lq10 ?lq11 ?lq12 ?lq13 ?lq14 ?lq15 ?lq16 ?lq17 ?lq18 ?lq19 ?lq20 ?aANS ?lANS ?sANS ?mv ?aDesk ?cpg ?chd ?cpo ?csa ?cno ?cnk ?cmk ?ckp ?amI ?fnmI ?kmI ?lmI ?cmI ?amR ?fnmR ?kmR ?lmR ?cmR ?amY ?fnmY ?kmY ?lmY ?cmY ?oY ?oZ ?mw ?au2 ?lu2 ?su2 ?kib
  (case a0|a1|a2|a3|a4|a5|a6|a7|a8|a9|a10|a11|a12|a13|a14|a15|a16|a17|a18|a19|a20|a21|a22|a23|a24|a25|a26|a27|a28|a29|a30|a31|a32|a33|a34|a35|a36|a37|a38|a39|a40|a41|a42|a43|a44|a45|a46|a47|a48|a49|a50|a51|a52|a53|a54|xH|xI|xJ|xK|cW|rO|nG|rP|nH|pq|rQ|dm|xM|kn|eJ|oO|kr|rR|oP|ku|kA|oQ|oR|mq|mr|oS|oU|jk=>k_is)
  (case d0|d1|d2|d3|d4|d5|d6|d7|d8|d9|d10|d11|d12|d13|d14|d15|d16|d17|d18|d19|d20|d21|d22|d23|d24|d25|d26|d27|d28|d29|d30|d31|d32|d33|d34|d35|d36|d37|d38|d39|d40|d41|d42|d43|d44|d45|d46|d47|d48|d49|d50|d51|d52|d53|d54=>exact⟨_,_,_,_,_,_,_,_,_,by k_is,by k_is,by k_is⟩)
  (case rS|oV=>kernel_rfl)
  (case rT|oW=>exact⟨by k_is,by k_is,by k_is,by k_is,by k_is,by k_is,by k_is,by kernel_rfl⟩)
  (case rV|fY|eK|gW|fZ|eN|eO|gc|gf|fj|fm|gh|gj|gX|oX|fo|dG|gk|fu|dH|dI|fz|fB|eQ|eR|fC|fF|gA=>kit_is)
  (case dF|cZ=>exact⟨by k_is,by kernel_rfl,by k_is,by k_is⟩)
  (case eT=>k_is)
  (case gn=>k_is)
  (case gp=>k_is)
  (case aDUE|lDUE|lq0|lq1|lq2|lq3|lq4|lq5|lq6|lq7|lq8|lq9|lq10|lq11|lq12|lq13|lq14|lq15|lq16|lq17|lq18|lq19|lq20|aANS|lANS|mv|aDesk=>k_is)
  (case sDUE|sANS=>rfl)
  (case cpg|chd|cpo|csa|cno|cnk|cmk|ckp|amI|fnmI|kmI|lmI|cmI|amR|fnmR|kmR|lmR|cmR|amY|fnmY|kmY|lmY|cmY=>first|k_is|kernel_rfl)
  (case oY=>kernel_rfl)
  (case oZ=>kernel_rfl)
  (case mw=>kernel_rfl)
  (case au2=>k_is)
  (case lu2=>k_is)
  (case su2=>rfl)
  (case kib=>exact L2.uC _)
