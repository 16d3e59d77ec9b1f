import PyProof.Rows.All
import Wide.All
import OpenK.AllK
import Wide.FinOn
import Lean
import PyProof.EqAt
import PyProof.EqKinds
import PyProof.TupleCall
import KE.KIntText
import PyProof.StrBlockH
import PyProof.StrLawsTight
import PyProof.StrLawsReplace
import PyProof.StrLawsJoin
import PyProof.StrLawsNeg
import KE.LcSums
import KE.KSortAsk
import PyProof.ZipIter
import KE.KItemsList
import KE.KRevIter
import PySem.Challenge.RW_swapstars_k71_no_orders_written
set_option Elab.async false
set_option linter.all false
set_option maxRecDepth 100000
set_option maxHeartbeats 8000000
namespace L2
open PySem PySem.Spec PyProof.Rows
abbrev Key := Sum Int Str
def keyIs : Key → Value → Bool
  | .inl k, v => Value.isInt k v
  | .inr x, v => Value.isStrOf x v
def keyH (w : World) : Key → Int
  | .inl k => hashInt k
  | .inr x => hashStr w x
theorem keyIs_shape : ∀ {k : Key} {v : Value}, keyIs k v = true → (∃ i t, k = Sum.inl i ∧ v = Value.int i t) ∨ (∃ x t, k = Sum.inr x ∧ v = Value.str x t)
  | .inl i, v, h => by
    obtain ⟨t, e⟩ := Value.isInt_shape (k := i) (v := v) h
    exact .inl ⟨i, t, rfl, e⟩
  | .inr x, v, h => by
    obtain ⟨t, e⟩ := Value.isStrOf_shape (x := x) (v := v) h
    exact .inr ⟨x, t, rfl, e⟩
theorem keyIs_int (i : Int) (t : Tok) : keyIs (.inl i) (.int i t) = true := by simp [keyIs, Value.isInt]
theorem keyIs_str (x : Str) (t : Tok) : keyIs (.inr x) (.str x t) = true := by simp [keyIs, Value.isStrOf]
theorem key_ll (a b : Int) : decide ((Sum.inl a : Key) = Sum.inl b) = (a == b) := by
  by_cases e : a = b
  · subst e; simp
  · have h : ¬ (Sum.inl a : Key) = Sum.inl b := fun q => e (Sum.inl.inj q)
    rw [decide_eq_false h]
    exact (beq_eq_false_iff_ne.mpr e).symm
theorem key_rr (a b : Str) : decide ((Sum.inr a : Key) = Sum.inr b) = decide (a = b) := by
  by_cases e : a = b
  · subst e; simp
  · have h : ¬ (Sum.inr a : Key) = Sum.inr b := fun q => e (Sum.inr.inj q)
    rw [decide_eq_false h, decide_eq_false e]
theorem key_lr (a : Int) (b : Str) : decide ((Sum.inl a : Key) = Sum.inr b) = false := decide_eq_false (fun q => nomatch q)
theorem key_rl (a : Str) (b : Int) : decide ((Sum.inr a : Key) = Sum.inl b) = false := decide_eq_false (fun q => nomatch q)
def mixKind (prog : Program) (w : World) : PySem.KeyKind prog w Key where
  is := keyIs
  hash := keyH w
  inj := fun v a b ha hb => by
    rcases keyIs_shape ha with ⟨i, t, rfl, rfl⟩ | ⟨x, t, rfl, rfl⟩
    · rcases keyIs_shape hb with ⟨j, u, rfl, e⟩ | ⟨y, u, rfl, e⟩
      · injection e with e1 _; rw [e1]
      · exact nomatch e
    · rcases keyIs_shape hb with ⟨j, u, rfl, e⟩ | ⟨y, u, rfl, e⟩
      · exact nomatch e
      · injection e with e1 _; rw [e1]
  byValue := fun k v h => by
    rcases keyIs_shape h with ⟨i, t, rfl, rfl⟩ | ⟨x, t, rfl, rfl⟩ <;> rfl
  pyHash := fun hv h => by
    rcases keyIs_shape hv with ⟨i, t, rfl, rfl⟩ | ⟨x, t, rfl, rfl⟩
    · exact wpAny_pyHash_int h
    · exact wpAny_pyHash_str h
  eqBool := fun hu hv h => by
    rcases keyIs_shape hu with ⟨i, t, rfl, rfl⟩ | ⟨x, t, rfl, rfl⟩
    · rcases keyIs_shape hv with ⟨j, u, rfl, rfl⟩ | ⟨y, u, rfl, rfl⟩
      · rw [key_ll] at h; exact wpAny_eqBool_int h
      · rw [key_lr] at h; exact SeqAt.EqAt.int_str i t y u _ _ _ _ h
    · rcases keyIs_shape hv with ⟨j, u, rfl, rfl⟩ | ⟨y, u, rfl, rfl⟩
      · rw [key_rl] at h; exact SeqAt.EqAt.str_int x t j u _ _ _ _ h
      · rw [key_rr] at h; exact wpAny_eqBool_str h
  «strs» := fun k x t v h => by
    rcases keyIs_shape h with ⟨i, u, rfl, e⟩ | ⟨y, u, rfl, e⟩
    · exact nomatch e
    · injection e with e1 _
      subst e1
      cases v <;> rfl
theorem mixKind_int (prog : Program) (w : World) (i : Int) (t : Tok) : (mixKind prog w).is (.inl i) (.int i t) = true := keyIs_int i t
theorem mixKind_str (prog : Program) (w : World) (x : Str) (t : Tok) : (mixKind prog w).is (.inr x) (.str x t) = true := keyIs_str x t
end L2
namespace L2
open PySem PySem.Spec PyProof.Rows
inductive V where
  | non | bl (b : Bool) | int (i : Int) | str (x : Str) | byt (b : Array UInt8) | flt (b : UInt64) | ref (a : Addr) | ty (n : String)
  deriving DecidableEq
def RelV : V → Value → Prop
  | .non, u => u = Value.none
  | .bl b, u => u = Value.bool b
  | .int i, u => ∃ t, u = Value.int i t
  | .str x, u => ∃ t, u = Value.str x t
  | .byt b, u => ∃ t, u = Value.bytes b t
  | .flt b, u => ∃ t, u = Value.float b t
  | .ref a, u => u = Value.ref a
  | .ty n, u => u = Value.type n
abbrev Vals : List V → List Value → Prop := Paired RelV
theorem Vals.length {xs : List V} {us : List Value} (r : Vals xs us) : xs.length = us.length := Paired.length r
theorem Vals.get : ∀ {xs : List V} {us : List Value} {i : Nat} {x : V}, Vals xs us → xs[i]? = some x → ∃ u, us[i]? = some u ∧ RelV x u
  | _, _, _, _, .nil, e => by simp at e
  | _, _, 0, _, .cons r _, e => by simp at e; subst e; exact ⟨_, rfl, r⟩
  | _, _, i + 1, x, .cons _ t, e => by
    obtain ⟨u, h1, h2⟩ := Vals.get (i := i) (x := x) t (by simpa using e)
    exact ⟨u, by simpa using h1, h2⟩
theorem Vals.set {x : V} {u : Value} (r : RelV x u) : ∀ {xs : List V} {us : List Value} (i : Nat), Vals xs us → Vals (xs.set i x) (us.set i u)
  | _, _, _, .nil => .nil
  | _, _, 0, .cons _ t => .cons r t
  | _, _, i + 1, .cons q t => .cons q (Vals.set r i t)
theorem Vals.append : ∀ {xs ys : List V} {us ws : List Value}, Vals xs us → Vals ys ws → Vals (xs ++ ys) (us ++ ws)
  | _, _, _, _, .nil, s => s
  | _, _, _, _, .cons r t, s => .cons r (Vals.append t s)
theorem Vals.take : ∀ {xs : List V} {us : List Value} (n : Nat), Vals xs us → Vals (xs.take n) (us.take n)
  | _, _, 0, _ => .nil
  | _, _, _ + 1, .nil => .nil
  | _, _, n + 1, .cons r t => .cons r (Vals.take n t)
theorem Vals.drop : ∀ {xs : List V} {us : List Value} (n : Nat), Vals xs us → Vals (xs.drop n) (us.drop n)
  | _, _, 0, r => r
  | _, _, _ + 1, .nil => .nil
  | _, _, n + 1, .cons _ t => Vals.drop n t
def RelO : Option V → Option Value → Prop
  | some v, some u => RelV v u
  | none, none => True
  | _, _ => False
def KV {κ : Type} : List (κ × V) → List (κ × Value) → Prop := Paired fun (p : κ × V) (q : κ × Value) => p.1 = q.1 ∧ RelV p.2 q.2
def kV : Key → V
  | .inl i => .int i
  | .inr x => .str x
inductive HO where
  | lst (xs : List V)
  | tup (xs : List V)
  | dK (kvs : List (Key × V)) | dT (kvs : List (List Key × V))
  | set (S : Int → Bool) (n : Nat)
  | ins (C dx : Addr) (fs : List (Str × V))
  | own (x : Addr)
  | xd (fs : List (Str × V))
  | met (f x : Addr)
  | rng (lo hi : Int)
  | frz (o : Obj) (u : HO)
  | tbl (ps : Array Value)
  | ext (φ : Heap → Prop)
abbrev Hp := Addr → Option HO
def upd (H : Hp) (a : Addr) (o : HO) : Hp := fun b => if b = a then some o else H b
theorem upd_same {H : Hp} {a : Addr} {o : HO} : upd H a o a = some o := by unfold upd; rw [if_pos rfl]
theorem upd_ne {H : Hp} {a b : Addr} {o : HO} (h : b ≠ a) : upd H a o b = H b := by unfold upd; rw [if_neg h]
theorem upd_upd {H : Hp} {a : Addr} {o u : HO} : upd (upd H a o) a u = upd H a u := by
  funext b; unfold upd; split <;> rfl
theorem ne_of {H : Hp} {a b : Addr} {o u : HO} (h : H a = some o) (h' : H b = some u) (d : o ≠ u) : a ≠ b := by
  intro e; subst e; rw [h] at h'; exact d (Option.some.inj h')
theorem ne_of_none {H : Hp} {a b : Addr} {o : HO} (h : H a = some o) (h' : H b = none) : a ≠ b := by
  intro e; subst e; rw [h] at h'; cases h'
section
variable (P : Program) (w : World)
def ObjOk (H : Hp) (h : Heap) (a : Addr) : HO → Prop
  | .lst xs => xs.length ≤ sizeLine ∧ ∃ (its : List Value) (n : Nat), Vals xs its ∧ h.get? a = some { cls := .type "list", data := .seq its.toArray n }
  | .tup xs => xs.length ≤ sizeLine ∧ ∃ its : List Value, Vals xs its ∧ IsTup h a its.toArray
  | .dK kvs => kvs.length ≤ sizeLine ∧ (a == sysModules) = false ∧ ∃ vs, KV kvs vs ∧ h.DictOf (mixKind P w) a vs
  | .dT kvs => kvs.length ≤ sizeLine ∧ (a == sysModules) = false ∧ ∃ xs : List (List Key × Addr × Value),
      Paired (fun (p : List Key × V) (q : List Key × Addr × Value) => p.1 = q.1 ∧ H q.2.1 = some (.tup (p.1.map kV)) ∧ RelV p.2 q.2.2) kvs xs ∧
      ∃ o es ep, h.get? a = some o ∧ o.ExactDict ∧ o.data = .dict es ep ∧ es.toList = xs.map (entryOfKey (tupleKind (mixKind P w))) ∧ (xs.map (·.1)).Nodup
  | .set S n => h.SetOf (intKind P w) a S n
  | .ins C dx fs => H dx = some (.own a) ∧ fs.length ≤ 1000 ∧ dx ≠ a ∧ h.get? a = some (PySem.W.instObj C dx) ∧
      ∃ mA, h.Ns1 dx mA ∧ (∀ f, RelO (fs.lookup f) (mA f)) ∧ PySem.Within mA (fs.map (·.1))
  | .own _ => ∃ o, h.get? a = some o
  | .xd fs => ∃ mA, h.Ns1 a mA ∧ ∀ f, RelO (fs.lookup f) (mA f)
  | .rng lo hi => ∃ t u v, h.get? a = some { cls := .type "range", data := .fields #[.int lo t, .int hi u, .int 1 v] }
  | .frz o u => h.get? a = some o ∧ ObjOk H h a u
  | .tbl ps => h.get? a = some { cls := .none, data := .fields ps }
  | .met f x => h.get? a = some (PySem.W.methodObj (.ref f) (.ref x))
  | .ext φ => φ h ∧ (∃ o, h.get? a = some o) ∧ ∀ h1 h2 : Heap, φ h1 → (∀ o, h1.get? a = some o → h2.get? a = some o) → φ h2
def HOk (H : Hp) (h : Heap) : Prop := ∀ a o, H a = some o → ObjOk P w H h a o
end
section
variable {P : Program} {w : World} {H H' : Hp} {h h' : Heap} {a : Addr} {o : HO}
theorem ObjOk.lt (x : ObjOk P w H h a o) : a < h.objs.size := by
  cases o with
  | lst xs => obtain ⟨_, _, _, _, e⟩ := x; exact Heap.lt_size e
  | tup xs => obtain ⟨_, _, _, p⟩ := x; exact p.lt
  | dK kvs => obtain ⟨_, _, _, _, o, _, _, e, _⟩ := x; exact Heap.lt_size e
  | dT kvs => obtain ⟨_, _, _, _, o, _, _, e, _⟩ := x; exact Heap.lt_size e
  | set S n => obtain ⟨o, _, _, _, e, _⟩ := x; exact Heap.lt_size e
  | ins C dx fs => obtain ⟨_, _, _, e, _⟩ := x; exact Heap.lt_size e
  | own y => obtain ⟨_, e⟩ := x; exact Heap.lt_size e
  | xd fs => obtain ⟨_, ⟨_, _, _, e, _⟩, _⟩ := x; exact Heap.lt_size e
  | rng lo hi => obtain ⟨_, _, _, e⟩ := x; exact Heap.lt_size e
  | frz ob u => obtain ⟨e, _⟩ := x; exact Heap.lt_size e
  | tbl ps => exact Heap.lt_size (show h.get? a = some _ from x)
  | met f y => exact Heap.lt_size (show h.get? a = some _ from x)
  | ext φ => obtain ⟨_, ⟨_, e⟩, _⟩ := x; exact Heap.lt_size e
theorem Paired.mapP {α β : Type} {F G : α → β → Prop} : ∀ {l₁ : List α} {l₂ : List β}, Paired F l₁ l₂ → (∀ a b, F a b → G a b) → Paired G l₁ l₂
  | _, _, .nil, _ => .nil
  | _, _, .cons r t, f => .cons (f _ _ r) (Paired.mapP t f)
theorem ObjOk.stay (x : ObjOk P w H h a o) (k : ∀ b u, (b = a ∨ H b = some (.own a)) → h.get? b = some u → h'.get? b = some u)
    (ho : ∀ b, H b = some (.own a) → H' b = some (.own a)) (ht : ∀ b xs, H b = some (.tup xs) → H' b = some (.tup xs)) : ObjOk P w H' h' a o := by
  induction o with
  | lst xs => obtain ⟨z, its, n, r, e⟩ := x; exact ⟨z, its, n, r, k _ _ (.inl rfl) e⟩
  | tup xs => obtain ⟨z, its, r, ob, e, c⟩ := x; exact ⟨z, its, r, ob, k _ _ (.inl rfl) e, c⟩
  | dK kvs => obtain ⟨z, y, vs, r, ob, es, ep, e, c⟩ := x; exact ⟨z, y, vs, r, ob, es, ep, k _ _ (.inl rfl) e, c⟩
  | dT kvs =>
    obtain ⟨z, y, xs, r, ob, es, ep, e, c⟩ := x
    exact ⟨z, y, xs, Paired.mapP r fun p q z => ⟨z.1, ht _ _ z.2.1, z.2.2⟩, ob, es, ep, k _ _ (.inl rfl) e, c⟩
  | set S n => obtain ⟨ob, es, ep, t, e, c⟩ := x; exact ⟨ob, es, ep, t, k _ _ (.inl rfl) e, c⟩
  | ins C dx fs =>
    obtain ⟨d, z, ne, e, mA, ⟨od, es, ep, e2, c⟩, r⟩ := x
    exact ⟨ho _ d, z, ne, k _ _ (.inl rfl) e, mA, ⟨od, es, ep, k _ _ (.inr d) e2, c⟩, r⟩
  | own y => obtain ⟨ob, e⟩ := x; exact ⟨ob, k _ _ (.inl rfl) e⟩
  | xd fs => obtain ⟨mA, ⟨od, es, ep, e, c⟩, r⟩ := x; exact ⟨mA, ⟨od, es, ep, k _ _ (.inl rfl) e, c⟩, r⟩
  | rng lo hi => obtain ⟨t, u, v, e⟩ := x; exact ⟨t, u, v, k _ _ (.inl rfl) e⟩
  | frz ob u ih => obtain ⟨e, q⟩ := x; exact ⟨k _ _ (.inl rfl) e, ih q⟩
  | tbl ps =>
    have e : h.get? a = some { cls := .none, data := .fields ps } := x
    show h'.get? a = some { cls := .none, data := .fields ps }
    exact k a _ (.inl rfl) e
  | met f y =>
    have e : h.get? a = some (PySem.W.methodObj (.ref f) (.ref y)) := x
    show h'.get? a = some (PySem.W.methodObj (.ref f) (.ref y))
    exact k a _ (.inl rfl) e
  | ext φ => obtain ⟨p, ⟨o, e⟩, st⟩ := x; exact ⟨st _ _ p fun o q => k _ _ (.inl rfl) q, ⟨o, k _ _ (.inl rfl) e⟩, st⟩
theorem HOk.lt (x : HOk P w H h) (e : H a = some o) : a < h.objs.size := (x a o e).lt
theorem HOk.fresh (x : HOk P w H h) (e : h.objs.size ≤ a) : H a = none := by
  cases q : H a with
  | none => rfl
  | some u => exact absurd (Nat.lt_of_lt_of_le (x.lt q) e) (Nat.lt_irrefl _)
theorem HOk.kept (x : HOk P w H h) (k : ∀ b u, h.get? b = some u → h'.get? b = some u) : HOk P w H h' := fun a o e =>
  (x a o e).stay (fun b u _ q => k b u q) (fun _ q => q) fun _ _ q => q
theorem HOk.laid (x : HOk P w H h) (k : ∀ b u, h.get? b = some u → h'.get? b = some u) (hp : h.objs.size ≤ a) (new : ObjOk P w (upd H a o) h' a o) : HOk P w (upd H a o) h' := fun b u e => by
  have hn := x.fresh hp
  by_cases hb : b = a
  · subst hb; rw [upd_same] at e; cases e; exact new
  · rw [upd_ne hb] at e
    exact (x b u e).stay (fun c v _ q => k c v q) (fun c q => by rw [upd_ne (ne_of_none q hn)]; exact q) fun c xs q => by rw [upd_ne (ne_of_none q hn)]; exact q
end
def Rd (H : Hp) (a : Addr) (u : HO) : Prop := H a = some u ∨ ∃ o, H a = some (.frz o u)
theorem Rd.ok {P : Program} {w : World} {H : Hp} {h : Heap} {a : Addr} {u : HO} (r : Rd H a u) (x : HOk P w H h) : ObjOk P w H h a u := by
  rcases r with r | ⟨o, r⟩
  · exact x a u r
  · obtain ⟨_, q⟩ := x a _ r
    exact q
def Mut : Option HO → Prop
  | some (.lst _) => True
  | some (.dK _) => True
  | some (.dT _) => True
  | some (.set _ _) => True
  | some (.ins _ _ _) => True
  | some (.ext _) => True
  | _ => False
section
variable {P : Program} {w : World} {H : Hp} {h h' : Heap} {x e : Addr} {o' : HO}
theorem HOk.write (ok : HOk P w H h) (mu : Mut (H x)) (he : e = x ∨ H e = some (.own x)) (k : ∀ b u, b ≠ e → h.get? b = some u → h'.get? b = some u) (heo : ∃ u, h'.get? e = some u)
    (new : ObjOk P w (upd H x o') h' x o') : HOk P w (upd H x o') h' := fun b u q => by
  have nown : ∀ c y, H c = some (.own y) → c ≠ x := fun c y r z => by subst z; rw [r] at mu; exact mu
  have ntup : ∀ c xs, H c = some (.tup xs) → c ≠ x := fun c xs r z => by subst z; rw [r] at mu; exact mu
  by_cases hb : b = x
  · subst hb; rw [upd_same] at q; cases q; exact new
  · rw [upd_ne hb] at q
    by_cases hbe : b = e
    · have q' : H b = some (.own x) := by
        rcases he with z | z
        · exact absurd (hbe.trans z) hb
        · rw [hbe]; exact z
      rw [q] at q'; cases q'
      obtain ⟨v, hv⟩ := heo
      exact ⟨v, by rw [hbe]; exact hv⟩
    · refine (ok b u q).stay (fun c v hc r => k c v ?_ r) (fun c r => by rw [upd_ne (nown c b r)]; exact r) fun c xs r => by rw [upd_ne (ntup c xs r)]; exact r
      rcases hc with rfl | hc
      · exact hbe
      · rintro rfl
        rcases he with z | z
        · exact nown c b hc z
        · rw [hc] at z; cases z; exact hb rfl
end
structure Un (fs ex : List Addr) (H H' : Hp) (h h' : Heap) : Prop where
  keep : ∀ b o, h.get? b = some o → H b = none → b ∉ fs → b ∉ ex → h'.get? b = some o
  slot : ∀ b o, h.get? b = some o → H b = none → b ∈ fs → b ∉ ex → ∃ sl, h'.get? b = some { o with slots := sl }
  free : ∀ b o, h.get? b = some o → H b = none → b ∉ ex → H' b = none
  there : ∀ b o, h.get? b = some o → b ∉ ex → ∃ o', h'.get? b = some o'
  tups : ∀ b xs, H b = some (.tup xs) → H' b = some (.tup xs)
  frzs : ∀ b o u, H b = some (.frz o u) → H' b = some (.frz o u)
  tbls : ∀ b ps, H b = some (.tbl ps) → ∃ more, H' b = some (.tbl (ps ++ more))
section
variable {fs fs' ex ex' : List Addr} {H H1 H2 : Hp} {h h1 h2 h' : Heap} {a x e : Addr} {o : HO}
theorem Un.any (u : Un fs ex H H1 h h1) {b : Addr} {ob : Obj} (q : h.get? b = some ob) (n : H b = none) (hx : b ∉ ex) : ∃ sl, h1.get? b = some { ob with slots := sl } := by
  by_cases hb : b ∈ fs
  · exact u.slot b ob q n hb hx
  · exact ⟨ob.slots, u.keep b ob q n hb hx⟩
theorem Un.kept (k : ∀ b u, h.get? b = some u → h'.get? b = some u) : Un fs ex H H h h' :=
  ⟨fun b ob q _ _ _ => k b ob q, fun b ob q _ _ _ => ⟨ob.slots, k b ob q⟩, fun _ _ _ n _ => n, fun b ob q _ => ⟨ob, k b ob q⟩, fun _ _ q => q, fun _ _ _ q => q, fun _ ps q => ⟨#[], by rw [q]; simp⟩⟩
theorem Un.refl : Un fs ex H H h h := Un.kept fun _ _ q => q
theorem Un.laid (k : ∀ b u, h.get? b = some u → h'.get? b = some u) (hp : h.objs.size ≤ a) (hn : H a = none) : Un fs ex H (upd H a o) h h' where
  keep := fun b u q _ _ _ => k b u q
  slot := fun b u q _ _ _ => ⟨u.slots, k b u q⟩
  free := fun b u q n _ => by rw [upd_ne (Nat.ne_of_lt (Nat.lt_of_lt_of_le (Heap.lt_size q) hp))]; exact n
  there := fun b u q _ => ⟨u, k b u q⟩
  tups := fun b xs q => by rw [upd_ne (ne_of_none q hn)]; exact q
  frzs := fun b u xs q => by rw [upd_ne (ne_of_none q hn)]; exact q
  tbls := fun b ps q => ⟨#[], by rw [upd_ne (ne_of_none q hn), q]; simp⟩
theorem Un.write (mu : Mut (H x)) (he : e = x ∨ H e = some (.own x)) (k : ∀ b u, b ≠ e → h.get? b = some u → h'.get? b = some u) (heo : ∃ u, h'.get? e = some u) : Un fs ex H (upd H x o) h h' := by
  have hx : ∀ b, H b = none → b ≠ x := fun b n z => by subst z; rw [n] at mu; exact mu
  have hb : ∀ b, H b = none → b ≠ e := fun b n z => by
    subst z
    rcases he with r | r
    · exact hx b n r
    · rw [n] at r; cases r
  have hm : ∀ b u, H b = some u → ¬ Mut (some u) → b ≠ x := fun b u q nm z => by subst z; rw [q] at mu; exact nm mu
  refine ⟨fun b u q n _ _ => k b u (hb b n) q, fun b u q n _ _ => ⟨u.slots, k b u (hb b n) q⟩, fun b u q n _ => by rw [upd_ne (hx b n)]; exact n, fun b u q _ => ?_,
    fun b xs q => by rw [upd_ne (hm b _ q fun z => z)]; exact q, fun b u xs q => by rw [upd_ne (hm b _ q fun z => z)]; exact q, fun b ps q => ⟨#[], by rw [upd_ne (hm b _ q fun z => z), q]; simp⟩⟩
  by_cases hbe : b = e
  · subst hbe; exact heo
  · exact ⟨u, k b u hbe q⟩
end
def trk (h : Heap) (H : Hp) : List Addr := (List.range h.objs.size).filter fun a => (H a).isSome
def hidT (h : Heap) (H : Hp) : Heap := PySem.W.hideAll h (trk h H)
theorem hidT_size (h : Heap) (H : Hp) : (hidT h H).objs.size = h.objs.size := PySem.W.hideAll_size _ _
theorem hidT_get {h : Heap} {H : Hp} {b : Addr} {o : Obj} (e : h.get? b = some o) (n : H b = none) : (hidT h H).get? b = some o :=
  PySem.W.hideAll_get _ e fun hm => by
    have q : (H b).isSome = true := (List.mem_filter.mp hm).2
    rw [n] at q; simp at q
theorem of_hidT {h : Heap} {H : Hp} {b : Addr} {o : Obj} (e : (hidT h H).get? b = some o) : h.get? b = some o ∧ H b = none := by
  have e' : h.get? b = some o := PySem.W.of_hideAll (trk h H) e
  refine ⟨e', ?_⟩
  cases q : H b with
  | none => rfl
  | some x =>
    have hm : b ∈ trk h H := List.mem_filter.mpr ⟨List.mem_range.mpr (Heap.lt_size e'), by simp [q]⟩
    have z : (hidT h H).get? b = none := PySem.W.hideAll_none (trk h H) hm
    rw [z] at e; cases e
def allNews (g h : Heap) (L : Addr) : List (Addr × Obj) := (List.range h.objs.size).filterMap fun a => if a = L ∨ (g.get? a).isSome = true then none else (h.get? a).map fun o => (a, o)
def rest (g h : Heap) (L d : Addr) : List (Addr × Obj) := (allNews g h L).filter fun p => decide (p.1 ≠ d)
end L2
namespace L2
open PySem PySem.Spec PyProof.Rows
structure Mod (K : PySem.W.Frag) (mg : Str → Option Value) (base : Heap) : Prop where
  kin : K.In base
  glob : base.Ns mainGlobals mg
  blt : ∃ mb, base.Ns builtinsNs mb ∧ ∀ x : Str, x ≠ "__name__" → mb x = bootBuiltins x
  nolimit : base.NoLimit
structure Cx where
  prog : Program
  w : World
  K : PySem.W.Frag
  mg : Str → Option Value
  base : Heap
  A : Around
  N : List Str
  s₀ : Shared
  H₀ : Hp
  env : Env
  outer : List Env
  stack : List Env
  ex : List Addr
  fn : Str → Bool
  calm : Bool
  pn : List (Addr × Obj)
  xe : Value → Shared → Prop
def frs (l : List Env) : List Addr := l.filterMap (·.frame)
abbrev Cx.fs (X : Cx) : List Addr := frs X.outer
def Vis (sc : Scope) (x : Str) : Prop := sc.names.lookup x = some .local ∨ sc.names.lookup x = some .cell ∨ sc.names.lookup x = some .free
def Loc (sc : Scope) (x : Str) : Prop := sc.names.lookup x = some .local ∨ sc.names.lookup x = some .cell
def Look (env : Env) (h : Heap) (m : Str → Option Value) (x : Str) (u : Value) : Prop :=
  (env.kindOf x = some .local ∧ m x = some u) ∨ ((env.kindOf x = some .cell ∨ env.kindOf x = some .free) ∧ ∃ c, env.cells.lookup x = some c ∧ h.IsCell c (some u))
structure Cx.Ok (X : Cx) : Prop where
  mod : Mod X.K X.mg X.base
  kind : X.env.scope.kind = .function
  glob : X.env.globals = mainGlobals
  blt : X.env.builtins = builtinsNs
  above : X.s₀.heap.objs.size ≤ X.env.locals
  inj : ∀ x y c, X.env.cells.lookup x = some c → X.env.cells.lookup y = some c → x = y
  has : ∀ x, (X.env.kindOf x = some .cell ∨ X.env.kindOf x = some .free) → ∃ c, X.env.cells.lookup x = some c
  cab : ∀ x c, X.fn x = true → X.env.cells.lookup x = some c → X.s₀.heap.objs.size ≤ c
  hd : X.calm = true → X.A.handled = none
  frames : X.A.frames = some X.stack
  stk : X.stack = X.outer ∨ (X.stack = X.env :: X.outer ∧ X.env.frame = some X.env.locals)
  exf : ∀ b ∈ X.ex, b ≠ X.env.locals ∧ ∀ x c, X.env.cells.lookup x = some c → c ≠ b
  bs : ∀ b o, X.base.get? b = some o → X.s₀.heap.get? b = some o ∧ X.H₀ b = none
  bsz : X.base.objs.size ≤ X.s₀.heap.objs.size
  noex : ∀ b o, X.base.get? b = some o → b ∉ X.ex
  exfs : ∀ b ∈ X.ex, b ∉ X.fs
  funs : X.s₀.heap.FunFrames X.base X.outer
  frf : ∀ b ∈ X.fs, X.H₀ b = none
structure Inv (X : Cx) (pins : List (Addr × Obj)) (σ : List (Option V)) (H : Hp) (s : Shared) : Prop where
  ok : X.Ok
  os : s.os = X.s₀.os
  bare : AllBare s.gens
  base : Un X.fs X.ex X.H₀ H X.s₀.heap s.heap
  loc : ∃ m, s.heap.Ns X.env.locals m ∧ ∀ (i : Nat) (x : Str) (v : V), X.N[i]? = some x → σ[i]? = some (some v) → Vis X.env.scope x → ∃ u, RelV v u ∧ Look X.env s.heap m x u
  cell : ∀ x c, X.env.cells.lookup x = some c → ∃ v, s.heap.IsCell c v
  free : H X.env.locals = none
  freeC : ∀ x c, X.env.cells.lookup x = some c → H c = none
  pin : ∀ p ∈ X.pn ++ pins, s.heap.get? p.1 = some p.2 ∧ H p.1 = none ∧ p.1 ≠ X.env.locals ∧ p.1 ∉ X.fs ∧ ∀ v, p.2.data ≠ .cell v
  hok : HOk X.prog X.w H s.heap
  len : σ.length = X.N.length
section
variable {X : Cx} {pins : List (Addr × Obj)} {σ : List (Option V)} {H H' : Hp} {s : Shared} {h' : Heap}
theorem Cx.Ok.nofr (ok : X.Ok) {b : Addr} {o : Obj} (e : X.base.get? b = some o) : b ∉ X.fs := fun hb => by
  have := (ok.funs.mem hb).1
  rw [e] at this; cases this
theorem Inv.bs (I : Inv X pins σ H s) : ∀ b o, X.base.get? b = some o → s.heap.get? b = some o ∧ H b = none := fun b o e =>
  ⟨I.base.keep b o (I.ok.bs b o e).1 (I.ok.bs b o e).2 (I.ok.nofr e) (I.ok.noex b o e), I.base.free b o (I.ok.bs b o e).1 (I.ok.bs b o e).2 (I.ok.noex b o e)⟩
theorem Inv.bk (I : Inv X pins σ H s) : ∀ b o, X.base.get? b = some o → s.heap.get? b = some o := fun b o e => (I.bs b o e).1
theorem Inv.mod (I : Inv X pins σ H s) : Mod X.K X.mg X.base := I.ok.mod
theorem Inv.kIn (I : Inv X pins σ H s) : X.K.In s.heap := I.ok.mod.kin.keeps I.bk
theorem Inv.lt (I : Inv X pins σ H s) : X.env.locals < s.heap.objs.size := let ⟨_, hn, _⟩ := I.loc; hn.lt
theorem Inv.sz (I : Inv X pins σ H s) : X.s₀.heap.objs.size ≤ s.heap.objs.size := Nat.le_trans I.ok.above (Nat.le_of_lt I.lt)
theorem Inv.nofs (I : Inv X pins σ H s) {a : Addr} (h : s.heap.objs.size ≤ a) : a ∉ X.fs := fun hb => by
  obtain ⟨_, o, ho, _⟩ := I.ok.funs.mem hb
  exact absurd (Nat.lt_of_lt_of_le (Heap.lt_size ho) (Nat.le_trans I.sz h)) (Nat.lt_irrefl _)
theorem Inv.cne (I : Inv X pins σ H s) : ∀ x c, X.env.cells.lookup x = some c → c ≠ X.env.locals := fun x c e z => by
  obtain ⟨v, o, ho, hd⟩ := I.cell x c e
  obtain ⟨m, ⟨o', es, ep, ho', hd', _⟩, _⟩ := I.loc
  rw [z, ho'] at ho; cases ho; rw [hd'] at hd; cases hd
theorem Inv.funs (I : Inv X pins σ H s) : s.heap.FunFrames X.base X.outer := by
  have all : ∀ (l : List Env), (∀ b ∈ frs l, b ∈ X.fs) → X.s₀.heap.FunFrames X.base l → s.heap.FunFrames X.base l := by
    intro l
    induction l with
    | nil => intro _ _; trivial
    | cons env r ih =>
      intro hs hl
      obtain ⟨hk, ⟨L, o, hf, hn, ho, hd⟩, hr⟩ := hl
      have hL : L ∈ X.fs := hs L (by unfold frs; rw [List.filterMap_cons, hf]; exact List.mem_cons_self)
      obtain ⟨sl, e⟩ := I.base.slot L o ho (I.ok.frf L hL) hL fun z => I.ok.exfs L z hL
      exact ⟨hk, ⟨L, _, hf, hn, e, hd⟩, ih (fun b hb => hs b (by unfold frs; rw [List.filterMap_cons, hf]; exact List.mem_cons_of_mem _ hb)) hr⟩
  exact all X.outer (fun _ hb => hb) I.ok.funs
theorem Inv.stack (I : Inv X pins σ H s) : s.heap.FunFrames X.base X.stack := by
  rcases I.ok.stk with e | ⟨e, hf⟩
  · rw [e]; exact I.funs
  · rw [e]
    obtain ⟨m, hn, _⟩ := I.loc
    refine .cons (by rw [I.ok.kind]; decide) hf hn ?_ I.funs
    exact Heap.get?_none_of_le (Nat.le_trans I.ok.bsz I.ok.above)
theorem Inv.stkSub (I : Inv X pins σ H s) : ∀ b ∈ frs X.stack, b ∈ X.env.locals :: X.fs := fun b hb => by
  rcases I.ok.stk with e | ⟨e, hf⟩
  · rw [e] at hb; exact List.mem_cons_of_mem _ hb
  · rw [e] at hb
    unfold frs at hb
    rw [List.filterMap_cons, hf] at hb
    exact hb
theorem Inv.stkFree (I : Inv X pins σ H s) : ∀ b ∈ frs X.stack, H b = none := fun b hb => by
  rcases List.mem_cons.mp (I.stkSub b hb) with e | hb
  · rw [e]; exact I.free
  · obtain ⟨_, o, ho, _⟩ := I.ok.funs.mem hb
    exact I.base.free b o ho (I.ok.frf b hb) fun z => I.ok.exfs b z hb
theorem Inv.step {g' : Array GenState} {t' : Nat} {d' : Drawn} {ch : List Addr} (I : Inv X pins σ H s)
    (hch : ∀ b ∈ ch, (b ∈ X.ex ∨ X.s₀.heap.objs.size ≤ b) ∧ b ≠ X.env.locals ∧ (∀ x c, X.env.cells.lookup x = some c → c ≠ b) ∧ ∀ p ∈ X.pn ++ pins, p.1 ≠ b)
    (keep : ∀ b o, b ≠ X.env.locals → b ∉ X.fs → b ∉ ch → s.heap.get? b = some o → H b = none → h'.get? b = some o)
    (slot : ∀ b o, b ≠ X.env.locals → b ∈ X.fs → b ∉ ch → s.heap.get? b = some o → H b = none → ∃ sl, h'.get? b = some { o with slots := sl }) (free : ∀ b o, b ∉ ch → s.heap.get? b = some o → H b = none → H' b = none)
    (there : ∀ b o, b ∉ ch → s.heap.get? b = some o → ∃ o', h'.get? b = some o')
    (tups : ∀ b xs, H b = some (.tup xs) → H' b = some (.tup xs)) (frzs : ∀ b o u, H b = some (.frz o u) → H' b = some (.frz o u)) (tbls : ∀ b ps, H b = some (.tbl ps) → ∃ more, H' b = some (.tbl (ps ++ more)))
    (ns : ∀ m, s.heap.Ns X.env.locals m → h'.Ns X.env.locals m) (hok : HOk X.prog X.w H' h') (hg : AllBare g') :
    Inv X pins σ H' { s with heap := h', gens := g', drawn := d', toks := t' } := by
  have neL : ∀ b o, X.s₀.heap.get? b = some o → b ≠ X.env.locals := fun b o e => Nat.ne_of_lt (Nat.lt_of_lt_of_le (Heap.lt_size e) I.ok.above)
  have neC : ∀ b o, X.s₀.heap.get? b = some o → b ∉ X.ex → b ∉ ch := fun b o e hx hb => by
    rcases (hch b hb).1 with z | z
    · exact hx z
    · exact absurd (Nat.lt_of_lt_of_le (Heap.lt_size e) z) (Nat.lt_irrefl _)
  have cellK : ∀ x c, X.env.cells.lookup x = some c → ∀ v, s.heap.IsCell c v → h'.IsCell c v := fun x c e v ⟨o, ho, hd⟩ => by
    have nch : c ∉ ch := fun z => (hch c z).2.2.1 x c e rfl
    by_cases hc : c ∈ X.fs
    · obtain ⟨sl, q⟩ := slot c o (I.cne x c e) hc nch ho (I.freeC x c e)
      exact ⟨_, q, hd⟩
    · exact ⟨o, keep c o (I.cne x c e) hc nch ho (I.freeC x c e), hd⟩
  refine ⟨I.ok, I.os, hg, ⟨fun b o e n hb hx => ?_, fun b o e n hb hx => ?_, fun b o e n hx => ?_, fun b o e hx => ?_, fun b xs e => tups b xs (I.base.tups b xs e), fun b o xs e => frzs b o xs (I.base.frzs b o xs e), fun b ps e => ?_⟩, ?_, fun x c e => ?_, ?_, fun x c e => ?_, fun p hp => ?_, hok, I.len⟩
  · exact keep b o (neL b o e) hb (neC b o e hx) (I.base.keep b o e n hb hx) (I.base.free b o e n hx)
  · obtain ⟨sl, e1⟩ := I.base.slot b o e n hb hx
    obtain ⟨sl', e2⟩ := slot b _ (neL b o e) hb (neC b o e hx) e1 (I.base.free b o e n hx)
    exact ⟨sl', e2⟩
  · obtain ⟨o', e1⟩ := I.base.there b o e hx
    exact free b o' (neC b o e hx) e1 (I.base.free b o e n hx)
  · obtain ⟨o', e1⟩ := I.base.there b o e hx
    exact there b o' (neC b o e hx) e1
  · obtain ⟨m1, e1⟩ := I.base.tbls b ps e
    obtain ⟨m2, e2⟩ := tbls b _ e1
    exact ⟨m1 ++ m2, by rw [e2, Array.append_assoc]⟩
  · obtain ⟨m, hn, hl⟩ := I.loc
    refine ⟨m, ns m hn, fun i x v e1 e2 e3 => ?_⟩
    obtain ⟨u, r, l⟩ := hl i x v e1 e2 e3
    refine ⟨u, r, ?_⟩
    rcases l with l | ⟨k, c, e, z⟩
    · exact .inl l
    · exact .inr ⟨k, c, e, cellK x c e _ z⟩
  · obtain ⟨v, z⟩ := I.cell x c e
    exact ⟨v, cellK x c e v z⟩
  · obtain ⟨m, ⟨o, _, _, ho, _⟩, _⟩ := I.loc
    exact free _ o (fun z => (hch _ z).2.1 rfl) ho I.free
  · obtain ⟨v, o, ho, hd⟩ := I.cell x c e
    exact free c o (fun z => (hch c z).2.2.1 x c e rfl) ho (I.freeC x c e)
  · obtain ⟨e, n, ne, nf, d⟩ := I.pin p hp
    have nch : p.1 ∉ ch := fun z => (hch p.1 z).2.2.2 p hp rfl
    exact ⟨keep p.1 p.2 ne nf nch e n, free p.1 p.2 nch e n, ne, nf, d⟩
theorem Inv.un {t' : Nat} (I : Inv X pins σ H s) (u : Un X.fs [] H H' s.heap h') (hok : HOk X.prog X.w H' h') : Inv X pins σ H' { s with heap := h', toks := t' } := by
  obtain ⟨m, ⟨o, es, ep, ho, r⟩, _⟩ := id I.loc
  obtain ⟨sl, hL⟩ := u.any ho I.free (by simp)
  exact I.step (g' := s.gens) (d' := s.drawn) (ch := []) (fun _ z => nomatch z) (fun b o _ hb _ e n => u.keep b o e n hb (by simp)) (fun b o _ hb _ e n => u.slot b o e n hb (by simp)) (fun b o _ e n => u.free b o e n (by simp)) (fun b o _ e => u.there b o e (by simp)) u.tups u.frzs u.tbls (fun m' hm => by
    obtain ⟨o', es', ep', ho', r'⟩ := hm
    rw [ho] at ho'; cases ho'
    exact ⟨_, es', ep', hL, r'⟩) hok I.bare
theorem Inv.call {g' : Array GenState} {t' : Nat} {d' : Drawn} {ch : List Addr} (I : Inv X pins σ H s) (u : Un (frs X.stack) ch H H' s.heap h') (hok : HOk X.prog X.w H' h') (hg : AllBare g')
    (hch : ∀ b ∈ ch, (b ∈ X.ex ∨ X.s₀.heap.objs.size ≤ b) ∧ b ≠ X.env.locals ∧ (∀ x c, X.env.cells.lookup x = some c → c ≠ b) ∧ ∀ p ∈ X.pn ++ pins, p.1 ≠ b) :
    Inv X pins σ H' { s with heap := h', gens := g', drawn := d', toks := t' } := by
  obtain ⟨m, ⟨o, es, ep, ho, r⟩, _⟩ := id I.loc
  obtain ⟨sl, hL⟩ := u.any ho I.free fun z => (hch _ z).2.1 rfl
  exact I.step (ch := ch) hch (fun b o hL hb hc e n => u.keep b o e n (fun z => (List.mem_cons.mp (I.stkSub b z)).elim hL hb) hc) (fun b o _ _ hc e n => u.any e n hc) (fun b o hc e n => u.free b o e n hc) (fun b o hc e => u.there b o e hc) u.tups u.frzs u.tbls (fun m' hm => by
    obtain ⟨o', es', ep', ho', r'⟩ := hm
    rw [ho] at ho'; cases ho'
    exact ⟨_, es', ep', hL, r'⟩) hok hg
theorem Inv.turned {t' : Nat} {it : Addr} (I : Inv X pins σ H s) (k : ∀ b o, b ≠ it → s.heap.get? b = some o → h'.get? b = some o) (hn : H it = none) (hL : it ≠ X.env.locals)
    (h1 : it ∈ X.ex ∨ X.s₀.heap.objs.size ≤ it) (h2 : ∀ x c, X.env.cells.lookup x = some c → c ≠ it) (h3 : ∀ p ∈ X.pn ++ pins, p.1 ≠ it) : Inv X pins σ H { s with heap := h', toks := t' } := by
  have nit : ∀ b u, H b = some u → b ≠ it := fun b u e z => by rw [z, hn] at e; cases e
  refine I.step (g' := s.gens) (d' := s.drawn) (ch := [it]) (fun b hb => ?_) (fun b o _ _ hc e _ => k b o (fun z => hc (by simp [z])) e) (fun b o _ _ hc e _ => ⟨o.slots, k b o (fun z => hc (by simp [z])) e⟩) (fun _ _ _ _ n => n)
    (fun b o hc e => ⟨o, k b o (fun z => hc (by simp [z])) e⟩) (fun _ _ e => e) (fun _ _ _ e => e) (fun b ps e => ⟨#[], by rw [e]; simp⟩) (fun m hm => ?_) (fun b u e => ?_) I.bare
  · have e : b = it := by simpa using hb
    subst e
    exact ⟨h1, hL, h2, h3⟩
  · obtain ⟨o, es, ep, ho, r⟩ := hm
    exact ⟨o, es, ep, k _ o (Ne.symm hL) ho, r⟩
  · refine (I.hok b u e).stay (fun c v hc q => k c v ?_ q) (fun _ q => q) fun _ _ q => q
    rcases hc with z | z
    · rw [z]; exact nit b u e
    · exact nit c _ z
theorem Inv.tok (I : Inv X pins σ H s) (t : Nat) : Inv X pins σ H { s with toks := t } := I.un (h' := s.heap) (t' := t) Un.refl I.hok
theorem Inv.kept {t' : Nat} (I : Inv X pins σ H s) (k : ∀ b u, s.heap.get? b = some u → h'.get? b = some u) : Inv X pins σ H { s with heap := h', toks := t' } := I.un (Un.kept k) (I.hok.kept k)
theorem Inv.laid {a : Addr} {o : HO} {t' : Nat} (I : Inv X pins σ H s) (k : ∀ b u, s.heap.get? b = some u → h'.get? b = some u) (hp : s.heap.objs.size ≤ a) (new : ObjOk X.prog X.w (upd H a o) h' a o) :
    Inv X pins σ (upd H a o) { s with heap := h', toks := t' } := I.un (Un.laid k hp (I.hok.fresh hp)) (I.hok.laid k hp new)
theorem Inv.write {x e : Addr} {o : HO} {t' : Nat} (I : Inv X pins σ H s) (mu : Mut (H x)) (he : e = x ∨ H e = some (.own x)) (k : ∀ b u, b ≠ e → s.heap.get? b = some u → h'.get? b = some u) (heo : ∃ u, h'.get? e = some u)
    (new : ObjOk X.prog X.w (upd H x o) h' x o) : Inv X pins σ (upd H x o) { s with heap := h', toks := t' } := I.un (Un.write mu he k heo) (I.hok.write mu he k heo new)
theorem Inv.pins_of {pins' : List (Addr × Obj)} (I : Inv X pins σ H s) (h : ∀ p ∈ pins', s.heap.get? p.1 = some p.2 ∧ H p.1 = none ∧ p.1 ≠ X.env.locals ∧ p.1 ∉ X.fs ∧ ∀ v, p.2.data ≠ .cell v) : Inv X pins' σ H s :=
  ⟨I.ok, I.os, I.bare, I.base, I.loc, I.cell, I.free, I.freeC, fun p hp => (List.mem_append.mp hp).elim (fun z => I.pin p (List.mem_append_left _ z)) (h p), I.hok, I.len⟩
theorem nodup_ix {N : List Str} (hN : N.Nodup) {i j : Nat} {x : Str} (a : N[i]? = some x) (b : N[j]? = some x) : i = j := by
  obtain ⟨h1, e1⟩ := List.getElem?_eq_some_iff.mp a
  obtain ⟨h2, e2⟩ := List.getElem?_eq_some_iff.mp b
  exact (List.getElem_inj hN).mp (e1.trans e2.symm)
theorem store_ok2 {M : Model} {A : Around} {E : Value → Shared → Prop} {i : Nat} {x : Str} {v : V} {u : Value} {Q : Unit → Shared → Prop} (I : Inv X pins σ H s) (hN : X.N.Nodup) (hi : X.N[i]? = some x) (hx : Loc X.env.scope x) (r : RelV v u)
    (h : ∀ s', Inv X pins (σ.set i (some v)) H s' → (∃ a, Heap.SameBut a s.heap s'.heap ∧ (a = X.env.locals ∨ X.env.cells.lookup x = some a)) → Q () s') (hf : X.fn x = true ∨ X.env.scope.names.lookup x = some .local := by first | exact .inl rfl | exact .inr rfl | assumption) : wpAny M A (storeName X.env x u) Q E s := by
  obtain ⟨m, hn, hl⟩ := id I.loc
  have hcls : (X.env.scope.kind == .class || (X.env.scope.kind == .module && X.env.locals != X.env.globals)) = false := by rw [I.ok.kind]; rfl
  have hiσ : i < σ.length := by rw [I.len]; exact (List.getElem?_eq_some_iff.mp hi).1
  have cne := I.cne
  have tracked : ∀ {a : Addr} {h' : Heap}, (∃ o, s.heap.get? a = some o ∧ H a = none) → Heap.SameBut a s.heap h' → HOk X.prog X.w H h' := fun {a h'} ha hs b ob e => by
    obtain ⟨_, _, hfree⟩ := ha
    refine (I.hok b ob e).stay (fun c w' hc q => (hs.2 c ?_).trans q) (fun _ q => q) fun _ _ q => q
    rintro rfl
    rcases hc with rfl | hc
    · rw [hfree] at e; cases e
    · rw [hfree] at hc; cases hc
  rcases hx with hk | hk
  · refine wpAny_storeName_local hk hn (fun h' hn' hs => ?_) hcls
    obtain ⟨oL, _, _, hoL, _⟩ := id hn
    refine h _ ⟨I.ok, I.os, I.bare, ⟨fun b o e n hb hx => ?_, fun b o e n hb hx => ?_, I.base.free, fun b o e hx => ?_, I.base.tups, I.base.frzs, I.base.tbls⟩, ⟨_, hn', fun j y v' e1 e2 e3 => ?_⟩, fun y c e => ?_, I.free, I.freeC, fun p hp => ?_, tracked ⟨oL, hoL, I.free⟩ hs, by simpa using I.len⟩ ⟨_, hs, .inl rfl⟩
    · exact (hs.2 b (Nat.ne_of_lt (Nat.lt_of_lt_of_le (Heap.lt_size e) I.ok.above))).trans (I.base.keep b o e n hb hx)
    · obtain ⟨sl, e1⟩ := I.base.slot b o e n hb hx
      exact ⟨sl, (hs.2 b (Nat.ne_of_lt (Nat.lt_of_lt_of_le (Heap.lt_size e) I.ok.above))).trans e1⟩
    · obtain ⟨o', e1⟩ := I.base.there b o e hx
      exact ⟨o', (hs.2 b (Nat.ne_of_lt (Nat.lt_of_lt_of_le (Heap.lt_size e) I.ok.above))).trans e1⟩
    · by_cases hj : j = i
      · subst hj
        rw [hi] at e1; cases e1
        rw [List.getElem?_set_self hiσ] at e2
        cases e2
        exact ⟨u, r, .inl ⟨hk, by simp⟩⟩
      · rw [List.getElem?_set_ne (Ne.symm hj)] at e2
        obtain ⟨u', r', q⟩ := hl j y v' e1 e2 e3
        refine ⟨u', r', ?_⟩
        rcases q with ⟨k, e⟩ | ⟨k, c, e, z⟩
        · refine .inl ⟨k, ?_⟩
          have : y ≠ x := fun e => hj (nodup_ix hN e1 (e ▸ hi))
          simp [this, e]
        · exact .inr ⟨k, c, e, z.sameBut hs (cne y c e)⟩
    · obtain ⟨w', z⟩ := I.cell y c e
      exact ⟨w', z.sameBut hs (cne y c e)⟩
    · obtain ⟨e, n, ne, nf, d⟩ := I.pin p hp
      exact ⟨(hs.2 p.1 ne).trans e, n, ne, nf, d⟩
  · have hfn : X.fn x = true := by
      rcases hf with z | z
      · exact z
      · rw [z] at hk; cases hk
    obtain ⟨c, hc⟩ := I.ok.has x (.inl hk)
    obtain ⟨w', z⟩ := I.cell x c hc
    refine wpAny_storeName_cell I.ok.kind hk hc z (fun h' hc' hs => ?_)
    obtain ⟨oc, hoc, hocd⟩ := id z
    refine h { s with heap := h' } ⟨I.ok, I.os, I.bare, ⟨fun b o e n hb hx => ?_, fun b o e n hb hx => ?_, I.base.free, fun b o e hx => ?_, I.base.tups, I.base.frzs, I.base.tbls⟩, ⟨m, hn.sameBut hs (Ne.symm (cne x c hc)), fun j y v' e1 e2 e3 => ?_⟩, fun y c' e => ?_, I.free, I.freeC, fun p hp => ?_, tracked ⟨oc, hoc, I.freeC x c hc⟩ hs, by simpa using I.len⟩ ⟨c, hs, .inr hc⟩
    · exact (hs.2 b (Nat.ne_of_lt (Nat.lt_of_lt_of_le (Heap.lt_size e) (I.ok.cab x c hfn hc)))).trans (I.base.keep b o e n hb hx)
    · obtain ⟨sl, e1⟩ := I.base.slot b o e n hb hx
      exact ⟨sl, (hs.2 b (Nat.ne_of_lt (Nat.lt_of_lt_of_le (Heap.lt_size e) (I.ok.cab x c hfn hc)))).trans e1⟩
    · obtain ⟨o', e1⟩ := I.base.there b o e hx
      exact ⟨o', (hs.2 b (Nat.ne_of_lt (Nat.lt_of_lt_of_le (Heap.lt_size e) (I.ok.cab x c hfn hc)))).trans e1⟩
    · by_cases hj : j = i
      · subst hj
        rw [hi] at e1; cases e1
        rw [List.getElem?_set_self hiσ] at e2
        cases e2
        exact ⟨u, r, .inr ⟨.inl hk, c, hc, hc'⟩⟩
      · rw [List.getElem?_set_ne (Ne.symm hj)] at e2
        obtain ⟨u', r', q⟩ := hl j y v' e1 e2 e3
        refine ⟨u', r', ?_⟩
        rcases q with q | ⟨k, c', e, z'⟩
        · exact .inl q
        · refine .inr ⟨k, c', e, z'.sameBut hs ?_⟩
          rintro rfl
          exact hj (nodup_ix hN e1 (I.ok.inj _ _ _ e hc ▸ hi))
    · by_cases hcc : c' = c
      · subst hcc; exact ⟨_, hc'⟩
      · obtain ⟨w2, z2⟩ := I.cell y c' e
        exact ⟨w2, z2.sameBut hs hcc⟩
    · obtain ⟨e, n, ne, nf, d⟩ := I.pin p hp
      refine ⟨(hs.2 p.1 ?_).trans e, n, ne, nf, d⟩
      intro q
      rw [q, hoc] at e
      have q' : oc = p.2 := Option.some.inj e
      exact d w' (by rw [← q']; exact hocd)
theorem store_ok {M : Model} {A : Around} {E : Value → Shared → Prop} {i : Nat} {x : Str} {v : V} {u : Value} {Q : Unit → Shared → Prop} (I : Inv X pins σ H s) (hN : X.N.Nodup) (hi : X.N[i]? = some x) (hx : Loc X.env.scope x) (r : RelV v u)
    (h : ∀ s', Inv X pins (σ.set i (some v)) H s' → Q () s') (hf : X.fn x = true ∨ X.env.scope.names.lookup x = some .local := by first | exact .inl rfl | exact .inr rfl | assumption) : wpAny M A (storeName X.env x u) Q E s :=
  store_ok2 I hN hi hx r (fun s' I' _ => h s' I') hf
theorem Inv.call' {s' : Shared} {ch : List Addr} (I : Inv X pins σ H s) (ho : s'.os = s.os) (u : Un (frs X.stack) ch H H' s.heap s'.heap) (hok : HOk X.prog X.w H' s'.heap) (hg : AllBare s'.gens)
    (hch : ∀ b ∈ ch, (b ∈ X.ex ∨ X.s₀.heap.objs.size ≤ b) ∧ b ≠ X.env.locals ∧ (∀ x c, X.env.cells.lookup x = some c → c ≠ b) ∧ ∀ p ∈ X.pn ++ pins, p.1 ≠ b) : Inv X pins σ H' s' := by
  obtain ⟨h', g', d', t', o'⟩ := s'
  have e : o' = s.os := ho
  subst e
  exact I.call (g' := g') (t' := t') (d' := d') u hok hg hch
end
abbrev XK := Value → Option Addr → Hp → Prop
abbrev St := List (Option V)
abbrev VK := V → Hp → Prop
abbrev TE := St → Hp → VK → Prop
abbrev TT := St → Hp → (Bool → Hp → Prop) → Prop
abbrev TA := St → Hp → (List V → Hp → Prop) → Prop
structure Ends where
  nx : St → Hp → Prop
  rt : VK
  bk : St → Hp → Prop := fun _ _ => False
  ct : St → Hp → Prop := fun _ _ => False
abbrev TS := Ends → St → Hp → Prop
def EP (X : Cx) (pins : List (Addr × Obj)) (σ : St) (Q : VK) (u : Value) (s' : Shared) : Prop := ∃ v H', Inv X pins σ H' s' ∧ RelV v u ∧ Q v H'
def TP (X : Cx) (pins : List (Addr × Obj)) (σ : St) (Q : Bool → Hp → Prop) (b : Bool) (s' : Shared) : Prop := ∃ H', Inv X pins σ H' s' ∧ Q b H'
def AP (X : Cx) (pins : List (Addr × Obj)) (σ : St) (Q : List V → Hp → Prop) (us : List Value) (s' : Shared) : Prop := ∃ vs H', Inv X pins σ H' s' ∧ Vals vs us ∧ Q vs H'
def SP (X : Cx) (pins : List (Addr × Obj)) (D : Ends) (f : Flow) (s' : Shared) : Prop :=
  match f with
  | .next => ∃ σ' H', Inv X pins σ' H' s' ∧ D.nx σ' H'
  | .brk => ∃ σ' H', Inv X pins σ' H' s' ∧ D.bk σ' H'
  | .cont => ∃ σ' H', Inv X pins σ' H' s' ∧ D.ct σ' H'
  | .ret u => ∃ v σ' H', Inv X pins σ' H' s' ∧ RelV v u ∧ D.rt v H'
def PE (X : Cx) (e : Expr) (t : TE) : Prop :=
  ∀ (pins : List (Addr × Obj)) (s : Shared) (σ : St) (H : Hp) (Q : VK), Inv X pins σ H s → t σ H Q → wpAny (model X.prog X.w) X.A (eval e X.env) (EP X pins σ Q) X.xe s
def PT (X : Cx) (e : Expr) (t : TT) : Prop :=
  ∀ (pins : List (Addr × Obj)) (s : Shared) (σ : St) (H : Hp) (Q : Bool → Hp → Prop), Inv X pins σ H s → t σ H Q → wpAny (model X.prog X.w) X.A (isTrue e X.env (eval e X.env)) (TP X pins σ Q) X.xe s
def PW (X : Cx) (e : Expr) (t : TT) : Prop :=
  ∀ (whole : Sem Value) (pins : List (Addr × Obj)) (s : Shared) (σ : St) (H : Hp) (Q : Bool → Hp → Prop), Inv X pins σ H s → t σ H Q → wpAny (model X.prog X.w) X.A (isTrue e X.env whole) (TP X pins σ Q) X.xe s
theorem PW.pt {X : Cx} {e : Expr} {t : TT} (h : PW X e t) : PT X e t := h _
def PA (X : Cx) (es : List Expr) (t : TA) : Prop :=
  ∀ (pos : Pos) (pins : List (Addr × Obj)) (s : Shared) (σ : St) (H : Hp) (Q : List V → Hp → Prop), Inv X pins σ H s → t σ H Q → wpAny (model X.prog X.w) X.A (spliced (backTo pos (starEach es X.env))) (AP X pins σ Q) X.xe s
def PS (X : Cx) (st : Stmt) (t : TS) : Prop :=
  ∀ (pins : List (Addr × Obj)) (s : Shared) (σ : St) (H : Hp) (D : Ends), Inv X pins σ H s → t D σ H → wpAny (model X.prog X.w) X.A (exec st X.env) (SP X pins D) X.xe s
def PSs (X : Cx) (st : List Stmt) (t : TS) : Prop :=
  ∀ (pins : List (Addr × Obj)) (s : Shared) (σ : St) (H : Hp) (D : Ends), Inv X pins σ H s → t D σ H → wpAny (model X.prog X.w) X.A (execs st X.env) (SP X pins D) X.xe s
theorem thn {α : Type} {t : Sem α} {Q Q' : α → Shared → Prop} {M : Model} {A : Around} {E : Value → Shared → Prop} {s : Shared} (h : wpAny M A t Q E s) (hQ : ∀ a s, Q a s → Q' a s) : wpAny M A t Q' E s := wpAny_mono h hQ fun _ _ x => x
end L2
namespace L2
open PySem PySem.Spec PyProof.Rows
section
variable {X : Cx}
theorem bin {a b : Expr} {ta tb : TE} (ha : PE X a ta) (hb : PE X b tb) {pins : List (Addr × Obj)} {s : Shared} {σ : St} {H : Hp} {R : V → V → Hp → Prop} (I : Inv X pins σ H s) (h : ta σ H fun x H1 => tb σ H1 fun y H2 => R x y H2)
    {α : Type} {Q : α → Shared → Prop} {f : Value → Value → Sem α}
    (hf : ∀ v u s2 x y H2, Inv X pins σ H2 s2 → RelV x v → RelV y u → R x y H2 → wpAny (model X.prog X.w) X.A (f v u) Q X.xe s2) :
    wpAny (model X.prog X.w) X.A (eval a X.env) (fun v s₁ => wpAny (model X.prog X.w) X.A (eval b X.env) (fun u s₂ => wpAny (model X.prog X.w) X.A (f v u) Q X.xe s₂) X.xe s₁) X.xe s := by
  refine thn (ha pins s σ H _ I h) fun v s1 ⟨x, H1, I1, r1, q1⟩ => ?_
  refine thn (hb pins s1 σ H1 _ I1 q1) fun u s2 ⟨y, H2, I2, r2, q2⟩ => ?_
  exact hf v u s2 x y H2 I2 r1 r2 q2
def tVar (i : Nat) : TE := fun σ H Q => ∃ v, σ[i]? = some (some v) ∧ Q v H
def tC (v : V) : TE := fun _ H Q => Q v H
theorem pe_var {i : Nat} {x : Str} {pos : Pos} (hN : X.N[i]? = some x) (hv : Vis X.env.scope x) (hd : (x == ("__debug__" : Str)) = false := by decide) (hcd : (x == ("__classdict__" : Str)) = false := by decide) : PE X (.Name x pos) (tVar i) := by
  intro pins s σ H Q I h
  obtain ⟨v, e, h⟩ := h
  obtain ⟨m, hn, hl⟩ := I.loc
  obtain ⟨u, r, l⟩ := hl i x v hN e hv
  have fin : EP X pins σ Q u s := ⟨v, H, I, r, h⟩
  rcases l with ⟨hk, hm⟩ | ⟨hk, c, hc, hcell⟩
  · exact wpAny_Name (wpAny_loadName_local I.ok.kind hk hn hm fin) hd
  · rcases hk with hk | hk
    · exact wpAny_Name (wpAny_loadName_cell I.ok.kind hk hc hcell fin) hd
    · exact wpAny_Name (wpAny_loadName_free I.ok.kind hk hc hcell fin hcd) hd
theorem pe_int {i j pos} : PE X (.Constant (.int i) j pos) (tC (.int i)) := fun _ _ _ H _ I h => wpAny_Constant_int ⟨.int i, H, I.tok _, ⟨_, rfl⟩, h⟩
theorem pe_bl {b j pos} : PE X (.Constant (.bool b) j pos) (tC (.bl b)) := fun _ _ _ H _ I h => Constant_bool ⟨.bl b, H, I, rfl, h⟩
theorem pe_non {j pos} : PE X (.Constant .none j pos) (tC .non) := fun _ _ _ H _ I h => Constant_none ⟨.non, H, I, rfl, h⟩
theorem pe_str {x j pos} : PE X (.Constant (.str x) j pos) (tC (.str x)) := fun _ _ _ H _ I h => Calls.Constant_str ⟨.str x, H, I.tok _, ⟨_, rfl⟩, h⟩
def Gl (X : Cx) (x : Str) : Prop := X.env.kindOf x = some .globalImplicit
theorem ld_glob {E : Value → Shared → Prop} {pins : List (Addr × Obj)} {s : Shared} {σ : St} {H : Hp} {x : Str} {u : Value} {pos : Pos} {Q : Value → Shared → Prop} (I : Inv X pins σ H s) (hg : Gl X x) (hm : X.mg x = some u) (h : Q u s)
    (hd : (x == ("__debug__" : Str)) = false := by decide) : wpAny (model X.prog X.w) X.A (eval (.Name x pos) X.env) Q E s :=
  Calls.Name_function_global I.ok.kind hg (Calls.loadGlobal_global (by rw [I.ok.glob]; exact I.mod.glob.keeps I.bk) hm h) hd
theorem ld_blt {E : Value → Shared → Prop} {pins : List (Addr × Obj)} {s : Shared} {σ : St} {H : Hp} {x : Str} {u : Value} {pos : Pos} {Q : Value → Shared → Prop} (I : Inv X pins σ H s) (hg : Gl X x) (hm : X.mg x = none) (hv : bootBuiltins x = some u) (h : Q u s)
    (hn : x ≠ "__name__" := by decide) (hd : (x == ("__debug__" : Str)) = false := by decide) : wpAny (model X.prog X.w) X.A (eval (.Name x pos) X.env) Q E s := by
  obtain ⟨mb, h1, h2⟩ := I.mod.blt
  exact Calls.Name_function_global I.ok.kind hg (Calls.loadGlobal_builtin (by rw [I.ok.glob]; exact I.mod.glob.keeps I.bk) hm (by rw [I.ok.blt]; exact h1.keeps I.bk) ((h2 x hn).trans hv) h) hd
theorem pe_glob {x : Str} {v : V} {u : Value} {pos : Pos} (hg : Gl X x) (hm : X.mg x = some u) (r : RelV v u) (hd : (x == ("__debug__" : Str)) = false := by decide) : PE X (.Name x pos) (tC v) :=
  fun _ _ _ H _ I h => ld_glob I hg hm ⟨v, H, I, r, h⟩ hd
theorem pe_bltn {x : Str} {v : V} {u : Value} {pos : Pos} (hg : Gl X x) (hm : X.mg x = none) (hv : bootBuiltins x = some u) (r : RelV v u) (hn : x ≠ "__name__" := by decide) (hd : (x == ("__debug__" : Str)) = false := by decide) : PE X (.Name x pos) (tC v) :=
  fun _ _ _ H _ I h => ld_blt I hg hm hv ⟨v, H, I, r, h⟩ hn hd
variable {a b : Expr} {ta tb : TE} {pos : Pos}
def PC (X : Cx) (op : CmpOp) (a b : Expr) (t : TE) : Prop :=
  ∀ (pins : List (Addr × Obj)) (s : Shared) (σ : St) (H : Hp) (Q : VK), Inv X pins σ H s → t σ H Q →
    wpAny (model X.prog X.w) X.A (eval a X.env) (fun v s₁ => wpAny (model X.prog X.w) X.A (eval b X.env) (fun u s₂ => wpAny (model X.prog X.w) X.A (compareOp op v u) (EP X pins σ Q) X.xe s₂) X.xe s₁) X.xe s
def tB (t : TE) : TT := fun σ H Q => t σ H fun x H1 => ∃ c, x = .bl c ∧ Q c H1
theorem pt_cmp {op : CmpOp} {t : TE} (h : PC X op a b t) (h1 : behindInMarks op b = false := by first | exact nobehind _ (by decide) (by decide) | rfl) : PT X (.Compare a [op] [b] pos) (tB t) := by
  intro pins s σ H Q I hw
  refine wpAny_isTrue_Compare1 (thn (h pins s σ H _ I hw) fun v s1 h1 => thn h1 fun u s2 h2 => thn h2 fun c s3 ⟨x, H1, I1, r1, q1⟩ => ?_) h1
  obtain ⟨d, rfl, q⟩ := q1
  cases r1
  exact wpAny_truthy_bool ⟨H1, I1, q⟩
theorem pt_val {e : Expr} {t : TE} (h : PE X e t) (he : ∀ whole, isTrue e X.env whole = (do let v ← whole; standAt e.pos; holding [v] (truthy v)) := by intro _; rfl) : PT X e (tB t) := by
  intro pins s σ H Q I hw
  refine isTrue_plain (thn (h pins s σ H _ I hw) fun v s1 ⟨x, H1, I1, r1, q1⟩ => ?_) (he _)
  obtain ⟨d, rfl, q⟩ := q1
  cases r1
  exact wpAny_truthy_bool ⟨H1, I1, q⟩
variable {tA tB' : TT} {rest : List Expr}
def tAnd (t u : TT) : TT := fun σ H Q => t σ H fun c H1 => if c = true then u σ H1 Q else Q false H1
def tOr (t u : TT) : TT := fun σ H Q => t σ H fun c H1 => if c = true then Q true H1 else u σ H1 Q
def tNot (t : TT) : TT := fun σ H Q => t σ H fun c H1 => Q (!c) H1
theorem pw_and1 (ha : PT X a tA) : PW X (.BoolOp .And [a] pos) tA := by
  intro wh pins s σ H Q I h
  refine isTrue_and (thn (ha pins s σ H Q I h) fun c s1 e => ?_)
  cases c with
  | true => exact isTrue_and_nil e
  | false => exact e
theorem pw_or1 (ha : PT X a tA) : PW X (.BoolOp .Or [a] pos) tA := by
  intro wh pins s σ H Q I h
  refine isTrue_or (thn (ha pins s σ H Q I h) fun c s1 e => ?_)
  cases c with
  | false => exact isTrue_or_nil e
  | true => exact e
theorem pw_and (ha : PT X a tA) (hb : PW X (.BoolOp .And (b :: rest) pos) tB') : PW X (.BoolOp .And (a :: b :: rest) pos) (tAnd tA tB') := by
  intro wh pins s σ H Q I h
  refine isTrue_and (thn (ha pins s σ H _ I h) fun c s1 ⟨H1, I1, q1⟩ => ?_)
  cases c with
  | true => exact hb wh pins s1 σ H1 Q I1 q1
  | false => exact ⟨H1, I1, q1⟩
theorem pw_or (ha : PT X a tA) (hb : PW X (.BoolOp .Or (b :: rest) pos) tB') : PW X (.BoolOp .Or (a :: b :: rest) pos) (tOr tA tB') := by
  intro wh pins s σ H Q I h
  refine isTrue_or (thn (ha pins s σ H _ I h) fun c s1 ⟨H1, I1, q1⟩ => ?_)
  cases c with
  | true => exact ⟨H1, I1, q1⟩
  | false => exact hb wh pins s1 σ H1 Q I1 q1
theorem pt_not (ha : PT X a tA) : PT X (.UnaryOp .Not a pos) (tNot tA) := by
  intro pins s σ H Q I h
  exact isTrue_not (ha pins s σ H (fun c H1 => Q (!c) H1) I h)
def tAndV (ta tb : TE) : TE := fun σ H Q => ta σ H fun x H1 => ∃ c, x = .bl c ∧ if c = true then tb σ H1 Q else Q (.bl false) H1
def tNotV (ta : TE) : TE := fun σ H Q => ta σ H fun x H1 => ∃ c, x = .bl c ∧ Q (.bl (!c)) H1
theorem pe_one {op} {t : TE} (h : PE X a t) : PE X (.BoolOp op [a] pos) t := fun pins s σ H Q I hw => BoolOp_one (h pins s σ H Q I hw)
theorem pe_and (ha : PE X a ta) (hb : PE X (.BoolOp .And (b :: rest) pos) tb) : PE X (.BoolOp .And (a :: b :: rest) pos) (tAndV ta tb) := by
  intro pins s σ H Q I h
  refine BoolOp_and (thn (ha pins s σ H _ I h) fun v s1 ⟨x, H1, I1, r1, q1⟩ => ?_)
  obtain ⟨c, rfl, q1⟩ := q1
  cases r1
  refine wpAny_truthy_bool ?_
  cases c with
  | true => exact hb pins s1 σ H1 Q I1 q1
  | false => exact ⟨.bl false, H1, I1, rfl, q1⟩
theorem pe_not (ha : PE X a ta) : PE X (.UnaryOp .Not a pos) (tNotV ta) := by
  intro pins s σ H Q I h
  refine UnaryOp_ (thn (ha pins s σ H _ I h) fun v s1 ⟨x, H1, I1, r1, q1⟩ => ?_)
  obtain ⟨c, rfl, q1⟩ := q1
  cases r1
  exact not_of (wpAny_truthy_bool ⟨.bl (!c), H1, I1, rfl, q1⟩)
end
end L2
namespace L2
open PySem PySem.Spec PyProof.Rows
def SqL (K : PySem.W.Frag) (H : Hp) (a : Addr) (xs : List V) : Prop :=
  Rd H a (.lst xs) ∨
    ∃ (o : Obj) (its : Array Value) (n : Nat), K.lookup a = some o ∧ o.cls = .type "list" ∧ o.dict = none ∧ o.data = .seq its n ∧ its.size ≤ sizeLine ∧ Vals xs its.toList
def SqT (K : PySem.W.Frag) (H : Hp) (a : Addr) (xs : List V) : Prop :=
  Rd H a (.tup xs) ∨
    ∃ (o : Obj) (its : Array Value) (n : Nat), K.lookup a = some o ∧ o.cls = .type "tuple" ∧ o.data = .seq its n ∧ its.size ≤ sizeLine ∧ Vals xs its.toList
def absV : Value → Option V
  | .none => some .non
  | .bool b => some (.bl b)
  | .int i _ => some (.int i)
  | .str x _ => some (.str x)
  | .bytes b _ => some (.byt b)
  | .float b _ => some (.flt b)
  | .ref a => some (.ref a)
  | .type n => some (.ty n)
  | _ => none
theorem RelV.abs {x : V} {u : Value} (r : RelV x u) : absV u = some x := by
  cases x with
  | non => cases r; rfl
  | bl _ => cases r; rfl
  | int _ => obtain ⟨t, rfl⟩ := r; rfl
  | str _ => obtain ⟨t, rfl⟩ := r; rfl
  | byt _ => obtain ⟨t, rfl⟩ := r; rfl
  | flt _ => obtain ⟨t, rfl⟩ := r; rfl
  | ref _ => cases r; rfl
  | ty _ => cases r; rfl
theorem RelV.inj {x y : V} {u : Value} (r : RelV x u) (q : RelV y u) : x = y := Option.some.inj (r.abs.symm.trans q.abs)
theorem Vals.inj : ∀ {xs ys : List V} {us : List Value}, Vals xs us → Vals ys us → xs = ys
  | _, _, _, .nil, .nil => rfl
  | _, _, _, .cons r t, .cons r' t' => by rw [r.inj r', Vals.inj t t']
section
variable {X : Cx} {pins : List (Addr × Obj)} {σ : St} {H : Hp} {s : Shared} {a : Addr} {xs ys : List V}
theorem SqL.of {K : PySem.W.Frag} (h : H a = some (.lst xs)) : SqL K H a xs := .inl (.inl h)
theorem SqT.of {K : PySem.W.Frag} (h : H a = some (.tup xs)) : SqT K H a xs := .inl (.inl h)
theorem Inv.list (I : Inv X pins σ H s) (h : SqL X.K H a xs) : ∃ its : List Value, Vals xs its ∧ PlainL s.heap a its.toArray ∧ xs.length ≤ sizeLine := by
  rcases h with h | ⟨o, its, n, hk, hc, hd, hs, hz, r⟩
  · obtain ⟨z, its, n, r, e⟩ := h.ok I.hok
    exact ⟨its, r, ⟨_, n, e, rfl, rfl, rfl⟩, z⟩
  · refine ⟨its.toList, r, ⟨o, n, I.kIn a o hk, hc, hd, by simpa using hs⟩, ?_⟩
    have e := r.length
    simp only [Array.length_toList] at e
    omega
theorem Inv.tuple (I : Inv X pins σ H s) (h : SqT X.K H a xs) : ∃ its : List Value, Vals xs its ∧ IsTup s.heap a its.toArray ∧ xs.length ≤ sizeLine := by
  rcases h with h | ⟨o, its, n, hk, hc, hs, hz, r⟩
  · obtain ⟨z, its, r, p⟩ := h.ok I.hok
    exact ⟨its, r, p, z⟩
  · refine ⟨its.toList, r, ⟨o, I.kIn a o hk, hc, n, by simpa using hs⟩, ?_⟩
    have e := r.length
    simp only [Array.length_toList] at e
    omega
theorem Inv.list_inj (I : Inv X pins σ H s) (h : SqL X.K H a xs) (h' : SqL X.K H a ys) : xs = ys := by
  obtain ⟨its, r, ⟨o, n, e, _, _, d⟩, _⟩ := I.list h
  obtain ⟨its', r', ⟨o', n', e', _, _, d'⟩, _⟩ := I.list h'
  rw [e] at e'; cases e'
  rw [d] at d'
  injection d' with d1 _
  have : its = its' := by simpa using congrArg Array.toList d1
  subst this
  exact r.inj r'
end
abbrev Cx.wish (X : Cx) (E : Value → Shared → Prop) : Cx := { X with xe := E }
abbrev Cx.nox (X : Cx) : Cx := X.wish fun _ _ => False
theorem Cx.Ok.wish {X : Cx} (ok : X.Ok) (E : Value → Shared → Prop) : (X.wish E).Ok :=
  ⟨ok.mod, ok.kind, ok.glob, ok.blt, ok.above, ok.inj, ok.has, ok.cab, ok.hd, ok.frames, ok.stk, ok.exf, ok.bs, ok.bsz, ok.noex, ok.exfs, ok.funs, ok.frf⟩
theorem Cx.Ok.unwish {X : Cx} {E : Value → Shared → Prop} (ok : (X.wish E).Ok) : X.Ok :=
  ⟨ok.mod, ok.kind, ok.glob, ok.blt, ok.above, ok.inj, ok.has, ok.cab, ok.hd, ok.frames, ok.stk, ok.exf, ok.bs, ok.bsz, ok.noex, ok.exfs, ok.funs, ok.frf⟩
section
variable {X : Cx} {pins : List (Addr × Obj)} {σ : St} {H : Hp} {s : Shared} {E : Value → Shared → Prop}
theorem Inv.wish (I : Inv X pins σ H s) (E : Value → Shared → Prop) : Inv (X.wish E) pins σ H s := ⟨I.ok.wish E, I.os, I.bare, I.base, I.loc, I.cell, I.free, I.freeC, I.pin, I.hok, I.len⟩
theorem Inv.unwish (I : Inv (X.wish E) pins σ H s) : Inv X pins σ H s := ⟨I.ok.unwish, I.os, I.bare, I.base, I.loc, I.cell, I.free, I.freeC, I.pin, I.hok, I.len⟩
theorem SP.unwish {D : Ends} {f : Flow} {s' : Shared} (h : SP (X.wish E) pins D f s') : SP X pins D f s' := by
  cases f with
  | next => obtain ⟨σ', H', I, q⟩ := h; exact ⟨σ', H', I.unwish, q⟩
  | brk => obtain ⟨σ', H', I, q⟩ := h; exact ⟨σ', H', I.unwish, q⟩
  | cont => obtain ⟨σ', H', I, q⟩ := h; exact ⟨σ', H', I.unwish, q⟩
  | ret u => obtain ⟨v, σ', H', I, r, q⟩ := h; exact ⟨v, σ', H', I.unwish, r, q⟩
theorem PSs.nox {st : List Stmt} {t : TS} (h : PSs X.nox st t) : PSs X st t := fun pins s σ H D I hw =>
  wpAny_mono (h pins s σ H D (I.wish _) hw) (fun _ _ q => q.unwish) fun _ _ z => False.elim z
end
section
variable {X : Cx} {st : Stmt} {rest : List Stmt} {t u : TS} {e : Expr} {te : TE} {pos : Pos}
def tNext : TS := fun D σ H => D.nx σ H
def tSeq (t u : TS) : TS := fun D σ H => t { D with nx := u D } σ H
theorem pss_nil : PSs X [] tNext := fun _ _ σ H _ I h => wpAny_execs_nil ⟨σ, H, I, h⟩
theorem pss_cons (h1 : PS X st t) (h2 : PSs X rest u) : PSs X (st :: rest) (tSeq t u) := by
  intro pins s σ H D I h
  refine wpAny_execs_cons (thn (h1 pins s σ H { D with nx := u D } I h) fun f s1 q => ?_)
  cases f with
  | next =>
    obtain ⟨σ', H', I', q⟩ := q
    exact h2 pins s1 σ' H' D I' q
  | ret v => exact q
  | brk => exact q
  | cont => exact q
theorem pss_one (h1 : PS X st t) : PSs X [st] t := by
  intro pins s σ H D I h
  refine wpAny_execs_cons (thn (h1 pins s σ H D I h) fun f s1 q => ?_)
  cases f with
  | next => exact wpAny_execs_nil q
  | ret v => exact q
  | brk => exact q
  | cont => exact q
theorem Inv.quiet {pins : List (Addr × Obj)} {σ : St} {H : Hp} {s : Shared} (I : Inv X pins σ H s) : interactive X.env = false := by simp [interactive, I.ok.kind]
def tDrop (te : TE) : TS := fun D σ H => te σ H fun _ H1 => D.nx σ H1
theorem ps_expr (he : PE X e te) (hs : swapsWith e none pos.line X.env = pure false := by rfl) : PS X (.Expr e pos) (tDrop te) := by
  intro pins s σ H D I h
  exact wpAny_Expr_any (thn (he pins s σ H _ I h) fun v s1 ⟨x, H1, I1, r1, q1⟩ => ⟨σ, H1, I1, q1⟩) I.quiet hs
def tRet (te : TE) : TS := fun D σ H => te σ H D.rt
theorem ps_ret (he : PE X e te) : PS X (.Return (some e) pos) (tRet te) := by
  intro pins s σ H D I h
  exact wpAny_Return_some (thn (he pins s σ H _ I h) fun v s1 ⟨x, H1, I1, r1, q1⟩ => ⟨x, σ, H1, I1, r1, q1⟩)
def tIfS (c : TT) (t u : TS) : TS := fun D σ H => c σ H fun b H1 => if b = true then t D σ H1 else u D σ H1
theorem ps_if {c : Expr} {a b : List Stmt} {tc : TT} (hc : PT X c tc) (ha : PSs X a t) (hb : PSs X b u) : PS X (.If c a b pos) (tIfS tc t u) := by
  intro pins s σ H D I h
  refine wpAny_If (thn (hc pins s σ H _ I h) fun d s1 ⟨H1, I1, q1⟩ => ?_)
  cases d with
  | true => exact ha pins s1 σ H1 D I1 q1
  | false => exact hb pins s1 σ H1 D I1 q1
def tNever : TS := fun _ _ _ => False
theorem ps_never : PS X st tNever := fun _ _ _ _ _ _ h => h.elim
end
abbrev TG := V → St → Hp → (St → Hp → Prop) → Prop
abbrev TGs := List V → St → Hp → (St → Hp → Prop) → Prop
def PG (X : Cx) (target : Expr) (t : TG) : Prop :=
  ∀ (pins : List (Addr × Obj)) (s : Shared) (σ : St) (H : Hp) (v : V) (u : Value) (Q : St → Hp → Prop), Inv X pins σ H s → RelV v u → t v σ H Q →
    wpAny (model X.prog X.w) X.A (assign target X.env u) (fun _ s' => ∃ σ' H', Inv X pins σ' H' s' ∧ Q σ' H') X.xe s
def PGs (X : Cx) (ts : List Expr) (t : TGs) : Prop :=
  ∀ (pins : List (Addr × Obj)) (s : Shared) (σ : St) (H : Hp) (vs : List V) (us : List Value) (Q : St → Hp → Prop), Inv X pins σ H s → Vals vs us → t vs σ H Q →
    wpAny (model X.prog X.w) X.A (assignInOrder ((assignEach ts X.env).map (·.2)) us) (fun _ s' => ∃ σ' H', Inv X pins σ' H' s' ∧ Q σ' H') X.xe s
abbrev TSet := V → V → V → Hp → (Hp → Prop) → Prop
def PSet (X : Cx) (t : TSet) : Prop :=
  ∀ (pins : List (Addr × Obj)) (s : Shared) (σ : St) (H : Hp) (o i v : V) (ov iv u : Value) (Q : Hp → Prop), Inv X pins σ H s → RelV o ov → RelV i iv → RelV v u → t o i v H Q →
    wpAny (model X.prog X.w) X.A (setItem ov iv u) (fun _ s' => ∃ H', Inv X pins σ H' s' ∧ Q H') X.xe s
section
variable {X : Cx} {pos : Pos}
def gName (i : Nat) : TG := fun v σ H Q => Q (σ.set i (some v)) H
theorem pg_name {i : Nat} {x : Str} (hN : X.N.Nodup) (hi : X.N[i]? = some x) (hx : Loc X.env.scope x) (hf : X.fn x = true ∨ X.env.scope.names.lookup x = some .local := by first | exact .inl rfl | exact .inr rfl | assumption) : PG X (.Name x pos) (gName i) := by
  intro pins s σ H v u Q I r h
  exact wpAny_assign_Name (store_ok I hN hi hx r (fun s' I' => ⟨_, H, I', h⟩) hf)
def gNil : TGs := fun vs σ H Q => vs = [] ∧ Q σ H
def gCons (t : TG) (u : TGs) : TGs := fun vs σ H Q => ∃ v r, vs = v :: r ∧ t v σ H fun σ' H' => u r σ' H' Q
theorem pgs_nil : PGs X [] gNil := by
  intro pins s σ H vs us Q I r h
  obtain ⟨e, h⟩ := h
  subst e
  cases r
  exact assignInOrder_nil ⟨σ, H, I, h⟩
theorem pgs_cons {e : Expr} {es : List Expr} {t : TG} {u : TGs} (h1 : PG X e t) (h2 : PGs X es u)
    (hs : (assignEach (e :: es) X.env).map (·.2) = assign e X.env :: (assignEach es X.env).map (·.2) := by rfl) : PGs X (e :: es) (gCons t u) := by
  intro pins s σ H vs us Q I r h
  obtain ⟨v, vr, e1, h⟩ := h
  subst e1
  cases r with
  | cons r rr =>
    rw [hs]
    refine assignInOrder_cons (thn (h1 pins s σ H _ _ _ I r h) fun _ s1 ⟨σ1, H1, I1, q1⟩ => ?_)
    exact h2 pins s1 σ1 H1 _ _ Q I1 rr q1
def gTup (K : PySem.W.Frag) (n : Nat) (t : TGs) : TG := fun v σ H Q => ∃ a xs, v = .ref a ∧ SqT K H a xs ∧ xs.length = n ∧ t xs σ H Q
theorem pg_tup {es : List Expr} {k : Nat} {t : TGs} {n : Nat} (hc : X.calm = true) (h : PGs X es t)
    (hn : (assignEach es X.env).length = n := by rfl) (hst : (assignEach es X.env).findIdx? (·.1) = none := by rfl) : PG X (.Tuple es k pos) (gTup X.K n t) := by
  intro pins s σ H v u Q I r hw
  obtain ⟨a, xs, e1, hq, hl, hw⟩ := hw
  subst e1
  cases r
  obtain ⟨its, rv, ht, hz⟩ := I.tuple hq
  refine assign_Tuple_tuple (I.ok.hd hc) ht (by simp [hn, ← hl, rv.length]) hst fun h' hx => ?_
  have I1 : Inv X pins σ H { s with heap := h' } := I.kept (t' := s.toks) fun b o e => hx b o (Nat.ne_of_lt (Heap.lt_size e)) e
  exact h pins _ σ H xs _ Q I1 (by simpa using rv) hw
def gSub (to ti : TE) (t : TSet) : TG := fun v σ H Q => to σ H fun o H1 => ti σ H1 fun i H2 => t o i v H2 fun H3 => Q σ H3
theorem pg_sub {o i : Expr} {to ti : TE} {t : TSet} (ho : PE X o to) (hi : PE X i ti) (hs : PSet X t)
    (ha : ∀ v, assign (.Subscript o i pos) X.env v = (do
      let ov ← holding [v] (eval o X.env)
      let iv ← holding [v, ov] (eval i X.env)
      standAt pos
      holding [v, ov, iv] (setItem ov iv v)
      release [v, ov, iv] []) := by intro _; rfl) : PG X (.Subscript o i pos) (gSub to ti t) := by
  intro pins s σ H v u Q I r h
  rw [ha]
  refine wpAny_bind (wpAny_holding (thn (ho pins s σ H _ I h) fun ov s1 ⟨x, H1, I1, r1, q1⟩ => ?_))
  refine wpAny_bind (wpAny_holding (thn (hi pins s1 σ H1 _ I1 q1) fun iv s2 ⟨y, H2, I2, r2, q2⟩ => ?_))
  refine wpAny_bind (wpAny_standAt (wpAny_bind (wpAny_holding (thn (hs pins s2 σ H2 x y v ov iv u _ I2 r1 r2 r q2) fun _ s3 ⟨H3, I3, q3⟩ => ?_))))
  exact wpAny_release ⟨σ, H3, I3, q3⟩
def tAsg (te : TE) (g : TG) : TS := fun D σ H => te σ H fun x H1 => g x σ H1 D.nx
theorem ps_asg {tg e : Expr} {te : TE} {g : TG} (he : PE X e te) (hg : PG X tg g) (hs : swapsWithSole [tg] e pos.line X.env = pure false := by rfl) (hw : swappedStores [tg] e X.env = pure none := by rfl)
    (h1 : (assignEach [tg] X.env).map (·.2) = [assign tg X.env] := by rfl) : PS X (.Assign [tg] e pos) (tAsg te g) := by
  intro pins s σ H D I h
  refine wpAny_Assign_stores (thn (he pins s σ H _ I h) fun v s1 ⟨x, H1, I1, r1, q1⟩ => ?_) hs hw
  rw [h1]
  exact thn (hg pins s1 σ H1 x v _ I1 r1 q1) fun _ s2 q => q
theorem ps_set {i : Nat} {x : Str} {e : Expr} {te : TE} {pos' : Pos} (hN : X.N.Nodup) (hi : X.N[i]? = some x) (hx : Loc X.env.scope x) (he : PE X e te) (hs : swapsWith e (some (.Name x pos')) pos.line X.env = pure false := by rfl) (hf : X.fn x = true ∨ X.env.scope.names.lookup x = some .local := by first | exact .inl rfl | exact .inr rfl | assumption) :
    PS X (.Assign [.Name x pos'] e pos) (tAsg te (gName i)) := by
  intro pins s σ H D I h
  refine wpAny_Assign_Name (thn (he pins s σ H _ I h) fun v s1 ⟨y, H1, I1, r1, q1⟩ => ?_) hs
  exact store_ok I1 hN hi hx r1 (fun s2 I2 => ⟨_, H1, I2, q1⟩) hf
end
section
variable {X : Cx} {pos : Pos}
def tWhile (c : TT) (tb : TS) : TS := fun D σ H => ∃ W : Nat → St → Hp → Prop, (∃ m, W m σ H) ∧ ∀ m σ H, W m σ H →
  c σ H fun b H1 => if b = true then ∃ N : St → Hp → Prop, (∀ σ' H', N σ' H' → ∃ m', m' < m ∧ W m' σ' H') ∧ tb { D with nx := N, ct := N, bk := D.nx } σ H1 else D.nx σ H1
theorem ps_while {c : Expr} {body : List Stmt} {tc : TT} {tb : TS} (hp : PassesOwn (model X.prog X.w) X.A X.env X.xe) (hc : PT X c tc) (hb : PSs X body tb) : PS X (.While c body [] pos) (tWhile tc tb) := by
  intro pins s σ H D I h
  obtain ⟨W, ⟨m0, w0⟩, turn⟩ := h
  refine wpAny_While (codeAny_whileLoop (fun n s' => ∃ σ' H', Inv X pins σ' H' s' ∧ W n σ' H') ?_ m0 ⟨σ, H, I, w0⟩)
  rintro n s1 ⟨σ1, H1, I1, w1⟩
  refine wpAny_passesOwn hp (thn (hc pins s1 σ1 H1 _ I1 (turn n σ1 H1 w1)) fun b s2 ⟨H2, I2, q2⟩ => ?_)
  cases b with
  | true =>
    obtain ⟨N, hN, q2⟩ := q2
    rw [if_pos rfl]
    refine wpAny_passesOwn hp (thn (hb pins s2 σ1 H2 _ I2 q2) fun f s3 q3 => ?_)
    cases f with
    | next =>
      obtain ⟨σ3, H3, I3, n3⟩ := q3
      obtain ⟨m', hm, w3⟩ := hN σ3 H3 n3
      exact ⟨m', hm, σ3, H3, I3, w3⟩
    | cont =>
      obtain ⟨σ3, H3, I3, n3⟩ := q3
      obtain ⟨m', hm, w3⟩ := hN σ3 H3 n3
      exact ⟨m', hm, σ3, H3, I3, w3⟩
    | brk => exact q3
    | ret v => exact q3
  | false =>
    rw [if_neg Bool.false_ne_true]
    exact wpAny_execs_nil ⟨σ1, H2, I2, q2⟩
end
structure It where
  go : Nat → Hp → Prop
  yld : Nat → Hp → V → Hp → Prop
  stop : Nat → Hp → Prop
def FpOk (X : Cx) (pins : List (Addr × Obj)) (H : Hp) (b : Addr) : Prop :=
  H b = none ∧ b ≠ X.env.locals ∧ b ∉ X.fs ∧ (b ∈ X.ex ∨ X.s₀.heap.objs.size ≤ b) ∧ (∀ x c, X.env.cells.lookup x = some c → c ≠ b) ∧ ∀ p ∈ X.pn ++ pins, p.1 ≠ b
theorem Inv.fpOk {X : Cx} {pins : List (Addr × Obj)} {σ : St} {H H' : Hp} {s : Shared} {b : Addr} (I : Inv X pins σ H s) (hb : s.heap.objs.size ≤ b) (hn : H' b = none) : FpOk X pins H' b := by
  refine ⟨hn, Nat.ne_of_gt (Nat.lt_of_lt_of_le I.lt hb), I.nofs hb, .inr (Nat.le_trans I.sz hb), fun x c e z => ?_, fun p hp z => ?_⟩
  · obtain ⟨v, q⟩ := I.cell x c e
    exact absurd (Nat.lt_of_lt_of_le q.lt (by rw [z]; exact hb)) (Nat.lt_irrefl _)
  · exact absurd (Nat.lt_of_lt_of_le (Heap.lt_size (I.pin p hp).1) (by rw [z]; exact hb)) (Nat.lt_irrefl _)
structure Turn (P : Program) (w : World) (K : PySem.W.Frag) (tg : Expr) (J : It) (fp : List Addr) (it : Addr) (tn : Nat → Heap → Prop) : Prop where
  mem : it ∈ fp
  obj : ∀ i h, tn i h → ∀ b ∈ fp, ∃ o, h.get? b = some o ∧ ∀ v, o.data ≠ .cell v
  keep : ∀ i h h', tn i h → (∀ b ∈ fp, ∀ o, h.get? b = some o → h'.get? b = some o) → tn i h'
  item : ∀ (X : Cx), X.prog = P → X.w = w → X.K = K → X.calm = true → ∀ (i : Nat) (pins : List (Addr × Obj)) (s : Shared) (σ : St) (H : Hp) (E : Value → Shared → Prop), Inv X pins σ H s → (∀ b ∈ fp, FpOk X pins H b) → tn i s.heap → J.go i H →
    wpAny (model P w) X.A (pyNext (.ref it)) (fun r s1 => ∃ u, r = some u ∧
      wpAny (model P w) X.A (letOwnedTupleGo tg (.ref it) u) (fun _ s2 => ∃ x H', Inv X pins σ H' s2 ∧ RelV x u ∧ J.yld i H x H' ∧ tn (i + 1) s2.heap ∧ ∀ b ∈ fp, H' b = none) E s1) E s
  done : ∀ (X : Cx), X.prog = P → X.w = w → X.K = K → X.calm = true → ∀ (i : Nat) (pins : List (Addr × Obj)) (s : Shared) (σ : St) (H : Hp) (E : Value → Shared → Prop), Inv X pins σ H s → (∀ b ∈ fp, FpOk X pins H b) → tn i s.heap → J.stop i H →
    wpAny (model P w) X.A (pyNext (.ref it)) (fun r s1 => r = none ∧ Inv X pins σ H s1) E s
  self : ∀ (A : Around) (i : Nat) (s : Shared) (Q : Value → Shared → Prop) (E : Value → Shared → Prop), tn i s.heap → Q (.ref it) s → wpAny (model P w) A (pyIter (.ref it)) Q E s
abbrev TI := St → Hp → (It → Hp → Prop) → Prop
def PIE (X : Cx) (pins : List (Addr × Obj)) (σ : St) (tg : Expr) (R : It → Hp → Prop) (itv : Value) (s2 : Shared) : Prop :=
  ∃ (it : Addr) (fp : List Addr) (tn : Nat → Heap → Prop) (J : It) (H' : Hp), itv = .ref it ∧ Inv X pins σ H' s2 ∧ Turn X.prog X.w X.K tg J fp it tn ∧ tn 0 s2.heap ∧ (∀ b ∈ fp, FpOk X pins H' b) ∧ R J H'
def PI (X : Cx) (tg iter : Expr) (wi : TI) : Prop :=
  ∀ (pins : List (Addr × Obj)) (s : Shared) (σ : St) (H : Hp) (R : It → Hp → Prop), Inv X pins σ H s → wi σ H R →
    wpAny (model X.prog X.w) X.A (eval iter X.env) (fun v s1 => wpAny (model X.prog X.w) X.A (pyIter v) (PIE X pins σ tg R) X.xe s1) X.xe s
theorem go_of {M : Model} {A : Around} {E : Value → Shared → Prop} {s : Shared} {tg : Expr} {it : Addr} {u : Value} {o : Obj} {n : String} {vs : Array Value} {Q : Unit → Shared → Prop} (ho : s.heap.get? it = some o) (hc : o.cls = .type n) (hd : o.data = .fields vs)
    (hn : ["enumerate", "zip", "dict_itemiterator", "dict_reverseitemiterator", "odict_iterator", "itertools.zip_longest", "itertools.pairwise"].contains n = false) (hQ : Q () s) : wpAny M A (letOwnedTupleGo tg (.ref it) u) Q E s := by
  unfold letOwnedTupleGo
  cases tg <;> first
    | exact wpAny_pure hQ
    | (cases u <;> first
        | exact wpAny_pure hQ
        | (refine wpAny_bind (wpAny_load ho ?_)
           rw [hc, hd]
           show wpAny M A (if (["enumerate", "zip", "dict_itemiterator", "dict_reverseitemiterator", "odict_iterator", "itertools.zip_longest", "itertools.pairwise"].contains n && vs[0]? == some (rawInt _)) = true then _ else _) Q E s
           rw [if_neg (by intro h; rw [hn, Bool.false_and] at h; cases h)]
           exact wpAny_pure hQ))
def Itl (K : PySem.W.Frag) (a : Addr) : It :=
  ⟨fun i H => ∃ xs x, SqL K H a xs ∧ xs[i]? = some x, fun i H x H' => H' = H ∧ ∀ xs, SqL K H a xs → xs[i]? = some x, fun i H => ∃ xs, SqL K H a xs ∧ xs.length ≤ i⟩
def Itr (lo : Int) (n : Nat) : It := ⟨fun i _ => i < n, fun i H x H' => H' = H ∧ x = .int (lo + i), fun i _ => n ≤ i⟩
theorem turn_list {P : Program} {w : World} {K : PySem.W.Frag} {tg : Expr} (a it : Addr) : Turn P w K tg (Itl K a) [it] it (fun i h => h.IsListIter it a i) where
  mem := by simp
  obj := fun i h st b hb => by
    have e : b = it := by simpa using hb
    subst e
    obtain ⟨o, e, c, d⟩ := st
    exact ⟨o, e, fun v z => by rw [d] at z; cases z⟩
  keep := fun i h h' st k => st.at fun o e => k it (by simp) o e
  item := by
    intro X hP hw hK hc i pins s σ H E I hf st hg
    subst hP hw hK
    obtain ⟨xs, x, hq, hx⟩ := hg
    obtain ⟨its, rv, p, hz⟩ := I.list hq
    obtain ⟨u, hu, ru⟩ := rv.get hx
    obtain ⟨f0, f1, f2, f3, f4, f5⟩ := hf it (by simp)
    refine wpAny_pyNext_list_item st p.isList (x := u) (by simpa using hu) fun h' st' sb => ?_
    have I1 : Inv X pins σ H { s with heap := h' } := I.turned (t' := s.toks) (fun b o hb e => (sb.2 b hb).trans e) f0 f1 f3 f4 f5
    obtain ⟨o, e, c, d⟩ := id st'
    exact ⟨u, rfl, go_of (s := { s with heap := h' }) e c d (by decide) ⟨x, H, I1, ru, ⟨rfl, fun ys hy => by rw [I.list_inj hy hq]; exact hx⟩, st', fun b hb => (hf b hb).1⟩⟩
  done := by
    intro X hP hw hK hc i pins s σ H E I hf st hg
    subst hP hw hK
    obtain ⟨xs, hq, hx⟩ := hg
    obtain ⟨its, rv, p, hz⟩ := I.list hq
    obtain ⟨f0, f1, f2, f3, f4, f5⟩ := hf it (by simp)
    have hl := rv.length
    exact wpAny_pyNext_list_end (I.ok.hd hc) st p.isList (by simp; omega) fun h' eb => ⟨rfl, I.turned (t' := s.toks) (fun b o hb e => eb b o hb e) f0 f1 f3 f4 f5⟩
  self := fun _ _ _ _ _ st h => wpAny_pyIter_listiter st h
theorem turn_range {P : Program} {w : World} {K : PySem.W.Frag} {tg : Expr} (it : Addr) (lo : Int) (n : Nat) : Turn P w K tg (Itr lo n) [it] it (fun i h => IsRangeIter h it (lo + (i : Nat) * 1) ((n : Int) - (i : Nat)) 1) where
  mem := by simp
  obj := fun i h st b hb => by
    have e : b = it := by simpa using hb
    subst e
    exact ⟨_, st, fun v z => by
      have z' : Data.fields _ = Data.cell v := z
      cases z'⟩
  keep := fun i h h' st k => k it (by simp) _ st
  item := by
    intro X hP hw hK hc i pins s σ H E I hf st hg
    subst hP hw hK
    obtain ⟨f0, f1, f2, f3, f4, f5⟩ := hf it (by simp)
    have W := Walks.range (prog := X.prog) (w := X.w) (I.ok.hd hc) it lo 1 n
    refine W.item i s _ _ hg st fun v h' tk hv st' kk => ?_
    obtain ⟨t, rfl⟩ := hv
    have I1 : Inv X pins σ H { s with heap := h', toks := tk } := I.turned (fun b o hb e => kk b o (by simpa using hb) e) f0 f1 f3 f4 f5
    refine ⟨_, rfl, go_of (s := { s with heap := h', toks := tk }) (n := "range_iterator") st' rfl rfl (by decide) ⟨.int (lo + i), H, I1, ⟨t, ?_⟩, ⟨rfl, rfl⟩, st', fun b hb => (hf b hb).1⟩⟩
    rw [Int.mul_one]
  done := by
    intro X hP hw hK hc i pins s σ H E I hf st hg
    subst hP hw hK
    obtain ⟨f0, f1, f2, f3, f4, f5⟩ := hf it (by simp)
    exact wpAny_pyNext_range_end (I.ok.hd hc) st (by have : n ≤ i := hg; omega) fun h' eb => ⟨rfl, I.turned (t' := s.toks) (fun b o hb e => eb b o hb e) f0 f1 f3 f4 f5⟩
  self := fun _ _ _ _ _ st h => wpAny_pyIter_rangeiter st h
end L2
namespace L2
open PySem PySem.Spec PyProof.Rows
section
variable {X : Cx} {tg : Expr}
def iList (K : PySem.W.Frag) (tl : TE) : TI := fun σ H R => tl σ H fun x H1 => ∃ a, x = .ref a ∧ (∃ xs, SqL K H1 a xs) ∧ R (Itl K a) H1
theorem pi_list {l : Expr} {tl : TE} (hl : PE X l tl) : PI X tg l (iList X.K tl) := by
  intro pins s σ H R I h
  refine thn (hl pins s σ H _ I h) fun v s1 ⟨x, H1, I1, r1, q1⟩ => ?_
  obtain ⟨a, e, ⟨xs, hq⟩, q⟩ := q1
  subst e
  cases r1
  obtain ⟨its, rv, p, hz⟩ := I1.list hq
  refine wpAny_pyIter_list p.isList ?_
  refine ⟨s1.heap.objs.size, [s1.heap.objs.size], _, _, H1, rfl, I1.kept (t' := s1.toks) fun b o e => Heap.get?_push_of_some _ e, turn_list a _, ⟨_, Heap.get?_push_size _ rfl, rfl, rfl⟩, fun b hb => ?_, q⟩
  have e : b = s1.heap.objs.size := by simpa using hb
  subst e
  exact I1.fpOk (Nat.le_refl _) (I1.hok.fresh (Nat.le_refl _))
theorem range_it {pins : List (Addr × Obj)} {σ : St} {H : Hp} {s : Shared} {R : It → Hp → Prop} {E : Value → Shared → Prop} {lo hi : Int} {t u v : Tok} {tk : Nat} (I : Inv X pins σ H s) (h1 : -(2 ^ 62) ≤ lo) (h2 : lo < 2 ^ 62) (h3 : -(2 ^ 62) ≤ hi) (h4 : hi < 2 ^ 62)
    (q : R (Itr lo (hi - lo).toNat) H) : wpAny (model X.prog X.w) X.A (pyIter (.ref s.heap.objs.size)) (PIE X pins σ tg R) E { s with heap := s.heap.push { cls := .type "range", data := .fields #[.int lo t, .int hi u, .int 1 v] }, toks := tk } := by
  refine wpAny_pyIter_range (IsRange.new ..) (small_one h1 h2 h3 h4) ?_
  have I1 : Inv X pins σ H { s with heap := s.heap.push { cls := .type "range", data := .fields #[.int lo t, .int hi u, .int 1 v] }, toks := tk } := I.kept fun b o e => Heap.get?_push_of_some _ e
  refine ⟨(s.heap.push { cls := .type "range", data := .fields #[.int lo t, .int hi u, .int 1 v] }).objs.size, [(s.heap.push { cls := .type "range", data := .fields #[.int lo t, .int hi u, .int 1 v] }).objs.size], _, _, H, rfl,
    I1.kept (t' := tk) fun b o e => Heap.get?_push_of_some _ e, turn_range _ lo (hi - lo).toNat, ?_, fun b hb => ?_, q⟩
  · have e1 : lo + ((0 : Nat) : Int) * 1 = lo := by simp
    have e2 : (((hi - lo).toNat : Nat) : Int) - ((0 : Nat) : Int) = Builtin.Range.rangeSize lo hi 1 := by rw [rangeSize_one]; split <;> omega
    show IsRangeIter _ _ (lo + ((0 : Nat) : Int) * 1) ((((hi - lo).toNat : Nat) : Int) - ((0 : Nat) : Int)) 1
    rw [e1, e2]
    exact Heap.get?_push_size _ rfl
  · have e : b = (s.heap.push { cls := .type "range", data := .fields #[.int lo t, .int hi u, .int 1 v] }).objs.size := by simpa using hb
    subst e
    exact I1.fpOk (Nat.le_refl _) (I1.hok.fresh (Nat.le_refl _))
def iRng1 (ta : TA) : TI := fun σ H R => ta σ H fun vs H1 => ∃ j : Int, vs = [.int j] ∧ -(2 ^ 62) ≤ j ∧ j < 2 ^ 62 ∧ R (Itr 0 j.toNat) H1
def iRng2 (ta : TA) : TI := fun σ H R => ta σ H fun vs H1 => ∃ i j : Int, vs = [.int i, .int j] ∧ (-(2 ^ 62) ≤ i ∧ i < 2 ^ 62 ∧ -(2 ^ 62) ≤ j ∧ j < 2 ^ 62) ∧ R (Itr i (j - i).toNat) H1
theorem pi_range1 {a : Expr} {ta : TA} {p pos : Pos} (hg : Gl X "range") (hm : X.mg "range" = none) (ha : PA X [a] ta) (hs : starEach [a] X.env = [(false, eval a X.env)] := by rfl) : PI X tg (.Call (.Name "range" p) [a] [] pos) (iRng1 ta) := by
  intro pins s σ H R I h
  refine Call_ (ld_blt I hg hm boot_range (PyProof.Rows.callWith_type1 (thn (ha pos pins s σ H _ I h) fun us s1 ⟨vs, H1, I1, r1, q1⟩ => ?_) hs rfl))
  obtain ⟨j, e, q1, q2, q⟩ := q1
  subst e
  cases r1 with
  | cons r rr =>
    cases rr
    obtain ⟨t, rfl⟩ := r
    exact call_range_1 (range_it I1 (by omega) (by omega) q1 q2 (by simpa using q))
theorem pi_range2 {a b : Expr} {ta : TA} {p pos : Pos} (hg : Gl X "range") (hm : X.mg "range" = none) (ha : PA X [a, b] ta) (hs : starEach [a, b] X.env = [(false, eval a X.env), (false, eval b X.env)] := by rfl) (hs2 : starEach [b] X.env = [(false, eval b X.env)] := by rfl) :
    PI X tg (.Call (.Name "range" p) [a, b] [] pos) (iRng2 ta) := by
  intro pins s σ H R I h
  refine Call_ (ld_blt I hg hm boot_range (PyProof.Rows.callWith_type1 (thn (ha pos pins s σ H _ I h) fun us s1 ⟨vs, H1, I1, r1, q1⟩ => ?_) (by rw [hs, hs2]) (by rw [hs2]; rfl)))
  obtain ⟨i, j, e, ⟨q1, q2, q3, q4⟩, q⟩ := q1
  subst e
  cases r1 with
  | cons r rr =>
    cases rr with
    | cons r' rr =>
      cases rr
      obtain ⟨t, rfl⟩ := r
      obtain ⟨t', rfl⟩ := r'
      exact call_range_2 (range_it I1 q1 q2 q3 q4 q)
def tFor (wi : TI) (g : TG) (tb : TS) : TS := fun D σ H => wi σ H fun J H1 => ∃ W : Nat → Nat → St → Hp → Prop, (∃ m, W 0 m σ H1) ∧ ∀ i m σ H, W i m σ H →
  (J.stop i H ∧ D.nx σ H) ∨ (J.go i H ∧ ∃ N : St → Hp → Prop, (∀ σ' H', N σ' H' → ∃ m', m' < m ∧ W (i + 1) m' σ' H') ∧ ∀ x H', J.yld i H x H' → g x σ H' fun σ2 H2 => tb { D with nx := N, ct := N, bk := D.nx } σ2 H2)
def pinsAt (fp : List Addr) (h : Heap) : List (Addr × Obj) := fp.filterMap fun b => (h.get? b).map fun o => (b, o)
theorem mem_pinsAt {fp : List Addr} {h : Heap} {b : Addr} {o : Obj} (hb : b ∈ fp) (e : h.get? b = some o) : (b, o) ∈ pinsAt fp h := List.mem_filterMap.mpr ⟨b, hb, by rw [e]; rfl⟩
theorem of_pinsAt {fp : List Addr} {h : Heap} {p : Addr × Obj} (hp : p ∈ pinsAt fp h) : p.1 ∈ fp ∧ h.get? p.1 = some p.2 := by
  obtain ⟨b, hb, e⟩ := List.mem_filterMap.mp hp
  cases q : h.get? b with
  | none => rw [q] at e; cases e
  | some o =>
    rw [q] at e
    have e' : (b, o) = p := Option.some.inj e
    subst e'
    exact ⟨hb, q⟩
theorem Inv.pinned {pins : List (Addr × Obj)} {σ : St} {H : Hp} {s : Shared} {fp : List Addr} (I : Inv X pins σ H s) (hf : ∀ b ∈ fp, FpOk X pins H b) (ho : ∀ b ∈ fp, ∃ o, s.heap.get? b = some o ∧ ∀ v, o.data ≠ .cell v) : Inv X (pins ++ pinsAt fp s.heap) σ H s :=
  I.pins_of fun p hp => (List.mem_append.mp hp).elim (fun z => I.pin p (List.mem_append_right _ z)) fun z => by
    obtain ⟨hb, e⟩ := of_pinsAt z
    obtain ⟨f0, f1, f2, _⟩ := hf p.1 hb
    obtain ⟨o, e', d⟩ := ho p.1 hb
    rw [e] at e'; cases e'
    exact ⟨e, f0, f1, f2, d⟩
theorem Inv.unpinned {pins pl : List (Addr × Obj)} {σ : St} {H : Hp} {s : Shared} (I : Inv X (pins ++ pl) σ H s) : Inv X pins σ H s := I.pins_of fun p hp => I.pin p (List.mem_append_right _ (List.mem_append_left _ hp))
theorem ps_for {iter : Expr} {body : List Stmt} {wi : TI} {g : TG} {tb : TS} {pos : Pos} (hp : PassesOwn (model X.prog X.w) X.A X.env X.xe) (hc : X.calm = true) (hi : PI X tg iter wi) (hg : PG X tg g) (hb : PSs X body tb)
    (hs : ∀ x, foldedSetIterable iter X.env x = pure x := by intro _; rfl) : PS X (.For tg iter body [] pos) (tFor wi g tb) := by
  intro pins s σ H D I h
  refine wpAny_For (thn (hi pins s σ H _ I h) fun v s1 h1 => thn h1 fun itv s2 h2 => ?_) hs
  obtain ⟨it, fp, tn, J, H2, e, I2, T, st2, f2, W, ⟨m0, w0⟩, turn⟩ := h2
  subst e
  -- what stays true of the iterator's objects through the loop
  have stat : ∀ {H' : Hp}, (∀ b ∈ fp, H' b = none) → ∀ b ∈ fp, FpOk X pins H' b := fun hn b hb => ⟨hn b hb, (f2 b hb).2⟩
  refine codeAny_forLoop_any (fun n s' => ∃ i σ' H', Inv X pins σ' H' s' ∧ tn i s'.heap ∧ (∀ b ∈ fp, H' b = none) ∧ W i n σ' H') ?_ m0 ⟨0, σ, H2, I2, st2, fun b hb => (f2 b hb).1, w0⟩
  rintro n s3 ⟨i, σ3, H3, I3, st3, fr3, w3⟩
  rcases turn i n σ3 H3 w3 with ⟨stop, qn⟩ | ⟨go, N, hN, step⟩
  · refine wpAny_passesOwn hp (thn (T.done X rfl rfl rfl hc i pins s3 σ3 H3 X.xe I3 (stat fr3) st3 stop) fun r s4 ⟨hr, I4⟩ => ?_)
    subst hr
    exact wpAny_execs_nil ⟨σ3, H3, I4, qn⟩
  · refine wpAny_passesOwn hp (thn (T.item X rfl rfl rfl hc i pins s3 σ3 H3 X.xe I3 (stat fr3) st3 go) fun r s4 ⟨u, hr, h4⟩ => ?_)
    subst hr
    refine wpAny_passesOwn hp (thn h4 fun _ s5 ⟨x, H5, I5, r5, y5, st5, fr5⟩ => ?_)
    have I5' := I5.pinned (stat fr5) (T.obj _ _ st5)
    refine wpAny_passesOwn hp (thn (hg _ s5 σ3 H5 x u _ I5' r5 (step x H5 y5)) fun _ s6 ⟨σ6, H6, I6, q6⟩ => ?_)
    refine wpAny_passesOwn hp (thn (hb _ s6 σ6 H6 _ I6 q6) fun f s7 q7 => ?_)
    have again : ∀ {σ7 : St} {H7 : Hp}, Inv X (pins ++ pinsAt fp s5.heap) σ7 H7 s7 → N σ7 H7 → ∃ m, m < n ∧ ∃ i σ' H', Inv X pins σ' H' s7 ∧ tn i s7.heap ∧ (∀ b ∈ fp, H' b = none) ∧ W i m σ' H' := fun {σ7 H7} I7 n7 => by
      obtain ⟨m', hm, w7⟩ := hN σ7 H7 n7
      refine ⟨m', hm, i + 1, σ7, H7, I7.unpinned, T.keep _ _ _ st5 fun b hb o e => (I7.pin (b, o) (List.mem_append_right _ (List.mem_append_right _ (mem_pinsAt hb e)))).1, fun b hb => ?_, w7⟩
      obtain ⟨o, e, d⟩ := T.obj _ _ st5 b hb
      exact (I7.pin (b, o) (List.mem_append_right _ (List.mem_append_right _ (mem_pinsAt hb e)))).2.1
    cases f with
    | next => obtain ⟨σ7, H7, I7, n7⟩ := q7; exact again I7 n7
    | cont => obtain ⟨σ7, H7, I7, n7⟩ := q7; exact again I7 n7
    | brk => obtain ⟨σ7, H7, I7, q7⟩ := q7; exact ⟨σ7, H7, I7.unpinned, q7⟩
    | ret v => obtain ⟨x7, σ7, H7, I7, r7, q7⟩ := q7; exact ⟨x7, σ7, H7, I7.unpinned, r7, q7⟩
end
theorem for_list {K : PySem.W.Frag} {a : Addr} {xs : List V} {g : TG} {tb : TS} {D : Ends} {σ : St} {H : Hp} (Pv : Nat → St → Hp → Prop) (h0 : Pv 0 σ H) (hl : ∀ i σ H, i ≤ xs.length → Pv i σ H → SqL K H a xs)
    (hs : ∀ i x σ H, xs[i]? = some x → Pv i σ H → g x σ H fun σ2 H2 => tb { D with nx := Pv (i + 1), ct := Pv (i + 1), bk := D.nx } σ2 H2) (hd : ∀ σ H, Pv xs.length σ H → D.nx σ H) :
    ∃ W : Nat → Nat → St → Hp → Prop, (∃ m, W 0 m σ H) ∧ ∀ i m σ H, W i m σ H →
      ((Itl K a).stop i H ∧ D.nx σ H) ∨ ((Itl K a).go i H ∧ ∃ N : St → Hp → Prop, (∀ σ' H', N σ' H' → ∃ m', m' < m ∧ W (i + 1) m' σ' H') ∧ ∀ x H', (Itl K a).yld i H x H' → g x σ H' fun σ2 H2 => tb { D with nx := N, ct := N, bk := D.nx } σ2 H2) := by
  refine ⟨fun i m σ H => m = xs.length - i ∧ i ≤ xs.length ∧ Pv i σ H, ⟨xs.length, by simp, Nat.zero_le _, h0⟩, ?_⟩
  rintro i m σ H ⟨rfl, hi, p⟩
  have q := hl i σ H hi p
  by_cases hlt : i < xs.length
  · refine .inr ⟨⟨xs, xs[i], q, by simp [hlt]⟩, Pv (i + 1), fun σ' H' p' => ⟨xs.length - (i + 1), by omega, rfl, hlt, p'⟩, fun x H' y => ?_⟩
    obtain ⟨e, y⟩ := y
    subst e
    exact hs i x σ _ (y xs q) p
  · have e : i = xs.length := by omega
    subst e
    exact .inl ⟨⟨xs, q, Nat.le_refl _⟩, hd σ H p⟩
theorem for_range {lo : Int} {n : Nat} {g : TG} {tb : TS} {D : Ends} {σ : St} {H : Hp} (Pv : Nat → St → Hp → Prop) (h0 : Pv 0 σ H)
    (hs : ∀ i σ H, i < n → Pv i σ H → g (.int (lo + i)) σ H fun σ2 H2 => tb { D with nx := Pv (i + 1), ct := Pv (i + 1), bk := D.nx } σ2 H2) (hd : ∀ σ H, Pv n σ H → D.nx σ H) :
    ∃ W : Nat → Nat → St → Hp → Prop, (∃ m, W 0 m σ H) ∧ ∀ i m σ H, W i m σ H →
      ((Itr lo n).stop i H ∧ D.nx σ H) ∨ ((Itr lo n).go i H ∧ ∃ N : St → Hp → Prop, (∀ σ' H', N σ' H' → ∃ m', m' < m ∧ W (i + 1) m' σ' H') ∧ ∀ x H', (Itr lo n).yld i H x H' → g x σ H' fun σ2 H2 => tb { D with nx := N, ct := N, bk := D.nx } σ2 H2) := by
  refine ⟨fun i m σ H => m = n - i ∧ i ≤ n ∧ Pv i σ H, ⟨n, by simp, Nat.zero_le _, h0⟩, ?_⟩
  rintro i m σ H ⟨rfl, hi, p⟩
  by_cases hlt : i < n
  · refine .inr ⟨hlt, Pv (i + 1), fun σ' H' p' => ⟨n - (i + 1), by omega, rfl, hlt, p'⟩, fun x H' y => ?_⟩
    obtain ⟨e, y⟩ := y
    subst e y
    exact hs i σ _ hlt p
  · have e : i = n := by omega
    subst e
    exact .inl ⟨Nat.le_refl _, hd σ H p⟩
end L2
namespace L2
open PySem PySem.Spec PyProof.Rows
abbrev R2 := V → V → Hp → VK → Prop
def OpR (X : Cx) (f : Value → Value → Sem Value) (r : R2) : Prop :=
  ∀ (pins : List (Addr × Obj)) (s : Shared) (σ : St) (H : Hp) (x y : V) (v u : Value) (Q : VK), Inv X pins σ H s → RelV x v → RelV y u → r x y H Q →
    wpAny (model X.prog X.w) X.A (f v u) (EP X pins σ Q) X.xe s
def UnR (X : Cx) (f : Value → Sem Value) (r : V → Hp → VK → Prop) : Prop :=
  ∀ (pins : List (Addr × Obj)) (s : Shared) (σ : St) (H : Hp) (x : V) (v : Value) (Q : VK), Inv X pins σ H s → RelV x v → r x H Q →
    wpAny (model X.prog X.w) X.A (f v) (EP X pins σ Q) X.xe s
def CallR (X : Cx) (f : Value) (r : List V → Hp → VK → Prop) : Prop :=
  ∀ (pins : List (Addr × Obj)) (s : Shared) (σ : St) (H : Hp) (xs : List V) (us : List Value) (Q : VK), Inv X pins σ H s → Vals xs us → r xs H Q →
    wpAny (model X.prog X.w) X.A (call f us) (EP X pins σ Q) X.xe s
def tOp (r : R2) (ta tb : TE) : TE := fun σ H Q => ta σ H fun x H1 => tb σ H1 fun y H2 => r x y H2 Q
def tUn (r : V → Hp → VK → Prop) (ta : TE) : TE := fun σ H Q => ta σ H fun x H1 => r x H1 Q
def rI (C : Int → Int → Prop) (g : Int → Int → V) : R2 := fun x y H Q => ∃ i j, x = .int i ∧ y = .int j ∧ C i j ∧ Q (g i j) H
def rI0 (g : Int → Int → V) : R2 := fun x y H Q => ∃ i j, x = .int i ∧ y = .int j ∧ Q (g i j) H
def rU (g : Int → V) : V → Hp → VK → Prop := fun x H Q => ∃ i, x = .int i ∧ Q (g i) H
section
variable {X : Cx} {a b c : Expr} {ta tb tc : TE} {pos : Pos}
theorem binT (ha : PE X a ta) (hb : PE X b tb) {pins : List (Addr × Obj)} {s : Shared} {σ : St} {H : Hp} {R : V → V → Hp → Prop} (I : Inv X pins σ H s)
    (h : ta σ H fun x H1 => tb σ H1 fun y H2 => R x y H2) {Q : Value → Shared → Prop} {f : Value → Value → Sem Value}
    (hf : ∀ v u s2 x y H2, Inv X pins σ H2 s2 → RelV x v → RelV y u → R x y H2 → wpAny (model X.prog X.w) X.A (f v u) Q X.xe s2) :
    wpAny (model X.prog X.w) X.A (eval a X.env) (fun v s₁ => wpAny (model X.prog X.w) X.A (eval b X.env) (fun u s₂ => wpAny (model X.prog X.w) X.A (f v u) Q X.xe s₂) X.xe s₁) X.xe s := by
  refine thn (ha pins s σ H _ I h) fun v s1 ⟨x, H1, I1, r1, q1⟩ => ?_
  refine thn (hb pins s1 σ H1 _ I1 q1) fun u s2 ⟨y, H2, I2, r2, q2⟩ => ?_
  exact hf v u s2 x y H2 I2 r1 r2 q2
theorem pe_op {op : Operator} {r : R2} (ho : OpR X (binaryOp op) r) (ha : PE X a ta) (hb : PE X b tb) : PE X (.BinOp a op b pos) (tOp r ta tb) := by
  intro pins s σ H Q I h
  exact wpAny_BinOp (binT ha hb I h fun v u s2 x y H2 I2 rx ry q => ho pins s2 σ H2 x y v u Q I2 rx ry q)
theorem pe_un {op : UnaryOp} {r : V → Hp → VK → Prop} (ho : UnR X (unaryOp op) r) (ha : PE X a ta) : PE X (.UnaryOp op a pos) (tUn r ta) := by
  intro pins s σ H Q I h
  exact UnaryOp_ (thn (ha pins s σ H _ I h) fun v s1 ⟨x, H1, I1, r1, q1⟩ => ho pins s1 σ H1 x v Q I1 r1 q1)
theorem opI {f : Value → Value → Sem Value} {C : Int → Int → Prop} {g : Int → Int → Int}
    (rule : ∀ (i j : Int) (t u : Tok) (s : Shared) (Q : Value → Shared → Prop) (E : Value → Shared → Prop), C i j → Q (.int (g i j) s.toks) { s with toks := s.toks + 1 } → wpAny (model X.prog X.w) X.A (f (.int i t) (.int j u)) Q E s) :
    OpR X f (rI C fun i j => .int (g i j)) := by
  intro pins s σ H x y v u Q I rx ry h
  obtain ⟨i, j, rfl, rfl, hc, q⟩ := h
  obtain ⟨t, rfl⟩ := rx
  obtain ⟨t', rfl⟩ := ry
  exact rule i j t t' s _ _ hc ⟨.int (g i j), H, I.tok _, ⟨_, rfl⟩, q⟩
theorem opI0 {f : Value → Value → Sem Value} {g : Int → Int → Int}
    (rule : ∀ (i j : Int) (t u : Tok) (s : Shared) (Q : Value → Shared → Prop) (E : Value → Shared → Prop), Q (.int (g i j) s.toks) { s with toks := s.toks + 1 } → wpAny (model X.prog X.w) X.A (f (.int i t) (.int j u)) Q E s) :
    OpR X f (rI0 fun i j => .int (g i j)) := by
  intro pins s σ H x y v u Q I rx ry h
  obtain ⟨i, j, rfl, rfl, q⟩ := h
  obtain ⟨t, rfl⟩ := rx
  obtain ⟨t', rfl⟩ := ry
  exact rule i j t t' s _ _ ⟨.int (g i j), H, I.tok _, ⟨_, rfl⟩, q⟩
theorem opB0 {f : Value → Value → Sem Value} {g : Int → Int → Bool}
    (rule : ∀ (i j : Int) (t u : Tok) (s : Shared) (Q : Value → Shared → Prop) (E : Value → Shared → Prop), Q (.bool (g i j)) s → wpAny (model X.prog X.w) X.A (f (.int i t) (.int j u)) Q E s) :
    OpR X f (rI0 fun i j => .bl (g i j)) := by
  intro pins s σ H x y v u Q I rx ry h
  obtain ⟨i, j, rfl, rfl, q⟩ := h
  obtain ⟨t, rfl⟩ := rx
  obtain ⟨t', rfl⟩ := ry
  exact rule i j t t' s _ _ ⟨.bl (g i j), H, I, rfl, q⟩
def CPow (i j : Int) : Prop := 0 ≤ j ∧ j ≤ 1000000 ∧ i.natAbs < 2 ^ 64
def CMul (i j : Int) : Prop := (-(2 ^ 64) < i ∧ i < 2 ^ 64) ∨ (-(2 ^ 64) < j ∧ j < 2 ^ 64)
theorem CMul.ok {i j : Int} (h : CMul i j) : IntMulOk i j := by
  rcases h with ⟨h1, h2⟩ | ⟨h1, h2⟩
  · exact .of_left (intBits_le_64 h1 h2)
  · exact .of_right (intBits_le_64 h1 h2)
theorem op_add : OpR X (binaryOp .Add) (rI0 fun i j => .int (i + j)) := opI0 fun _ _ _ _ _ _ _ q => add_int q
theorem op_sub : OpR X (binaryOp .Sub) (rI0 fun i j => .int (i - j)) := opI0 fun _ _ _ _ _ _ _ q => sub_int q
theorem op_mul : OpR X (binaryOp .Mult) (rI CMul fun i j => .int (i * j)) := opI fun _ _ _ _ _ _ _ hc q => mul_int q hc.ok
theorem op_mod : OpR X (binaryOp .Mod) (rI (fun _ j => 0 < j) fun i j => .int (i % j)) := opI fun i j _ _ _ _ _ hc q => by
  have h1 : (0 : Int) < j := hc
  exact mod_int' (by omega) (by rw [Int.fmod_eq_emod_of_nonneg i (by omega)]; exact q)
theorem op_pow : OpR X (binaryOp .Pow) (rI CPow fun i j => .int (i ^ j.toNat)) := opI fun _ _ _ _ _ _ _ hc q => pow_int_small hc.1 hc.2.1 hc.2.2 q
theorem unI {f : Value → Sem Value} {g : Int → Int}
    (rule : ∀ (i : Int) (t : Tok) (s : Shared) (Q : Value → Shared → Prop) (E : Value → Shared → Prop), Q (.int (g i) s.toks) { s with toks := s.toks + 1 } → wpAny (model X.prog X.w) X.A (f (.int i t)) Q E s) :
    UnR X f (rU fun i => .int (g i)) := by
  intro pins s σ H x v Q I rx h
  obtain ⟨i, rfl, q⟩ := h
  obtain ⟨t, rfl⟩ := rx
  exact rule i t s _ _ ⟨.int (g i), H, I.tok _, ⟨_, rfl⟩, q⟩
theorem un_neg : UnR X (unaryOp .USub) (rU fun i => .int (-i)) := unI fun _ _ _ _ _ q => neg_int q
end
def scal : V → V → Bool
  | .non, .non => true | .non, .int _ => true | .int _, .non => true | .non, .bl _ => true | .bl _, .non => true | .non, .str _ => true | .str _, .non => true
  | .int _, .int _ => true | .bl _, .bl _ => true | .str _, .str _ => true | .byt _, .byt _ => true
  | .int _, .str _ => true | .str _, .int _ => true | .bl _, .str _ => true | .str _, .bl _ => true
  | _, _ => false
def rEq : R2 := fun x y H Q => scal x y = true ∧ Q (.bl (decide (x = y))) H
def rNe : R2 := fun x y H Q => scal x y = true ∧ Q (.bl (!decide (x = y))) H
theorem dec_int {i j : Int} : decide (V.int i = V.int j) = (i == j) := by
  rw [Bool.eq_iff_iff]
  simp
theorem dec_bl {i j : Bool} : decide (V.bl i = V.bl j) = (i == j) := by
  rw [Bool.eq_iff_iff]
  simp
theorem dec_str {i j : Str} : decide (V.str i = V.str j) = (i == j) := by
  rw [Bool.eq_iff_iff]
  simp
theorem dec_byt {i j : Array UInt8} : decide (V.byt i = V.byt j) = (i.toList == j.toList) := by
  rw [Bool.eq_iff_iff]
  cases i
  cases j
  simp
section
variable {X : Cx} {a b c : Expr} {ta tb tc : TE} {pos : Pos}
theorem fin_bl {pins : List (Addr × Obj)} {σ : St} {H : Hp} {s : Shared} {Q : VK} {k k' : Bool} (I : Inv X pins σ H s) (q : Q (.bl k) H) (e : k = k') : EP X pins σ Q (.bool k') s := by
  subst e
  exact ⟨.bl k, H, I, rfl, q⟩
theorem op_eq : OpR X (compareOp .Eq) rEq := by
  intro pins s σ H x y v u Q I rx ry h
  obtain ⟨hs, q⟩ := h
  cases x with
  | non =>
    cases rx
    cases y with
    | non => cases ry; exact PySem.EqNone.eq_none_none (fin_bl I q (by simp))
    | bl j => cases ry; exact PySem.EqNone.eq_none_bool (fin_bl I q (by simp))
    | int j => obtain ⟨t', rfl⟩ := ry; exact PySem.EqNone.eq_none_int (fin_bl I q (by simp))
    | str j => obtain ⟨t', rfl⟩ := ry; exact PySem.EqNone.eq_none_str (fin_bl I q (by simp))
    | _ => exact absurd (show false = true from hs) Bool.false_ne_true
  | bl i =>
    cases rx
    cases y with
    | non => cases ry; exact PySem.EqNone.eq_bool_none (fin_bl I q (by simp))
    | bl j => cases ry; exact eq_bool (fin_bl I q dec_bl)
    | str j => obtain ⟨t', rfl⟩ := ry; exact PySem.EqMixed.eq_bool_str (fin_bl I q (by simp))
    | _ => exact absurd (show false = true from hs) Bool.false_ne_true
  | int i =>
    obtain ⟨t, rfl⟩ := rx
    cases y with
    | non => cases ry; exact PySem.EqNone.eq_int_none (fin_bl I q (by simp))
    | int j => obtain ⟨t', rfl⟩ := ry; exact eq_int (fin_bl I q dec_int)
    | str j => obtain ⟨t', rfl⟩ := ry; exact PySem.EqMixed.eq_int_str (fin_bl I q (by simp))
    | _ => exact absurd (show false = true from hs) Bool.false_ne_true
  | str i =>
    obtain ⟨t, rfl⟩ := rx
    cases y with
    | non => cases ry; exact PySem.EqNone.eq_str_none (fin_bl I q (by simp))
    | bl j => cases ry; exact PySem.EqMixed.eq_str_bool (fin_bl I q (by simp))
    | int j => obtain ⟨t', rfl⟩ := ry; exact PySem.EqMixed.eq_str_int (fin_bl I q (by simp))
    | str j => obtain ⟨t', rfl⟩ := ry; exact eq_str (fin_bl I q dec_str)
    | _ => exact absurd (show false = true from hs) Bool.false_ne_true
  | byt i =>
    obtain ⟨t, rfl⟩ := rx
    cases y with
    | byt j => obtain ⟨t', rfl⟩ := ry; exact PySem.W.eq_bytes (fin_bl I q dec_byt)
    | _ => exact absurd (show false = true from hs) Bool.false_ne_true
  | _ => cases y <;> exact absurd (show false = true from hs) Bool.false_ne_true
theorem op_ne : OpR X (compareOp .NotEq) rNe := by
  intro pins s σ H x y v u Q I rx ry h
  obtain ⟨hs, q⟩ := h
  cases x with
  | non =>
    cases rx
    cases y with
    | non => cases ry; exact PySem.EqNone.ne_none_none (fin_bl I q (by simp))
    | bl j => cases ry; exact PySem.EqNone.ne_none_bool (fin_bl I q (by simp))
    | int j => obtain ⟨t', rfl⟩ := ry; exact PySem.EqNone.ne_none_int (fin_bl I q (by simp))
    | str j => obtain ⟨t', rfl⟩ := ry; exact PySem.EqNone.ne_none_str (fin_bl I q (by simp))
    | _ => exact absurd (show false = true from hs) Bool.false_ne_true
  | bl i =>
    cases rx
    cases y with
    | non => cases ry; exact PySem.EqNone.ne_bool_none (fin_bl I q (by simp))
    | bl j => cases ry; exact ne_bool (fin_bl I q (congrArg not dec_bl))
    | str j => obtain ⟨t', rfl⟩ := ry; exact PySem.EqMixed.ne_bool_str (fin_bl I q (by simp))
    | _ => exact absurd (show false = true from hs) Bool.false_ne_true
  | int i =>
    obtain ⟨t, rfl⟩ := rx
    cases y with
    | non => cases ry; exact PySem.EqNone.ne_int_none (fin_bl I q (by simp))
    | int j => obtain ⟨t', rfl⟩ := ry; exact ne_int (fin_bl I q (congrArg not dec_int))
    | str j => obtain ⟨t', rfl⟩ := ry; exact PySem.EqMixed.ne_int_str (fin_bl I q (by simp))
    | _ => exact absurd (show false = true from hs) Bool.false_ne_true
  | str i =>
    obtain ⟨t, rfl⟩ := rx
    cases y with
    | non => cases ry; exact PySem.EqNone.ne_str_none (fin_bl I q (by simp))
    | bl j => cases ry; exact PySem.EqMixed.ne_str_bool (fin_bl I q (by simp))
    | int j => obtain ⟨t', rfl⟩ := ry; exact PySem.EqMixed.ne_str_int (fin_bl I q (by simp))
    | str j => obtain ⟨t', rfl⟩ := ry; exact ne_str (fin_bl I q (congrArg not dec_str))
    | _ => exact absurd (show false = true from hs) Bool.false_ne_true
  | byt i =>
    obtain ⟨t, rfl⟩ := rx
    cases y with
    | byt j => obtain ⟨t', rfl⟩ := ry; exact PySem.W.ne_bytes (fin_bl I q (congrArg not dec_byt))
    | _ => exact absurd (show false = true from hs) Bool.false_ne_true
  | _ => cases y <;> exact absurd (show false = true from hs) Bool.false_ne_true
theorem op_lt : OpR X (compareOp .Lt) (rI0 fun i j => .bl (decide (i < j))) := opB0 fun _ _ _ _ _ _ _ q => lt_int q
theorem op_le : OpR X (compareOp .LtE) (rI0 fun i j => .bl (decide (i ≤ j))) := opB0 fun _ _ _ _ _ _ _ q => le_int q
theorem op_gt : OpR X (compareOp .Gt) (rI0 fun i j => .bl (decide (j < i))) := opB0 fun _ _ _ _ _ _ _ q => gt_int q
theorem op_ge : OpR X (compareOp .GtE) (rI0 fun i j => .bl (decide (j ≤ i))) := opB0 fun _ _ _ _ _ _ _ q => ge_int q
theorem OpR.or {f : Value → Value → Sem Value} {r r' : R2} (h : OpR X f r) (h' : OpR X f r') : OpR X f (fun x y H Q => r x y H Q ∨ r' x y H Q) := by
  intro pins s σ H x y v u Q I rx ry q
  rcases q with q | q
  · exact h pins s σ H x y v u Q I rx ry q
  · exact h' pins s σ H x y v u Q I rx ry q
theorem nomark (b : Expr) {op : CmpOp} (h : op ≠ .In := by decide) (h2 : op ≠ .NotIn := by decide) : behindInMarks op b = false := by
  have e1 : (op == CmpOp.In) = false := by cases op <;> first | rfl | exact absurd rfl h
  have e2 : (op == CmpOp.NotIn) = false := by cases op <;> first | rfl | exact absurd rfl h2
  cases b <;> simp [behindInMarks, e1, e2]
theorem pe_cmpR {op : CmpOp} {r : R2} (ho : OpR X (compareOp op) r) (ha : PE X a ta) (hb : PE X b tb) (hm : behindInMarks op b = false) : PE X (.Compare a [op] [b] pos) (tOp r ta tb) := by
  intro pins s σ H Q I h
  exact wpAny_Compare1 (binT ha hb I h fun v u s2 x y H2 I2 rx ry q => ho pins s2 σ H2 x y v u Q I2 rx ry q) hm
def tTest (t : TE) : TT := fun σ H Q => t σ H fun x H' => ∃ k, x = .bl k ∧ Q k H'
theorem pt_cmpR {op : CmpOp} {r : R2} (ho : OpR X (compareOp op) r) (ha : PE X a ta) (hb : PE X b tb) (hm : behindInMarks op b = false) : PT X (.Compare a [op] [b] pos) (tTest (tOp r ta tb)) := by
  intro pins s σ H Q I h
  refine wpAny_isTrue_Compare1 (thn (ha pins s σ H _ I h) fun v s1 ⟨x, H1, I1, r1, q1⟩ => thn (hb pins s1 σ H1 _ I1 q1) fun u s2 ⟨y, H2, I2, r2, q2⟩ =>
    thn (ho pins s2 σ H2 x y v u _ I2 r1 r2 q2) fun c s3 ⟨z, H3, I3, r3, k, e, q3⟩ => ?_) hm
  subst e
  cases r3
  exact wpAny_truthy_bool ⟨H3, I3, q3⟩
def tChain (r r' : R2) (ta tb tc : TE) : TE := fun σ H Q => ta σ H fun x H1 => tb σ H1 fun y H2 => r x y H2 fun z H3 => ∃ k, z = .bl k ∧
  (if k = true then tc σ H3 fun w' H4 => r' y w' H4 Q else Q (.bl false) H3)
theorem pe_chain {op op' : CmpOp} {r r' : R2} (ho : OpR X (compareOp op) r) (ho' : OpR X (compareOp op') r') (ha : PE X a ta) (hb : PE X b tb) (hc : PE X c tc)
    (hm : lastMarks [op, op'] [b, c] = false := by with_unfolding_all rfl) : PE X (.Compare a [op, op'] [b, c] pos) (tChain r r' ta tb tc) := by
  intro pins s σ H Q I h
  refine Compare_chain (thn (ha pins s σ H _ I h) fun v s1 ⟨x, H1, I1, r1, q1⟩ => chain_link (thn (hb pins s1 σ H1 _ I1 q1) fun u s2 ⟨y, H2, I2, r2, q2⟩ =>
    thn (ho pins s2 σ H2 x y v u _ I2 r1 r2 q2) fun d s3 ⟨z, H3, I3, r3, k, e, q3⟩ => ?_)) hm
  subst e
  cases r3
  refine wpAny_truthy_bool ?_
  cases k with
  | false => exact ite_ff ⟨.bl false, H3, I3, rfl, q3⟩
  | true => exact ite_tt (chain_last (thn (hc pins s3 σ H3 _ I3 q3) fun w' s4 ⟨z', H4, I4, r4, q4⟩ => ho' pins s4 σ H4 y z' u w' Q I4 r2 r4 q4))
theorem line63 : (sizeLine : Nat) < 2 ^ 63 := by rw [sizeLine_eq]; decide
theorem op_add_str : OpR X (binaryOp .Add) (fun x y H Q => ∃ i j, x = .str i ∧ y = .str j ∧ i.length + j.length ≤ sizeLine ∧ Q (.str (i ++ j)) H) := by
  intro pins s σ H x y v u Q I rx ry h
  obtain ⟨i, j, rfl, rfl, hz, q⟩ := h
  obtain ⟨t, rfl⟩ := rx
  obtain ⟨t', rfl⟩ := ry
  exact add_str (fun t' tk => ⟨.str (i ++ j), H, I.tok _, ⟨_, rfl⟩, q⟩) hz
theorem vals1 {x : V} {us : List Value} (r : Vals [x] us) : ∃ u, us = [u] ∧ RelV x u := by
  cases r with
  | cons r1 r2 => cases r2; exact ⟨_, rfl, r1⟩
theorem vals2 {x y : V} {us : List Value} (r : Vals [x, y] us) : ∃ u w', us = [u, w'] ∧ RelV x u ∧ RelV y w' := by
  cases r with
  | cons r1 r2 =>
    cases r2 with
    | cons r3 r4 => cases r4; exact ⟨_, _, rfl, r1, r3⟩
theorem call_abs : CallR X (.builtin "abs") (fun xs H Q => ∃ i, xs = [.int i] ∧ Q (.int (if i < 0 then -i else i)) H) := by
  intro pins s σ H xs us Q I r h
  obtain ⟨i, rfl, q⟩ := h
  obtain ⟨u, rfl, t, rfl⟩ := vals1 r
  exact call_abs_int fun u tk => ⟨.int (if i < 0 then -i else i), H, I.tok _, ⟨_, rfl⟩, q⟩
theorem call_max2 (hc : X.calm = true) : CallR X (.builtin "max") (fun xs H Q => ∃ i j, xs = [.int i, .int j] ∧ Q (.int (if j > i then j else i)) H) := by
  intro pins s σ H xs us Q I r h
  obtain ⟨i, j, rfl, q⟩ := h
  obtain ⟨u, w', rfl, ⟨t, rfl⟩, ⟨t', rfl⟩⟩ := vals2 r
  refine max_two_ints (I.ok.hd hc) fun h' tk k => ⟨_, H, I.kept k, ?_, q⟩
  by_cases hj : j > i
  · rw [if_pos hj, if_pos hj]; exact ⟨_, rfl⟩
  · rw [if_neg hj, if_neg hj]; exact ⟨_, rfl⟩
theorem call_min2 (hc : X.calm = true) : CallR X (.builtin "min") (fun xs H Q => ∃ i j, xs = [.int i, .int j] ∧ Q (.int (if j < i then j else i)) H) := by
  intro pins s σ H xs us Q I r h
  obtain ⟨i, j, rfl, q⟩ := h
  obtain ⟨u, w', rfl, ⟨t, rfl⟩, ⟨t', rfl⟩⟩ := vals2 r
  refine min_two_ints (I.ok.hd hc) fun h' tk k => ⟨_, H, I.kept k, ?_, q⟩
  by_cases hj : j < i
  · rw [if_pos hj, if_pos hj]; exact ⟨_, rfl⟩
  · rw [if_neg hj, if_neg hj]; exact ⟨_, rfl⟩
theorem call_int1 : CallR X (.type "int") (fun xs H Q => (∃ i, xs = [.int i] ∧ Q (.int i) H) ∨ ∃ k, xs = [.bl k] ∧ Q (.int (if k then 1 else 0)) H) := by
  intro pins s σ H xs us Q I r h
  rcases h with ⟨i, rfl, q⟩ | ⟨k, rfl, q⟩
  · obtain ⟨u, rfl, t, rfl⟩ := vals1 r
    exact call_int_int ⟨.int i, H, I, ⟨_, rfl⟩, q⟩
  · obtain ⟨u, rfl, r1⟩ := vals1 r
    cases r1
    exact call_int_bool ⟨.int (if k then 1 else 0), H, I.tok _, ⟨_, rfl⟩, q⟩
theorem call_str_int : CallR X (.type "str") (fun xs H Q => ∃ i, xs = [.int i] ∧ i.natAbs.log2 < 1920 ∧ Q (.str (toString i)) H) := by
  intro pins s σ H xs us Q I r h
  obtain ⟨i, rfl, hz, q⟩ := h
  obtain ⟨u, rfl, t, rfl⟩ := vals1 r
  exact PySem.P.str_of_int hz ⟨.str _, H, I.tok _, ⟨_, rfl⟩, q⟩
end
end L2
namespace L2
open PySem PySem.Spec PyProof.Rows
structure ObjM (h : Heap) (x dx C : Addr) (mA : Str → Option Value) : Prop where
  obj : h.get? x = some (PySem.W.instObj C dx)
  ns : h.Ns1 dx mA
  ne : dx ≠ x
theorem lookIn_ns {h : Heap} {dx : Addr} {mA : Str → Option Value} (n : h.Ns1 dx mA) : ∃ od, h.get? dx = some od ∧ ∀ name, PySem.W.lookIn name od = some (mA name) := by
  obtain ⟨o, es, ep, ho, hd, hk, _, hm⟩ := n
  refine ⟨o, ho, fun name => ?_⟩
  have e := hm name
  unfold nsFind findBy at e
  rw [← Array.find?_toList] at e
  unfold PySem.W.lookIn
  rw [hd]
  dsimp only
  split
  · rename_i y q
    rw [q] at e
    exact congrArg some e
  · rename_i q
    rw [q] at e
    have a : es.toList.any (·.refKey) = false := by
      rw [List.any_eq_false]
      intro y hy
      obtain ⟨z, t, hkey⟩ := hk y (Array.mem_toList_iff.mp hy)
      simp [DictEntry.refKey, hkey]
    have a' : ¬ es.toList.any (·.refKey) = true := by rw [a]; exact Bool.false_ne_true
    rw [if_neg a']
    exact congrArg some e
theorem ObjM.look {h : Heap} {x dx C : Addr} {mA : Str → Option Value} (I : ObjM h x dx C mA) : ∃ od, PySem.W.InstAt h x (PySem.W.instObj C dx) C (some od) ∧ ∀ name, PySem.W.lookIn name od = some (mA name) :=
  let ⟨od, ho, hl⟩ := lookIn_ns I.ns
  ⟨od, ⟨I.obj, rfl, rfl, ho⟩, hl⟩
theorem RelO.some_of {v : V} {o : Option Value} (r : RelO (some v) o) : ∃ u, o = some u ∧ RelV v u := by
  cases o with
  | none => exact (show False from r).elim
  | some u => exact ⟨u, rfl, r⟩
section
variable {P : Program} {w : World} {H H' : Hp} {h h' : Heap} {a C dx : Addr} {fs fs' : List (Str × V)}
theorem ins_get (hok : HOk P w H h) (e : H a = some (.ins C dx fs)) : ∃ mA, ObjM h a dx C mA ∧ (∀ f, RelO (fs.lookup f) (mA f)) ∧ PySem.Within mA (fs.map (·.1)) ∧ fs.length ≤ 1000 ∧ H dx = some (.own a) := by
  obtain ⟨d, z, ne, ob, mA, n, r, q⟩ := (show ObjOk P w H h a (.ins C dx fs) from hok a _ e)
  exact ⟨mA, ⟨ob, n, ne⟩, r, q, z, d⟩
end
structure Cls (K : PySem.W.Frag) (C : Addr) : Prop where
  pg : PySem.W.plainGet K C Str.empty = true
  hd : PySem.W.hasDictIn K C = true
  po : PySem.W.plainOver K C = true
  sa : PySem.W.findIn K (.ref C) "__setattr__" = some (some (.builtin "object.__setattr__"))
theorem Cls.get {K : PySem.W.Frag} {C : Addr} (c : Cls K C) (f : Str) : PySem.W.plainGet K C f = true := c.pg
structure Con (K : PySem.W.Frag) (C : Addr) (f : Str) (v : V) (u : Value) : Prop where
  at_ : PySem.W.findIn K (.ref C) f = some (some u)
  rel : RelV v u
  get : PySem.W.specialIn K u "__get__" = some none
  cp : PySem.W.copiedNames.contains f = false
structure Meth (K : PySem.W.Frag) (C : Addr) (m : Str) (f : Addr) : Prop where
  at_ : PySem.W.findIn K (.ref C) m = some (some (.ref f))
  fn : PySem.W.isFn K (.ref f) = true
  kp : PySem.W.keepIn K (.ref f) = true
section
variable {X : Cx} {pins : List (Addr × Obj)} {σ : St} {H : Hp} {s : Shared} {A : Around} {E : Value → Shared → Prop} {Q : Value → Shared → Prop} {c : Value} {b : Bool}
inductive TyOf (K : PySem.W.Frag) (H : Hp) : V → Value → Prop where
  | non : TyOf K H .non (.type "NoneType")
  | bl (x : Bool) : TyOf K H (.bl x) (.type "bool")
  | int (i : Int) : TyOf K H (.int i) (.type "int")
  | str (x : Str) : TyOf K H (.str x) (.type "str")
  | flt (x : UInt64) : TyOf K H (.flt x) (.type "float")
  | lst {a : Addr} {xs : List V} (e : H a = some (.lst xs)) : TyOf K H (.ref a) (.type "list")
  | frz {a : Addr} {o : Obj} {xs : List V} (e : H a = some (.frz o (.lst xs))) : TyOf K H (.ref a) (.type "list")
  | tup {a : Addr} {xs : List V} (e : H a = some (.tup xs)) : TyOf K H (.ref a) (.type "tuple")
  | dK {a : Addr} {kvs : List (Key × V)} (e : H a = some (.dK kvs)) : TyOf K H (.ref a) (.type "dict")
  | dT {a : Addr} {kvs : List (List Key × V)} (e : H a = some (.dT kvs)) : TyOf K H (.ref a) (.type "dict")
  | ins {a C dx : Addr} {fs : List (Str × V)} (e : H a = some (.ins C dx fs)) (cl : Cls K C) (ha : PySem.W.findIn K (.ref C) "__class__" = some (some (.builtin "object.__class__")))
      (hn : PySem.W.specialIn K (.builtin "object.__class__") "__get__" = some (some (.builtin "getset_descriptor.__get__"))) (htk : PySem.W.takesIn K (.builtin "object.__class__") = some true)
      (hm : PySem.W.mroIn K C (.type "object") = some true) : TyOf K H (.ref a) (.ref C)
theorem isinst_ok {x : V} {u t : Value} (I : Inv X pins σ H s) (rx : RelV x u) (ty : TyOf X.K H x t) (e : PySem.W.kitOne X.K t c = some b) (h : ∀ tk, Q (.bool b) { s with toks := tk }) :
    wpAny (model X.prog X.w) A (call (.builtin "isinstance") [u, c]) Q E s := by
  cases ty with
  | non => cases (show u = Value.none from rx); exact PySem.W.kia_one PySem.W.kitx_none I.kIn True.intro e (fun z => nomatch z) h
  | bl y => cases (show u = Value.bool y from rx); exact PySem.W.kia_one PySem.W.kitx_bool I.kIn True.intro e (fun z => nomatch z) h
  | int i => obtain ⟨t, q⟩ := (show ∃ t, u = Value.int i t from rx); cases q; exact PySem.W.kia_one PySem.W.kitx_int I.kIn True.intro e (fun z => nomatch z) h
  | str y => obtain ⟨t, q⟩ := (show ∃ t, u = Value.str y t from rx); cases q; exact PySem.W.kia_one PySem.W.kitx_str I.kIn True.intro e (fun z => nomatch z) h
  | flt y => obtain ⟨t, q⟩ := (show ∃ t, u = Value.float y t from rx); cases q; exact PySem.W.kia_one PySem.W.kitx_float I.kIn True.intro e (fun z => nomatch z) h
  | @lst a xs ea =>
    cases (show u = Value.ref a from rx)
    obtain ⟨_, _, n, _, h1⟩ := (show ObjOk X.prog X.w H s.heap a (.lst xs) from I.hok a _ ea)
    exact PySem.W.kia_one PySem.W.kitx_list I.kIn ⟨_, h1, rfl⟩ e (fun z => nomatch z) h
  | @frz a ob xs ea =>
    cases (show u = Value.ref a from rx)
    obtain ⟨_, _, _, n, _, h1⟩ := (show ObjOk X.prog X.w H s.heap a (.frz ob (.lst xs)) from I.hok a _ ea)
    exact PySem.W.kia_one PySem.W.kitx_list I.kIn ⟨_, h1, rfl⟩ e (fun z => nomatch z) h
  | @tup a xs ea =>
    cases (show u = Value.ref a from rx)
    obtain ⟨_, _, _, p⟩ := (show ObjOk X.prog X.w H s.heap a (.tup xs) from I.hok a _ ea)
    obtain ⟨o, h1, h2, _⟩ := p
    exact PySem.W.kia_one PySem.W.kitx_tuple I.kIn ⟨o, h1, h2⟩ e (fun z => nomatch z) h
  | @dK a kvs ea =>
    cases (show u = Value.ref a from rx)
    obtain ⟨_, _, vs, _, p⟩ := (show ObjOk X.prog X.w H s.heap a (.dK kvs) from I.hok a _ ea)
    obtain ⟨o, es, ep, h1, h2, _⟩ := p
    exact PySem.W.kia_one PySem.W.kitx_dict I.kIn ⟨o, h1, h2.1⟩ e (fun z => nomatch z) h
  | @dT a kvs ea =>
    cases (show u = Value.ref a from rx)
    obtain ⟨_, _, xs, _, o, es, ep, h1, h2, _⟩ := (show ObjOk X.prog X.w H s.heap a (.dT kvs) from I.hok a _ ea)
    exact PySem.W.kia_one PySem.W.kitx_dict I.kIn ⟨o, h1, h2.1⟩ e (fun z => nomatch z) h
  | @ins a C dx fs ea cl ha hn htk hm =>
    cases (show u = Value.ref a from rx)
    obtain ⟨mA, O, _⟩ := ins_get I.hok ea
    obtain ⟨od, J, _⟩ := O.look
    exact PySem.W.kia_one (PySem.W.kitx_own (cl.get _) cl.hd ha hn htk hm) I.kIn J e (fun z => nomatch z) h
end
end L2
namespace L2
open PySem PySem.Spec PyProof.Rows
structure Room (k : Nat) (A : Around) : Prop where
  hd : A.handled = none
  gd : A.guards = some []
  dp : A.depth + 3 * k + 5 < recursionLimit
  un : A.units + 16 * k + 200 < cLine
theorem Room.mono {j k : Nat} {A : Around} (r : Room k A) (h : j ≤ k) : Room j A := ⟨r.hd, r.gd, by have := r.dp; omega, by have := r.un; omega⟩
theorem Room.deeper {k : Nat} {A : Around} (r : Room (k + 1) A) (env : Env) : Room k (A.deeper env) :=
  ⟨r.hd, r.gd, by have := r.dp; show A.depth + 1 + 3 * k + 5 < _; omega, by have := r.un; show A.units + 3 + 16 * k + 200 < _; omega⟩
theorem Room.depth {k : Nat} {A : Around} (r : Room k A) : A.depth < recursionLimit := by have := r.dp; omega
theorem Room.units {k : Nat} {A : Around} (r : Room k A) : A.units + 64 < cLine := by have := r.un; omega
def tNil : TA := fun _ H Q => Q [] H
def tCons (ta : TE) (tr : TA) : TA := fun σ H Q => ta σ H fun x H1 => tr σ H1 fun xs H2 => Q (x :: xs) H2
section
variable {X : Cx} {e : Expr} {es : List Expr} {te : TE} {t : TA} {pos : Pos}
theorem pa_nil : PA X [] tNil := fun _ _ _ _ H Q I h => Calls.spliced_nil ⟨[], H, I, .nil, h⟩
theorem pa_cons (ha : PE X e te) (hr : PA X es t) (hs : starEach (e :: es) X.env = (false, eval e X.env) :: starEach es X.env := by rfl) : PA X (e :: es) (tCons te t) := by
  intro pos pins s σ H Q I h
  rw [hs]
  show wpAny _ _ (spliced ((false, eval e X.env) :: backTo pos (starEach es X.env))) _ _ s
  refine Calls.spliced_cons (thn (ha pins s σ H _ I h) fun u s1 ⟨x, H1, I1, r1, q1⟩ => ?_)
  exact thn (hr pos pins s1 σ H1 _ I1 q1) fun us s2 ⟨xs, H2, I2, r2, q2⟩ => ⟨x :: xs, H2, I2, .cons r1 r2, q2⟩
def tTup (t : TA) : TE := fun σ H Q => t σ H fun xs H1 => xs.length ≤ sizeLine ∧ ∀ p, H1 p = none → Q (.ref p) (upd H1 p (.tup xs))
def tLst (t : TA) : TE := fun σ H Q => t σ H fun xs H1 => xs.length ≤ sizeLine ∧ ∀ p, H1 p = none → Q (.ref p) (upd H1 p (.lst xs))
theorem pe_tup {x1} (h : PA X es t) : PE X (.Tuple es x1 pos) (tTup t) := by
  intro pins s σ H Q I hq
  refine wpAny_Tuple_spliced (thn (h pos pins s σ H _ I hq) fun us s1 ⟨xs, H1, I1, r, z, q⟩ => ⟨by rw [← r.length]; exact z, ?_⟩)
  have hf : H1 s1.heap.objs.size = none := I1.hok.fresh (Nat.le_refl _)
  refine ⟨.ref s1.heap.objs.size, upd H1 s1.heap.objs.size (.tup xs), I1.laid (t' := s1.toks) (fun b u e => Heap.get?_push_of_some _ e) (Nat.le_refl _) ?_, rfl, q _ hf⟩
  exact ⟨z, us, r, ⟨_, Heap.get?_push_size _ rfl, rfl, _, rfl⟩⟩
theorem pe_lst (h : PA X es t) : PE X (.List es pos) (tLst t) := by
  intro pins s σ H Q I hq
  refine wpAny_List_spliced (thn (h pos pins s σ H _ I hq) fun us s1 ⟨xs, H1, I1, r, z, q⟩ => ⟨by rw [← r.length]; exact z, ?_⟩)
  have hf : H1 s1.heap.objs.size = none := I1.hok.fresh (Nat.le_refl _)
  refine ⟨.ref s1.heap.objs.size, upd H1 s1.heap.objs.size (.lst xs), I1.laid (t' := s1.toks) (fun b u e => Heap.get?_push_of_some _ e) (Nat.le_refl _) ?_, rfl, q _ hf⟩
  exact ⟨z, us, 0, r, Heap.get?_push_size _ rfl⟩
end
abbrev Sp := List V → Hp → VK → XK → Prop
abbrev CXT := List Env → Hp → Shared → XK → Value → Shared → Prop
structure Env0 (P : Program) (w : World) (K : PySem.W.Frag) (mg : Str → Option Value) (base : Heap) (A : Around) (outer : List Env) (s : Shared) (H : Hp) : Prop where
  frames : A.frames = some outer
  mod : Mod K mg base
  bs : ∀ b o, base.get? b = some o → s.heap.get? b = some o ∧ H b = none
  bsz : base.objs.size ≤ s.heap.objs.size
  funs : s.heap.FunFrames base outer
  frf : ∀ b ∈ frs outer, H b = none
  hok : HOk P w H s.heap
  bare : AllBare s.gens
def CE (outer : List Env) (P : Program) (w : World) (H : Hp) (s : Shared) (Q : VK) (u : Value) (s' : Shared) : Prop :=
  ∃ v H', s'.os = s.os ∧ AllBare s'.gens ∧ Un (frs outer) [] H H' s.heap s'.heap ∧ HOk P w H' s'.heap ∧ RelV v u ∧ Q v H'
def CR (CX : CXT) (outer : List Env) (P : Program) (w : World) (H : Hp) (s : Shared) (Q : VK) (E : XK) (r : Result) (s' : Shared) : Prop :=
  match r with
  | .ok (.ret u) => CE outer P w H s Q u s'
  | .ok _ => False
  | .error e => CX outer H s E e s'
structure FnOk (P : Program) (w : World) (K : PySem.W.Frag) (mg : Str → Option Value) (base : Heap) (CX : CXT) (k : Nat) (f : Addr) (fd : FuncData) (ps : List Str) (sp : Sp) : Prop where
  len : ∀ vs H Q E, sp vs H Q E → vs.length = ps.length
  run : ∀ (A : Around) (outer : List Env) (s : Shared) (H : Hp) (args : Args) (us : List Value) (vs : List V) (Q : VK) (E : XK), Room k A → Env0 P w K mg base A outer s H → BindsTo s fd args (ps.zip us) → Vals vs us → sp vs H Q E →
    codeAny (model P w) A (.call (.ref f) args) (CR CX outer P w H s Q E) s
section
variable {X : Cx} {pins : List (Addr × Obj)} {σ : St} {H : Hp} {s s' : Shared}
theorem Inv.env0 (I : Inv X pins σ H s) : Env0 X.prog X.w X.K X.mg X.base X.A X.stack s H :=
  ⟨I.ok.frames, I.ok.mod, I.bs, Nat.le_trans I.ok.bsz I.sz, I.stack, I.stkFree, I.hok, I.bare⟩
theorem Inv.after {Q : VK} {u : Value} (I : Inv X pins σ H s) (h : CE X.stack X.prog X.w H s Q u s') : EP X pins σ Q u s' := by
  obtain ⟨v, H', os, bare, un, hok, r, q⟩ := h
  obtain ⟨hh, g, d, t, os'⟩ := s'
  obtain rfl : os' = s.os := os
  exact ⟨v, H', I.call (h' := hh) (g' := g) (d' := d) (t' := t) (ch := []) un hok bare (fun b z => absurd z (by simp)), r, q⟩
end
def tCall (sp : Sp) (dvs : List V) (E : XK) (t : TA) : TE := fun σ H Q => t σ H fun vs H1 => sp (vs ++ dvs) H1 Q E
def Binds (K : PySem.W.Frag) (fd : FuncData) (ps : List Str) (ds : List Value) : Prop :=
  ∀ (s : Shared) (us : List Value), K.In s.heap → (us ++ ds).length = ps.length → BindsTo s fd ⟨us, []⟩ (ps.zip (us ++ ds))
theorem Binds.all {K : PySem.W.Frag} {fd : FuncData} {ps : List Str} (h : ∀ us : List Value, us.length = ps.length → bindArgs fd ⟨us, []⟩ = pure (ps.zip us)) : Binds K fd ps [] := fun s us _ hl => by
  rw [List.append_nil] at hl ⊢
  exact .of_eq (h us hl)
def Passes (CX : CXT) (X : Cx) (E : XK) : Prop := ∀ (pins : List (Addr × Obj)) (σ : St) (H : Hp) (s : Shared) (e : Value) (s' : Shared), Inv X pins σ H s → CX X.stack H s E e s' → X.xe e s'
section
variable {X : Cx} {CX : CXT} {k : Nat} {f C : Addr} {fd : FuncData} {ps : List Str} {sp : Sp} {dvs : List V} {ds : List Value} {E : XK} {x m : Str} {p pos apos : Pos} {e o : Expr} {es : List Expr} {ta : TE} {t : TA}
theorem run_fn {pins : List (Addr × Obj)} {σ : St} {H : Hp} {s : Shared} {Q : VK} {us : List Value} {vs : List V} (F : FnOk X.prog X.w X.K X.mg X.base CX k f fd ps sp) (hr : Room k X.A) (hb : Binds X.K fd ps ds) (hd : Vals dvs ds) (hx : Passes CX X E)
    (I : Inv X pins σ H s) (r : Vals vs us) (h : sp (vs ++ dvs) H Q E) : wpAny (model X.prog X.w) X.A (call (.ref f) us) (EP X pins σ Q) X.xe s := by
  have r2 : Vals (vs ++ dvs) (us ++ ds) := r.append hd
  have hl : (us ++ ds).length = ps.length := by rw [← r2.length]; exact F.len _ _ _ _ h
  refine wpAny_call (codeAny_mono (F.run X.A X.stack s H ⟨us, []⟩ (us ++ ds) (vs ++ dvs) Q E hr I.env0 (hb s us I.kIn hl) r2 h) fun r s' hq => ?_)
  cases r with
  | error e => exact hx pins σ H s e s' I hq
  | ok fl =>
    cases fl with
    | ret u => exact I.after hq
    | next => exact False.elim hq
    | brk => exact False.elim hq
    | cont => exact False.elim hq
theorem pe_call (F : FnOk X.prog X.w X.K X.mg X.base CX k f fd ps sp) (hr : Room k X.A) (hg : Gl X x) (hm : X.mg x = some (.ref f)) (hk : PySem.W.keepIn X.K (.ref f) = true) (hb : Binds X.K fd ps ds) (hd : Vals dvs ds) (hx : Passes CX X E)
    (ha : PA X (e :: es) t) (hdb : (x == ("__debug__" : Str)) = false := by decide) (he : starEach (e :: es) X.env = (false, eval e X.env) :: starEach es X.env := by rfl) (hpl : (backTo pos (starEach es X.env)).any (·.1) = false := by rfl) :
    PE X (.Call (.Name x p) (e :: es) [] pos) (tCall sp dvs E t) := by
  intro pins s σ H Q I h
  refine wpAny_Call_Name_kw (ld_glob I hg hm ?_ hdb)
  refine PySem.W.callWith_K (h₀ := X.base) I.ok.mod.kin hk (thn (ha pos pins s σ H _ I h) fun us s1 ⟨vs, H1, I1, r, q⟩ => ⟨I1.kIn, ?_⟩) he hpl
  exact run_fn F hr hb hd hx I1 r q
structure Mk (K : PySem.W.Frag) (C f : Addr) : Prop where
  makes : PySem.W.makesIn K C = true
  init : PySem.W.findIn K (.ref C) "__init__" = some (some (.ref f))
  fn : PySem.W.isFn K (.ref f) = true
  kp : PySem.W.keepIn K (.ref C) = true
end
def PK (X : Cx) (kws : List Keyword) (t : TA) : Prop :=
  ∀ (pos : Pos) (pins : List (Addr × Obj)) (s : Shared) (σ : St) (H : Hp) (Q : List V → Hp → Prop), Inv X pins σ H s → t σ H Q → wpAny (model X.prog X.w) X.A (evalAll ((backToKw pos (keywordEach kws X.env)).map (·.2))) (AP X pins σ Q) X.xe s
section
variable {X : Cx} {CX : CXT} {k : Nat} {f C : Addr} {fd : FuncData} {ps ks : List Str} {sp : Sp} {E : XK} {x m : Str} {p pos apos kpos : Pos} {e o : Expr} {es : List Expr} {kws : List Keyword} {te ta : TE} {t tk : TA} {nm : Option Str}
structure KBinds (K : PySem.W.Frag) (fd : FuncData) (ps ks : List Str) (g : List Value → List Value → List Value) (gV : List V → List V → List V) : Prop where
  to : ∀ (s : Shared) (us ws : List Value), K.In s.heap → (g us ws).length = ps.length → BindsTo s fd ⟨us, ks.zip ws⟩ (ps.zip (g us ws))
  rel : ∀ {vs : List V} {us : List Value} {zs : List V} {ws : List Value}, Vals vs us → Vals zs ws → Vals (gV vs zs) (g us ws)
variable {g : List Value → List Value → List Value} {gV : List V → List V → List V}
end
structure FnScope (N P : List Str) (sc : Scope) : Prop where
  kind : sc.kind = .function
  co : sc.isCoroutine = false
  gen : sc.isGenerator = false
  nd : N.Nodup
  pre : N.take P.length = P
  par : ∀ x ∈ P, sc.names.lookup x = some .local ∨ sc.names.lookup x = some .cell
  nofree : ∀ y ∈ sc.names, y.2 ≠ .free
theorem bindL_out {kindOf : Str → Option NameKind} {x : Str} : ∀ {binds : List (Str × Value)} {m : Str → Option Value}, (∀ v, (x, v) ∉ binds) → bindL kindOf binds m x = m x
  | [], _, _ => rfl
  | (n, v) :: r, m, h => by
    unfold bindL
    rw [bindL_out fun w hw => h w (List.mem_cons_of_mem _ hw)]
    split
    · have : x ≠ n := by rintro rfl; exact h v List.mem_cons_self
      simp [this]
    · rfl
theorem bindC_out {kindOf : Str → Option NameKind} {x : Str} : ∀ {binds : List (Str × Value)} {m : Str → Option Value}, (∀ v, (x, v) ∉ binds) → bindC kindOf binds m x = m x
  | [], _, _ => rfl
  | (n, v) :: r, m, h => by
    unfold bindC
    rw [bindC_out fun w hw => h w (List.mem_cons_of_mem _ hw)]
    split
    · rfl
    · have : x ≠ n := by rintro rfl; exact h v List.mem_cons_self
      simp [this]
theorem bindL_get {kindOf : Str → Option NameKind} {x : Str} {v : Value} : ∀ {P : List Str} {vs : List Value} {i : Nat} {m : Str → Option Value}, P.Nodup → P[i]? = some x → vs[i]? = some v → kindOf x = some .local →
    bindL kindOf (P.zip vs) m x = some v
  | [], _, _, _, _, h, _, _ => by simp at h
  | _ :: _, [], _, _, _, _, h, _ => by simp at h
  | p :: P, w :: vs, 0, m, nd, h1, h2, hk => by
    simp at h1 h2; subst h1; subst h2
    show bindL kindOf ((p, w) :: P.zip vs) m p = _
    unfold bindL
    rw [bindL_out fun v hv => (List.nodup_cons.mp nd).1 (List.of_mem_zip hv).1, if_pos hk]
    simp
  | p :: P, w :: vs, i + 1, m, nd, h1, h2, hk => by
    show bindL kindOf ((p, w) :: P.zip vs) m x = _
    unfold bindL
    exact bindL_get (i := i) (List.nodup_cons.mp nd).2 (by simpa using h1) (by simpa using h2) hk
theorem bindC_get {kindOf : Str → Option NameKind} {x : Str} {v : Value} : ∀ {P : List Str} {vs : List Value} {i : Nat} {m : Str → Option Value}, P.Nodup → P[i]? = some x → vs[i]? = some v → kindOf x ≠ some .local →
    bindC kindOf (P.zip vs) m x = some v
  | [], _, _, _, _, h, _, _ => by simp at h
  | _ :: _, [], _, _, _, _, h, _ => by simp at h
  | p :: P, w :: vs, 0, m, nd, h1, h2, hk => by
    simp at h1 h2; subst h1; subst h2
    show bindC kindOf ((p, w) :: P.zip vs) m p = _
    unfold bindC
    rw [bindC_out fun v hv => (List.nodup_cons.mp nd).1 (List.of_mem_zip hv).1, if_neg hk]
    simp
  | p :: P, w :: vs, i + 1, m, nd, h1, h2, hk => by
    show bindC kindOf ((p, w) :: P.zip vs) m x = _
    unfold bindC
    exact bindC_get (i := i) (List.nodup_cons.mp nd).2 (by simpa using h1) (by simpa using h2) hk
def start (N : List Str) (vs : List V) : St := vs.map some ++ List.replicate (N.length - vs.length) none
def cxOf (CX : CXT) (P : Program) (w : World) (K : PySem.W.Frag) (mg : Str → Option Value) (base : Heap) (N : List Str) (qual : Str) (scope : Scope) (f : Addr) (cd : Value) (A : Around) (outer : List Env) (s : Shared) (H : Hp) (E : XK) : Cx where
  prog := P
  w := w
  K := K
  mg := mg
  base := base
  A := A.deeper (envOfC qual scope s.heap.objs.size f cd)
  N := N
  s₀ := s
  H₀ := H
  env := envOfC qual scope s.heap.objs.size f cd
  outer := outer
  stack := envOfC qual scope s.heap.objs.size f cd :: outer
  ex := []
  calm := true
  fn := fun _ => true
  pn := []
  xe := fun e s' => wpAny (model P w) (A.deeper (envOfC qual scope s.heap.objs.size f cd)) (leaving (envOfC qual scope s.heap.objs.size f cd) e) (fun _ s'' => CX outer H s E e s'') (fun e' s'' => CX outer H s E e' s'') s'
theorem cell_has {sc : Scope} {n : Nat} {x : Str} (h : sc.names.lookup x = some .cell) : ∃ c, (cellsFrom n sc.names []).lookup x = some c := by
  have q := PySem.W.cellsFrom_some sc.names n [] (.inl h)
  exact Option.isSome_iff_exists.mp q
theorem inv_start {CX : CXT} {P : Program} {w : World} {K : PySem.W.Frag} {mg : Str → Option Value} {base : Heap} {N ps : List Str} {qual : Str} {scope : Scope} {f : Addr} {cd : Value} {A : Around} {outer : List Env} {s s1 : Shared} {H : Hp} {E : XK} {us : List Value} {vs : List V}
    (S : FnScope N ps scope) (hd : A.handled = none) (e0 : Env0 P w K mg base A outer s H) (hl : vs.length = ps.length) (r : Vals vs us)
    (x : InCallC s s.heap.objs.size (bindL (envOfC qual scope s.heap.objs.size f cd).kindOf (ps.zip us) fun _ => none) (cellsFrom (s.heap.objs.size + 1) scope.names []) (bindC (envOfC qual scope s.heap.objs.size f cd).kindOf (ps.zip us) fun _ => none) s1) :
    Inv (cxOf CX P w K mg base N qual scope f cd A outer s H E) [] (start N vs) H s1 := by
  have hpl : ps.length ≤ N.length := by have := congrArg List.length S.pre; rw [List.length_take] at this; omega
  obtain ⟨h1, tk, rfl, hk⟩ := x.done
  have noA : ∀ b : Addr, b ∉ (cxOf CX P w K mg base N qual scope f cd A outer s H E).ex := fun b z => absurd (show b ∈ ([] : List Addr) from z) (by simp)
  refine ⟨⟨e0.mod, S.kind, rfl, rfl, Nat.le_refl _, fun y z c h1 h2 => ?_, fun y hy => ?_, fun y c _ h => ?_, fun _ => hd, Around.frames_deeper e0.frames, .inr ⟨rfl, rfl⟩, fun b z => absurd z (noA b), e0.bs, e0.bsz, fun b _ _ => noA b, fun b z => absurd z (noA b), e0.funs, e0.frf⟩,
    rfl, e0.bare, Un.kept hk, ⟨_, x.toInCall.ns, fun i y v h1 h2 h3 => ?_⟩, fun y c h => ⟨_, x.cell y c h⟩, e0.hok.fresh (Nat.le_refl _), fun y c h => ?_, fun p hp => absurd (show p ∈ ([] : List (Addr × Obj)) from hp) (by simp), e0.hok.kept hk, ?_⟩
  · exact name_of_addr x.apart (PySem.mem_of_lookup h1) (PySem.mem_of_lookup h2)
  · have hy : scope.names.lookup y = some .cell ∨ scope.names.lookup y = some .free := hy
    rcases hy with hy | hy
    · exact cell_has hy
    · exact absurd rfl (S.nofree _ (PySem.mem_of_lookup hy))
  · exact Nat.le_of_lt (x.above y c (PySem.mem_of_lookup h))
  · have hi : i < vs.length := by
      unfold start at h2
      by_cases hi : i < vs.length
      · exact hi
      · rw [List.getElem?_append_right (by simpa using hi)] at h2
        rw [List.getElem?_replicate] at h2
        split at h2 <;> cases h2
    have ha : vs[i]? = some v := by
      unfold start at h2
      rw [List.getElem?_append_left (by simpa using hi), List.getElem?_map] at h2
      cases e : vs[i]? with
      | none => rw [e] at h2; cases h2
      | some a => rw [e] at h2; cases h2; rfl
    obtain ⟨u, hu, rv⟩ := r.get ha
    have hp : ps[i]? = some y := by
      rw [← S.pre, List.getElem?_take_of_lt (by omega)]; exact h1
    have ndP : ps.Nodup := by rw [← S.pre]; exact S.nd.sublist (List.take_sublist _ _)
    refine ⟨u, rv, ?_⟩
    rcases S.par y (List.mem_of_getElem? hp) with k | k
    · exact .inl ⟨k, bindL_get ndP hp hu k⟩
    · obtain ⟨c, e⟩ := cell_has (n := s.heap.objs.size + 1) k
      refine .inr ⟨.inl k, c, e, ?_⟩
      have q := x.cell y c e
      rw [bindC_get ndP hp hu (by show scope.names.lookup y ≠ _; rw [k]; decide)] at q
      exact q
  · exact e0.hok.fresh (Nat.le_of_lt (x.above y c (PySem.mem_of_lookup h)))
  · unfold start
    show _ = N.length
    rw [List.length_append, List.length_map, List.length_replicate]
    omega
theorem fn_of {CX : CXT} {P : Program} {w : World} {K : PySem.W.Frag} {mg : Str → Option Value} {base : Heap} {k : Nat} {f : Addr} {name qual : Str} {params : Arguments} {body : List Stmt} {scope : Scope} {dV kV doc pm cdv ct oc : Value} {an od : Option Addr}
    {osl : Array (Option Value)} {N ps : List Str} {sp : Sp} (lk : K.lookup f = some ⟨oc, od, .func (PySem.W.fnOf name qual params body scope dV kV doc pm an cdv ct), osl⟩) (hcd : PySem.W.codeIn K cdv qual = true) (S : FnScope N ps scope)
    (len : ∀ vs H Q E, sp vs H Q E → vs.length = ps.length)
    (hbody : ∀ (A : Around) (outer : List Env) (s : Shared) (H : Hp) (vs : List V) (Q : VK) (E : XK), Room k (A.deeper (envOfC qual scope s.heap.objs.size f cdv)) → sp vs H Q E →
      ∃ t, PSs (cxOf CX P w K mg base N qual scope f cdv A outer s H E) body t ∧ t { nx := fun _ H' => Q .non H', rt := Q } (start N vs) H) :
    FnOk P w K mg base CX (k + 1) f (PySem.W.fnOf name qual params body scope dV kV doc pm an cdv ct) ps sp := by
  refine ⟨len, fun A outer s H args us vs Q E hr e0 hb r hsp => ?_⟩
  have hl := len _ _ _ _ hsp
  have KX : K.In s.heap := e0.mod.kin.keeps fun b o e => (e0.bs b o e).1
  have lim : s.heap.NoLimit := e0.mod.nolimit.keeps fun b o e => (e0.bs b o e).1
  have hkind : ∀ y ∈ ps.zip us, scope.names.lookup y.1 = some .local ∨ (scope.names.lookup y.1 = some .cell ∧ ((cellsFrom (s.heap.objs.size + 1) scope.names []).lookup y.1).isSome = true) := fun ⟨n, v⟩ hy => by
    rcases S.par n (List.of_mem_zip hy).1 with q | q
    · exact .inl q
    · exact .inr ⟨q, PySem.W.cellsFrom_some _ _ _ (.inl q)⟩
  refine codeAny_call_function hr.depth (KX _ _ lk) rfl S.co S.gen rfl (PySem.W.codeRec_of KX hcd) (hb _ _ _ _ ?_)
  refine wpAny_newFunctionEnv_cells S.kind hkind fun env he s1 x => ?_
  subst he
  refine ⟨lim.keeps x.toInCall.keep, codeAny_func ?_⟩
  obtain ⟨t, ht, hq⟩ := hbody A outer s H vs Q E (hr.deeper _) hsp
  have I : Inv (cxOf CX P w K mg base N qual scope f cdv A outer s H E) [] (start N vs) H s1 := inv_start S hr.hd e0 hl r x
  refine wpAny_mono (ht [] s1 (start N vs) H _ I hq) (fun fl s' hs => ?_) fun e s' hs => hs
  have fin : ∀ {σ' : St} {H' : Hp} {v : V} {u : Value}, Inv (cxOf CX P w K mg base N qual scope f cdv A outer s H E) [] σ' H' s' → RelV v u → Q v H' → CE outer P w H s Q u s' :=
    fun {σ' H' v u} J rv q => ⟨v, H', J.os, J.bare, J.base, J.hok, rv, q⟩
  cases fl with
  | ret u =>
    obtain ⟨v, σ', H', J, rv, q⟩ := hs
    exact fin J rv q
  | next =>
    obtain ⟨σ', H', J, q⟩ := hs
    exact fin (v := V.non) (u := Value.none) J rfl q
  | brk =>
    obtain ⟨_, _, _, q⟩ := hs
    exact False.elim q
  | cont =>
    obtain ⟨_, _, _, q⟩ := hs
    exact False.elim q
end L2
namespace L2
open PySem PySem.Spec PyProof.Rows
section
variable {X : Cx} {x : Str} {p pos : Pos} {e : Expr} {es : List Expr} {t : TA} {id T : String} {r : List V → Hp → VK → Prop}
def tCB (r : List V → Hp → VK → Prop) (t : TA) : TE := fun σ H Q => t σ H fun vs H1 => r vs H1 Q
theorem pe_callB (hc : CallR X (.builtin id) r) (hg : Gl X x) (hm : X.mg x = none) (hv : bootBuiltins x = some (.builtin id)) (ha : PA X (e :: es) t) (hn : x ≠ "__name__" := by decide) (hdb : (x == ("__debug__" : Str)) = false := by decide)
    (he : starEach (e :: es) X.env = (false, eval e X.env) :: starEach es X.env := by rfl) (hpl : (backTo pos (starEach es X.env)).any (·.1) = false := by rfl) : PE X (.Call (.Name x p) (e :: es) [] pos) (tCB r t) := by
  intro pins s σ H Q I h
  refine wpAny_Call_Name_kw (ld_blt I hg hm hv ?_ hn hdb)
  exact PyProof.Rows.callWith_builtin1 (thn (ha pos pins s σ H _ I h) fun us s1 ⟨vs, H1, I1, r1, q1⟩ => hc pins s1 σ H1 vs us Q I1 r1 q1) he hpl
theorem pe_callTy (hc : CallR X (.type T) r) (hg : Gl X x) (hm : X.mg x = none) (hv : bootBuiltins x = some (.type T)) (ha : PA X (e :: es) t) (hn : x ≠ "__name__" := by decide) (hdb : (x == ("__debug__" : Str)) = false := by decide)
    (he : starEach (e :: es) X.env = (false, eval e X.env) :: starEach es X.env := by rfl) (hpl : (backTo pos (starEach es X.env)).any (·.1) = false := by rfl) : PE X (.Call (.Name x p) (e :: es) [] pos) (tCB r t) := by
  intro pins s σ H Q I h
  refine wpAny_Call_Name_kw (ld_blt I hg hm hv ?_ hn hdb)
  exact PyProof.Rows.callWith_type1 (thn (ha pos pins s σ H _ I h) fun us s1 ⟨vs, H1, I1, r1, q1⟩ => hc pins s1 σ H1 vs us Q I1 r1 q1) he hpl
end
end L2
namespace HT
open PySem PyProof.Rows
theorem rcLt_int (A : Around) (s : Shared) (a : Int) (t : Tok) (c : Int) (u : Tok) (prog : Program) (w : World) (E : Value → Shared → Prop) (Q : Value → Shared → Prop) (h : Q (.bool (decide (a < c))) s) :
    wpAny (model prog w) A (richCompare .Lt (.int a t) (.int c u)) Q E s :=
  (PyProof.Rows.lt_int h : wpAny (model prog w) A (compareOp .Lt (.int a t) (.int c u)) Q E s)
section
variable {prog : Program} {w : World} {A : Around} {E : Value → Shared → Prop} {s : Shared}
def sIx (n d : Nat) : Option Int → Nat
  | none => d
  | some v => if v < 0 then (v + (n : Int)).toNat else min v.toNat n
end
end HT
namespace L2
open PySem PySem.Spec PyProof.Rows
abbrev TO := St → Hp → (Option Int → Hp → Prop) → Prop
def PO (X : Cx) (e : Option Expr) (t : TO) : Prop :=
  ∀ (pins : List (Addr × Obj)) (s : Shared) (σ : St) (H : Hp) (Q : Option Int → Hp → Prop), Inv X pins σ H s → t σ H Q →
    wpAny (model X.prog X.w) X.A (evalPart e X.env) (fun u s' => ∃ o H', Inv X pins σ H' s' ∧ IsPart u o ∧ Q o H') X.xe s
def tNoPart : TO := fun _ H Q => Q none H
def tPart (t : TE) : TO := fun σ H Q => t σ H fun x H1 => ∃ i, x = .int i ∧ Q (some i) H1
section
variable {X : Cx} {e : Expr} {te : TE} {lo hi : Option Expr} {tl th : TO} {pos p2 : Pos}
theorem po_none : PO X none tNoPart := by
  intro pins s σ H Q I h
  rw [evalPart_none]
  exact wpAny_pure ⟨none, H, I, .none, h⟩
theorem po_some (h : PE X e te) : PO X (some e) (tPart te) := by
  intro pins s σ H Q I hw
  rw [evalPart_some]
  refine thn (h pins s σ H _ I hw) fun u s1 ⟨x, H1, I1, r1, q1⟩ => ?_
  obtain ⟨i, rfl, q⟩ := q1
  obtain ⟨t, rfl⟩ := r1
  exact ⟨some i, H1, I1, .int i t, q⟩
def SlR (X : Cx) (r : V → Option Int → Option Int → Hp → VK → Prop) : Prop :=
  ∀ (pins : List (Addr × Obj)) (s : Shared) (σ : St) (H : Hp) (x : V) (v vl vu : Value) (lo hi : Option Int) (sl : Addr) (Q : VK), Inv X pins σ H s → RelV x v → s.heap.IsSliceOf sl vl vu .none → IsPart vl lo → IsPart vu hi → r x lo hi H Q →
    ∃ T id, typeLookup (.type T) "__getitem__" = pure (some (.builtin id)) ∧ s.TypeIs v T ∧ wpAny (model X.prog X.w) X.A (getItem v (.ref sl)) (EP X pins σ Q) X.xe s
def tSl (r : V → Option Int → Option Int → Hp → VK → Prop) (te : TE) (tl th : TO) : TE := fun σ H Q => te σ H fun x H1 => tl σ H1 fun l H2 => th σ H2 fun u H3 => r x l u H3 Q
theorem pe_slice {r : V → Option Int → Option Int → Hp → VK → Prop} (hr : SlR X r) (he : PE X e te) (hl : PO X lo tl) (hu : PO X hi th) : PE X (.Subscript e (.Slice lo hi none p2) pos) (tSl r te tl th) := by
  intro pins s σ H Q I h
  refine Subscript_ (thn (he pins s σ H _ I h) fun v s1 ⟨x, H1, I1, r1, q1⟩ => ?_)
  refine wpAny_Slice (thn (hl pins s1 σ H1 _ I1 q1) fun vl s2 ⟨l, H2, I2, pl, q2⟩ => thn (hu pins s2 σ H2 _ I2 q2) fun vu s3 ⟨u, H3, I3, pu, q3⟩ => ?_)
  rw [evalPart_none]
  refine wpAny_pure ?_
  have I4 : Inv X pins σ H3 { s3 with heap := s3.heap.push { cls := .type "slice", data := .fields #[vl, vu, .none] } } := I3.kept (t' := s3.toks) fun b ob q => Heap.get?_push_of_some _ q
  obtain ⟨T, id, hT, ht, hg⟩ := hr pins { s3 with heap := s3.heap.push { cls := .type "slice", data := .fields #[vl, vu, .none] } } σ H3 x v vl vu l u s3.heap.objs.size Q I4 r1 (Heap.IsSliceOf.new ..) pl pu q3
  show wpAny (model X.prog X.w) X.A (subscriptTail e (.Slice lo hi none p2) v (.ref s3.heap.objs.size)) (EP X pins σ Q) X.xe { s3 with heap := s3.heap.push { cls := .type "slice", data := .fields #[vl, vu, .none] } }
  exact tail_any (ops := [.ref s3.heap.objs.size, v]) ht hT hg (by with_unfolding_all rfl)
def cutV (xs : List V) (lo hi : Option Int) : List V := (xs.drop (HT.sIx xs.length 0 lo)).take (HT.sIx xs.length xs.length hi - HT.sIx xs.length 0 lo)
theorem cutV_length (xs : List V) (lo hi : Option Int) : (cutV xs lo hi).length ≤ xs.length := by
  unfold cutV
  rw [List.length_take, List.length_drop]
  omega
end
end L2
namespace L2
open PySem PySem.Spec PyProof.Rows
def ixN (n : Nat) (i : Int) : Option Nat := if 0 ≤ i then (if i < n then some i.toNat else none) else if -(n : Int) ≤ i then some (i + n).toNat else none
def atI {α : Type} (xs : List α) (i : Int) : Option α := (ixN xs.length i).bind fun j => xs[j]?
theorem ixN_seq {n : Nat} {i : Int} {j : Nat} (h : ixN n i = some j) : seqIndex? i n = some j ∧ j < n ∧ -(n : Int) ≤ i ∧ i < n := by
  unfold ixN at h
  by_cases h0 : 0 ≤ i
  · rw [if_pos h0] at h
    by_cases h1 : i < n
    · rw [if_pos h1] at h
      have e : i.toNat = j := Option.some.inj h
      exact ⟨by rw [seqIndex_of h0 h1, e], by omega, by omega, h1⟩
    · rw [if_neg h1] at h; cases h
  · rw [if_neg h0] at h
    by_cases h1 : -(n : Int) ≤ i
    · rw [if_pos h1] at h
      have e : (i + n).toNat = j := Option.some.inj h
      exact ⟨by rw [seqIndex_neg (by omega) h1, e], by omega, h1, by omega⟩
    · rw [if_neg h1] at h; cases h
theorem atI_get {α : Type} {xs : List α} {i : Int} {v : α} (h : atI xs i = some v) : ∃ j, seqIndex? i xs.length = some j ∧ xs[j]? = some v ∧ j < xs.length ∧ -(xs.length : Int) ≤ i ∧ i < xs.length := by
  unfold atI at h
  cases e : ixN xs.length i with
  | none => rw [e] at h; cases h
  | some j =>
    rw [e] at h
    obtain ⟨h1, h2, h3, h4⟩ := ixN_seq e
    exact ⟨j, h1, h, h2, h3, h4⟩
theorem atI_nat {α : Type} {xs : List α} {j : Nat} {v : α} (h : xs[j]? = some v) : atI xs (j : Int) = some v := by
  have hj : j < xs.length := (List.getElem?_eq_some_iff.mp h).1
  have e : ixN xs.length (j : Int) = some j := by
    unfold ixN
    rw [if_pos (by omega), if_pos (by omega)]; simp
  unfold atI; rw [e]; exact h
def PlainIx (b : Expr) : Prop := ∀ o i, subscripted b false o i = operate [o, i] (getItem o i)
def IxR (X : Cx) (r : R2) : Prop :=
  ∀ (value slice : Expr) (pins : List (Addr × Obj)) (s : Shared) (σ : St) (H : Hp) (x y : V) (v u : Value) (Q : VK), Inv X pins σ H s → RelV x v → RelV y u → r x y H Q →
    subscripted slice false v u = operate [v, u] (getItem v u) → wpAny (model X.prog X.w) X.A (subscriptTail value slice v u) (EP X pins σ Q) X.xe s
def MtR (X : Cx) (id : String) (r : V → List V → Hp → VK → Prop) : Prop :=
  ∀ (pins : List (Addr × Obj)) (s : Shared) (σ : St) (H : Hp) (x : V) (xs : List V) (v : Value) (us : List Value) (Q : VK), Inv X pins σ H s → RelV x v → Vals xs us → r x xs H Q →
    wpAny (model X.prog X.w) X.A (call (.builtin id) (v :: us)) (EP X pins σ Q) X.xe s
section
variable {X : Cx} {a b : Expr} {ta tb : TE} {pos : Pos}
theorem pe_ix {r : R2} (hr : IxR X r) (ha : PE X a ta) (hb : PE X b tb) (hs : PlainIx b) : PE X (.Subscript a b pos) (tOp r ta tb) := by
  intro pins s σ H Q I h
  exact Subscript_ (binT ha hb I h fun v u s2 x y H2 I2 rx ry q => hr a b pins s2 σ H2 x y v u Q I2 rx ry q (hs _ _))
def rIxL (K : PySem.W.Frag) : R2 := fun x y H Q => ∃ p xs i v, x = .ref p ∧ y = .int i ∧ SqL K H p xs ∧ atI xs i = some v ∧ Q v H
def rIxT (K : PySem.W.Frag) : R2 := fun x y H Q => ∃ p xs i v, x = .ref p ∧ y = .int i ∧ SqT K H p xs ∧ atI xs i = some v ∧ Q v H
def rIxS : R2 := fun x y H Q => ∃ z i c, x = .str z ∧ y = .int i ∧ z.length ≤ sizeLine ∧ atI z.cps.toList i = some c ∧ Q (.str ⟨#[c]⟩) H
theorem ix_list : IxR X (rIxL X.K) := by
  intro value slice pins s σ H x y v u Q I rx ry h hs
  obtain ⟨p, xs, i, z, rfl, rfl, hq, he, q⟩ := h
  cases rx
  obtain ⟨t, rfl⟩ := ry
  obtain ⟨its, r, pl, hz⟩ := I.list hq
  obtain ⟨j, h1, h2, h3, h4, h5⟩ := atI_get he
  obtain ⟨w, ew, rw'⟩ := r.get h2
  have hl := r.length
  have hn := line63
  have fin : EP X pins σ Q w s := ⟨z, H, I, rw', q⟩
  by_cases h0 : 0 ≤ i
  · have hj : i.toNat = j := by
      rw [seqIndex_of h0 h5] at h1
      exact Option.some.inj h1
    exact item_listR pl.isList h0 (by omega) (by rw [hj]; simpa using ew) fin hs
  · have hj : (i + (its.toArray.size : Int)).toNat = j := by
      rw [seqIndex_neg (by omega) h4] at h1
      rw [List.size_toArray, ← hl]
      exact Option.some.inj h1
    exact subscriptTail_builtinR (x := w) pl.isList.typeIs slot_list_getitem.lookup
      (wpAny_getItem_list_neg (Q := fun r s' => r = w ∧ EP X pins σ Q r s') pl.isList (by omega) (by rw [List.size_toArray] <;> omega) (by omega) (by rw [hj]; simpa using ew) ⟨rfl, fin⟩) hs
theorem ix_tup : IxR X (rIxT X.K) := by
  intro value slice pins s σ H x y v u Q I rx ry h hs
  obtain ⟨p, xs, i, z, rfl, rfl, hq, he, q⟩ := h
  cases rx
  obtain ⟨t, rfl⟩ := ry
  obtain ⟨its, r, pl, hz⟩ := I.tuple hq
  obtain ⟨j, h1, h2, h3, h4, h5⟩ := atI_get he
  obtain ⟨w, ew, rw'⟩ := r.get h2
  have hl := r.length
  have hn := line63
  have fin : EP X pins σ Q w s := ⟨z, H, I, rw', q⟩
  exact subscriptTail_builtinR (x := w) pl.typeIs slot_tuple_getitem.lookup
    (getItem_tuple (j := j) (Q := fun r s' => r = w ∧ EP X pins σ Q r s') pl (by omega) (by omega) (by rw [List.size_toArray, ← hl]; exact h1) (by simpa using ew) ⟨rfl, fin⟩) hs
theorem ix_str : IxR X rIxS := by
  intro value slice pins s σ H x y v u Q I rx ry h hs
  obtain ⟨z, i, c, rfl, rfl, hz, he, q⟩ := h
  obtain ⟨t, rfl⟩ := rx
  obtain ⟨t', rfl⟩ := ry
  obtain ⟨j, h1, h2, h3, h4, h5⟩ := atI_get he
  have hl : z.cps.toList.length = z.length := by simp [Str.length]
  rw [hl] at h1 h4 h5
  have hn := line63
  exact tail_any (typeIs_str s z t) slot_str_getitem.lookup (getItem_str (c := c) (by
    have e1 : decide (i < -(2 ^ 63 : Int)) = false := decide_eq_false (by omega)
    have e2 : decide (i ≥ 2 ^ 63) = false := decide_eq_false (by omega)
    rw [e1, e2, Bool.or_false]) (by rw [h1]; simpa using h2) ⟨.str ⟨#[c]⟩, H, I.tok _, ⟨_, rfl⟩, q⟩) hs
theorem mapSeq_set (its : List Value) (n j : Nat) (u : Value) : Obj.mapSeq (·.setIfInBounds j u) { cls := .type "list", data := .seq its.toArray n } = { cls := .type "list", data := .seq (its.set j u).toArray n } := by
  simp [Obj.mapSeq]
theorem Inv.lst {pins : List (Addr × Obj)} {σ : St} {H : Hp} {s : Shared} {p : Addr} {xs : List V} (I : Inv X pins σ H s) (h : H p = some (.lst xs)) :
    ∃ (its : List Value) (n : Nat), Vals xs its ∧ s.heap.get? p = some { cls := .type "list", data := .seq its.toArray n } ∧ xs.length ≤ sizeLine := by
  obtain ⟨z, its, n, r, e⟩ := I.hok p _ h
  exact ⟨its, n, r, e, z⟩
theorem Inv.lstUpd {pins : List (Addr × Obj)} {σ : St} {H : Hp} {s : Shared} {p : Addr} {xs ys : List V} {its its' : List Value} {n n' : Nat} {f : Obj → Obj} (I : Inv X pins σ H s) (h : H p = some (.lst xs))
    (ho : s.heap.get? p = some { cls := .type "list", data := .seq its.toArray n }) (hf : f { cls := .type "list", data := .seq its.toArray n } = { cls := .type "list", data := .seq its'.toArray n' }) (r : Vals ys its') (hz : ys.length ≤ sizeLine) (t : Nat) :
    Inv X pins σ (upd H p (.lst ys)) { s with heap := s.heap.update p f, toks := t } := by
  have e : (s.heap.update p f).get? p = some { cls := .type "list", data := .seq its'.toArray n' } := by
    rw [Heap.get?_update_self f ho (by rw [hf] <;> rfl), hf]
  refine I.write (x := p) (e := p) (by rw [h]; trivial) (.inl rfl) (fun b u hb q => (Heap.get?_update_other _ _ (Ne.symm hb)).trans q) ⟨_, e⟩ ?_
  exact ⟨hz, its', n', r, e⟩
def rSetL : V → V → V → Hp → (Hp → Prop) → Prop := fun o i v H Q => ∃ p xs k j, o = .ref p ∧ i = .int k ∧ H p = some (.lst xs) ∧ ixN xs.length k = some j ∧ Q (upd H p (.lst (xs.set j v)))
theorem set_list : PSet X rSetL := by
  intro pins s σ H o i v ov iv u Q I ro ri rv h
  obtain ⟨p, xs, k, j, rfl, rfl, hp, hj, q⟩ := h
  cases ro
  obtain ⟨t, rfl⟩ := ri
  obtain ⟨its, n, r, ho, hz⟩ := I.lst hp
  obtain ⟨h1, h2, h3, h4⟩ := ixN_seq hj
  have hl := r.length
  have hn := line63
  have I' : Inv X pins σ (upd H p (.lst (xs.set j v))) { s with heap := s.heap.update p (Obj.mapSeq (·.setIfInBounds j u)) } :=
    I.lstUpd hp ho (mapSeq_set its n j u) (r.set rv j) (by rw [List.length_set]; exact hz) s.toks
  by_cases h0 : 0 ≤ k
  · have hk : k.toNat = j := by
      rw [seqIndex_of h0 h4] at h1
      exact Option.some.inj h1
    exact PySem.W.ki_setAt ho h0 (by omega) (by rw [List.size_toArray, ← hl]; exact h4) (by rw [hk]; exact ⟨_, I', q⟩)
  · have hk : (k + (its.toArray.size : Int)).toNat = j := by
      rw [seqIndex_neg (by omega) h3] at h1
      rw [List.size_toArray, ← hl]
      exact Option.some.inj h1
    exact PySem.W.ki_setBack ho (by omega) (by rw [List.size_toArray, ← hl]; exact h3) (by omega) (by rw [hk]; exact ⟨_, I', q⟩)
theorem slice_bounds (lo hi : Option Int) (n : Nat) : (sliceBounds lo hi none n).1 = ((HT.sIx n 0 lo : Nat) : Int) ∧ (sliceBounds lo hi none n).2.1 = ((HT.sIx n n hi : Nat) : Int) ∧ (sliceBounds lo hi none n).2.2 = 1 := by
  refine ⟨?_, ?_, rfl⟩
  · cases lo with
    | none => simp [sliceBounds, HT.sIx]
    | some i =>
      simp only [sliceBounds, HT.sIx, Option.getD_none, show (1 : Int) > 0 by decide, if_true]
      by_cases h : i < 0
      · simp only [h, if_true] <;> omega
      · simp only [h, if_false] <;> omega
  · cases hi with
    | none => simp [sliceBounds, HT.sIx]
    | some i =>
      simp only [sliceBounds, HT.sIx, Option.getD_none, show (1 : Int) > 0 by decide, if_true]
      by_cases h : i < 0
      · simp only [h, if_true] <;> omega
      · simp only [h, if_false] <;> omega
theorem slicePick_cut (its : List Value) (lo hi : Option Int) : slicePick its.toArray lo hi none = ((its.drop (HT.sIx its.length 0 lo)).take (HT.sIx its.length its.length hi - HT.sIx its.length 0 lo)).toArray := by
  obtain ⟨h1, h2, h3⟩ := slice_bounds lo hi its.toArray.size
  unfold slicePick
  rw [h1, h2, h3]
  simp only [sliceRange_one, pick_run, List.size_toArray] <;> rfl
def rSlL (K : PySem.W.Frag) : V → Option Int → Option Int → Hp → VK → Prop := fun x lo hi H Q => ∃ a xs, x = .ref a ∧ SqL K H a xs ∧ ∀ p, H p = none → Q (.ref p) (upd H p (.lst (cutV xs lo hi)))
theorem sl_list : SlR X (rSlL X.K) := by
  intro pins s σ H x v vl vu lo hi sl Q I rx hs pl pu h
  obtain ⟨a, xs, rfl, hx, q⟩ := h
  cases rx
  obtain ⟨its, r, ht, hz⟩ := I.list hx
  have hlen := r.length
  refine ⟨"list", _, slot_list_getitem.lookup, ht.isList.typeIs, ?_⟩
  refine wpAny_getItem_list_slice ht.isList hs pl pu .none (by simp) ?_ (by rw [List.size_toArray] <;> omega)
  rw [slicePick_cut, ← hlen]
  refine ⟨.ref s.heap.objs.size, _, I.laid (t' := s.toks) (o := .lst (cutV xs lo hi)) (fun b ob q => Heap.get?_push_of_some _ q) (Nat.le_refl _) ?_, rfl, q _ (I.hok.fresh (Nat.le_refl _))⟩
  exact ⟨Nat.le_trans (cutV_length xs lo hi) hz, _, 0, (r.drop (HT.sIx xs.length 0 lo)).take (HT.sIx xs.length xs.length hi - HT.sIx xs.length 0 lo), Heap.get?_push_size _ rfl⟩
def flatV : V → Bool
  | .non => true
  | .bl _ => true
  | .int _ => true
  | .str _ => true
  | _ => false
def eqV : V → V → Bool
  | .non, .non => true
  | .bl a, .bl b => a == b
  | .bl a, .int b => (if a then 1 else 0) == b
  | .int a, .bl b => a == (if b then 1 else 0)
  | .int a, .int b => a == b
  | .str a, .str b => a == b
  | _, _ => false
theorem eqAt_V {A : Around} {s : Shared} {y x : V} {u v : Value} (ry : RelV y u) (rx : RelV x v) (fy : flatV y = true) (fx : flatV x = true) : SeqAt.EqAt A s u v (eqV y x) := by
  cases y with
  | non =>
    cases ry
    cases x with
    | non => cases rx; exact SeqAt.EqAt.same _
    | bl b => cases rx; exact SeqAt.EqAt.none_bool b
    | int b => obtain ⟨t, rfl⟩ := rx; exact SeqAt.EqAt.none_int b t
    | str b => obtain ⟨t, rfl⟩ := rx; exact SeqAt.EqAt.none_str b t
    | _ => exact absurd (show false = true from fx) Bool.false_ne_true
  | bl a =>
    cases ry
    cases x with
    | non => cases rx; exact SeqAt.EqAt.bool_none a
    | bl b => cases rx; exact SeqAt.EqAt.bool_bool a b
    | int b => obtain ⟨t, rfl⟩ := rx; exact SeqAt.EqAt.bool_int a b t
    | str b => obtain ⟨t, rfl⟩ := rx; exact SeqAt.EqAt.bool_str a b t
    | _ => exact absurd (show false = true from fx) Bool.false_ne_true
  | int a =>
    obtain ⟨t', rfl⟩ := ry
    cases x with
    | non => cases rx; exact SeqAt.EqAt.int_none a t'
    | bl b => cases rx; exact SeqAt.EqAt.int_bool a t' b
    | int b => obtain ⟨t, rfl⟩ := rx; exact SeqAt.EqAt.int_int a t' b t
    | str b => obtain ⟨t, rfl⟩ := rx; exact SeqAt.EqAt.int_str a t' b t
    | _ => exact absurd (show false = true from fx) Bool.false_ne_true
  | str a =>
    obtain ⟨t', rfl⟩ := ry
    cases x with
    | non => cases rx; exact SeqAt.EqAt.str_none a t'
    | bl b => cases rx; exact SeqAt.EqAt.str_bool a t' b
    | int b => obtain ⟨t, rfl⟩ := rx; exact SeqAt.EqAt.str_int a t' b t
    | str b => obtain ⟨t, rfl⟩ := rx; exact SeqAt.EqAt.str_str a t' b t
    | _ => exact absurd (show false = true from fx) Bool.false_ne_true
  | _ => exact absurd (show false = true from fy) Bool.false_ne_true
def eqU (x : V) (u : Value) : Bool := match u with
  | .none => eqV .non x
  | .bool b => eqV (.bl b) x
  | .int i _ => eqV (.int i) x
  | .str z _ => eqV (.str z) x
  | _ => false
theorem eqU_of {x y : V} {u : Value} (r : RelV y u) (f : flatV y = true) : eqU x u = eqV y x := by
  cases y with
  | non => cases r; rfl
  | bl b => cases r; rfl
  | int i => obtain ⟨t, rfl⟩ := r; rfl
  | str z => obtain ⟨t, rfl⟩ := r; rfl
  | _ => exact absurd (show false = true from f) Bool.false_ne_true
theorem any_eqU {x : V} : ∀ {xs : List V} {us : List Value}, Vals xs us → xs.all flatV = true → us.any (eqU x) = xs.any fun y => eqV y x
  | _, _, .nil, _ => rfl
  | y :: xs, u :: us, .cons r t, f => by
    rw [List.all_cons, Bool.and_eq_true] at f
    rw [List.any_cons, List.any_cons, eqU_of r f.1, any_eqU t f.2]
theorem mem_eqAt {A : Around} {s : Shared} {x : V} {v : Value} (rx : RelV x v) (fx : flatV x = true) : ∀ {xs : List V} {us : List Value}, Vals xs us → xs.all flatV = true → ∀ u ∈ us, SeqAt.EqAt A s u v (eqU x u)
  | _, _, .nil, _ => fun u hu => by cases hu
  | y :: xs, u :: us, .cons r t, f => fun u' hu => by
    rw [List.all_cons, Bool.and_eq_true] at f
    rcases List.mem_cons.mp hu with rfl | hu
    · rw [eqU_of r f.1]; exact eqAt_V r rx f.1 fx
    · exact mem_eqAt rx fx t f.2 u' hu
def inV (x : V) (xs : List V) : Bool := xs.any fun y => eqV y x
def rIn (K : PySem.W.Frag) (neg : Bool) : R2 := fun x y H Q => ∃ p xs, y = .ref p ∧ (SqL K H p xs ∨ SqT K H p xs) ∧ flatV x = true ∧ xs.all flatV = true ∧ Q (.bl (if neg then !inV x xs else inV x xs)) H
theorem op_in_seq : OpR X (compareOp .In) (rIn X.K false) := by
  intro pins s σ H x y v u Q I rx ry h
  obtain ⟨p, xs, rfl, hq, fx, fs, q⟩ := h
  cases ry
  rcases hq with hq | hq
  · obtain ⟨its, r, pl, hz⟩ := I.list hq
    refine SeqAt.in_listAt (eqU x) pl.isList (fun w hw => mem_eqAt rx fx r fs w (by simpa using hw)) ⟨.bl _, H, I, rfl, ?_⟩
    rw [show its.toArray.any (eqU x) = its.any (eqU x) by simp, any_eqU r fs]
    exact q
  · obtain ⟨its, r, pl, hz⟩ := I.tuple hq
    refine SeqAt.in_tupleAt (eqU x) pl (fun w hw => mem_eqAt rx fx r fs w (by simpa using hw)) ⟨.bl _, H, I, rfl, ?_⟩
    rw [show its.toArray.any (eqU x) = its.any (eqU x) by simp, any_eqU r fs]
    exact q
theorem op_notIn_seq : OpR X (compareOp .NotIn) (rIn X.K true) := by
  intro pins s σ H x y v u Q I rx ry h
  obtain ⟨p, xs, rfl, hq, fx, fs, q⟩ := h
  cases ry
  rcases hq with hq | hq
  · obtain ⟨its, r, pl, hz⟩ := I.list hq
    refine SeqAt.notIn_listAt (eqU x) pl.isList (fun w hw => mem_eqAt rx fx r fs w (by simpa using hw)) ⟨.bl _, H, I, rfl, ?_⟩
    rw [show its.toArray.any (eqU x) = its.any (eqU x) by simp, any_eqU r fs]
    exact q
  · obtain ⟨its, r, pl, hz⟩ := I.tuple hq
    refine SeqAt.notIn_tupleAt (eqU x) pl (fun w hw => mem_eqAt rx fx r fs w (by simpa using hw)) ⟨.bl _, H, I, rfl, ?_⟩
    rw [show its.toArray.any (eqU x) = its.any (eqU x) by simp, any_eqU r fs]
    exact q
theorem call_len_seq : CallR X (.builtin "len") (fun xs H Q => ∃ p ys, xs = [.ref p] ∧ (SqL X.K H p ys ∨ SqT X.K H p ys) ∧ Q (.int ys.length) H) := by
  intro pins s σ H xs us Q I r h
  obtain ⟨p, ys, rfl, hq, q⟩ := h
  obtain ⟨u, rfl, rx⟩ := vals1 r
  cases rx
  have hn := line63
  rcases hq with hq | hq
  · obtain ⟨its, r', pl, hz⟩ := I.list hq
    have hlen := r'.length
    exact Calls.call_len_list pl.isList (by simp only [List.size_toArray] <;> omega) ⟨.int ys.length, H, I.tok _, ⟨s.toks + 1, by rw [List.size_toArray, hlen]⟩, q⟩
  · obtain ⟨its, r', pl, hz⟩ := I.tuple hq
    have hlen := r'.length
    exact len_tuple pl (by simp only [List.size_toArray] <;> omega) ⟨.int ys.length, H, I.tok _, ⟨s.toks + 1, by rw [List.size_toArray, hlen]⟩, q⟩
theorem call_len_str : CallR X (.builtin "len") (fun xs H Q => ∃ z, xs = [.str z] ∧ z.length ≤ sizeLine ∧ Q (.int z.length) H) := by
  intro pins s σ H xs us Q I r h
  obtain ⟨z, rfl, hz, q⟩ := h
  obtain ⟨u, rfl, t, rfl⟩ := vals1 r
  have hn := line63
  exact len_str (by omega) ⟨.int z.length, H, I.tok _, ⟨_, rfl⟩, q⟩
theorem call_list_of : CallR X (.type "list") (fun xs H Q => ∃ p ys, xs = [.ref p] ∧ (SqL X.K H p ys ∨ SqT X.K H p ys) ∧ ∀ l, H l = none → Q (.ref l) (upd H l (.lst ys))) := by
  intro pins s σ H xs us Q I r h
  obtain ⟨p, ys, rfl, hq, q⟩ := h
  obtain ⟨u, rfl, rx⟩ := vals1 r
  cases rx
  have fin : ∀ (its : List Value), Vals ys its → ys.length ≤ sizeLine → ∀ (h' : Heap) (c' : Nat), (∀ b o', s.heap.get? b = some o' → h'.get? b = some o') →
      h'.get? s.heap.objs.size = some { cls := .type "list", dict := none, data := .seq its.toArray c', slots := #[] } → EP X pins σ Q (.ref s.heap.objs.size) { s with heap := h' } := fun its r' hz h' c' kp e =>
    ⟨.ref s.heap.objs.size, _, I.laid (t' := s.toks) kp (Nat.le_refl _) (show ObjOk X.prog X.w _ h' _ (.lst ys) from ⟨hz, its, c', r', e⟩), rfl, q _ (I.hok.fresh (Nat.le_refl _))⟩
  rcases hq with hq | hq
  · obtain ⟨its, r', pl, hz⟩ := I.list hq
    have hlen := r'.length
    obtain ⟨o, ho, hc, n, hd⟩ := pl.isList
    exact call_list_seq p (.inl rfl) ho hc hd (fun h' c' kp e => fin its r' hz h' c' kp e) (by simp only [List.size_toArray] <;> omega)
  · obtain ⟨its, r', pl, hz⟩ := I.tuple hq
    have hlen := r'.length
    obtain ⟨o, ho, hc, n, hd⟩ := pl
    exact call_list_seq p (.inr rfl) ho hc hd (fun h' c' kp e => fin its r' hz h' c' kp e) (by simp only [List.size_toArray] <;> omega)
theorem call_tuple_of : CallR X (.type "tuple") (fun xs H Q => ∃ p ys, xs = [.ref p] ∧ ((SqL X.K H p ys ∧ ∀ l, H l = none → Q (.ref l) (upd H l (.tup ys))) ∨ (SqT X.K H p ys ∧ Q (.ref p) H))) := by
  intro pins s σ H xs us Q I r h
  obtain ⟨p, ys, rfl, h⟩ := h
  obtain ⟨u, rfl, rx⟩ := vals1 r
  cases rx
  rcases h with ⟨hq, q⟩ | ⟨hq, q⟩
  · obtain ⟨its, r', pl, hz⟩ := I.list hq
    have hlen := r'.length
    refine call_tuple_list pl.isList (fun h' kp => ?_) (by simp only [List.size_toArray] <;> omega)
    have I1 : Inv X pins σ H { s with heap := h' } := I.kept (t' := s.toks) kp
    have I2 : Inv X pins σ (upd H h'.objs.size (.tup ys)) { s with heap := h'.push { cls := .type "tuple", data := .seq its.toArray } } :=
      I1.laid (t' := s.toks) (fun b o e => Heap.get?_push_of_some _ e) (Nat.le_refl _) (show ObjOk X.prog X.w _ _ _ (.tup ys) from ⟨hz, its, r', IsTup.new _ _⟩)
    exact ⟨.ref h'.objs.size, _, I2, rfl, q _ (I1.hok.fresh (Nat.le_refl _))⟩
  · obtain ⟨its, r', pl, hz⟩ := I.tuple hq
    exact call_tuple_same pl ⟨.ref p, H, I, rfl, q⟩
def tyV (K : PySem.W.Frag) (T : String) (x : V) (H : Hp) : Prop := match x with
  | .str _ => T = "str"
  | .int _ => T = "int"
  | .ref p => (T = "list" ∧ ∃ xs, SqL K H p xs) ∨ (T = "tuple" ∧ ((∃ o, K.lookup p = some o ∧ o.cls = .type "tuple" ∧ o.dict = none) ∨ ∃ o xs, H p = some (.frz o (.tup xs)) ∧ o.cls = .type "tuple" ∧ o.dict = none)) ∨
      (T = "dict" ∧ ((∃ kvs, H p = some (.dK kvs)) ∨ ∃ kvs, H p = some (.dT kvs))) ∨ (T = "set" ∧ ∃ S n, H p = some (.set S n))
  | _ => False
theorem tyV_is {pins : List (Addr × Obj)} {σ : St} {H : Hp} {s : Shared} {T : String} {x : V} {v : Value} (I : Inv X pins σ H s) (r : RelV x v) (ty : tyV X.K T x H) :
    s.TypeIs v T ∧ ∀ a, v = .ref a → ∃ ob, s.heap.get? a = some ob ∧ ob.dict = none := by
  cases x with
  | str z =>
    obtain ⟨t, rfl⟩ := r
    cases (show T = "str" from ty)
    exact ⟨typeIs_str s z t, fun _ e => nomatch e⟩
  | int i =>
    obtain ⟨t, rfl⟩ := r
    cases (show T = "int" from ty)
    exact ⟨typeIs_int s i t, fun _ e => nomatch e⟩
  | ref p =>
    cases r
    rcases ty with ⟨rfl, xs, hq⟩ | ⟨rfl, ⟨o, hk, hc, hd⟩ | ⟨o, xs, hk, hc, hd⟩⟩ | ⟨rfl, hk⟩ | ⟨rfl, S, n, hk⟩
    · obtain ⟨its, _, pl, _⟩ := I.list hq
      refine ⟨pl.isList.typeIs, fun a e => ?_⟩
      cases e
      obtain ⟨o, n, e, c, hd, _⟩ := pl
      exact ⟨o, e, hd⟩
    · refine ⟨⟨o, I.kIn p o hk, hc⟩, fun a e => ?_⟩
      cases e
      exact ⟨o, I.kIn _ o hk, hd⟩
    · obtain ⟨e, _⟩ := (show ObjOk X.prog X.w H s.heap p (.frz o (.tup xs)) from I.hok p _ hk)
      exact ⟨⟨o, e, hc⟩, fun a z => by cases z; exact ⟨o, e, hd⟩⟩
    · have z : ∃ o, s.heap.get? p = some o ∧ o.ExactDict := by
        rcases hk with ⟨kvs, hk⟩ | ⟨kvs, hk⟩
        · obtain ⟨_, _, _, _, o, _, _, e, ex, _⟩ := I.hok p _ hk
          exact ⟨o, e, ex⟩
        · obtain ⟨_, _, _, _, o, _, _, e, ex, _⟩ := I.hok p _ hk
          exact ⟨o, e, ex⟩
      obtain ⟨o, e, ex⟩ := z
      refine ⟨⟨o, e, ex.1⟩, fun a e2 => ?_⟩
      cases e2
      exact ⟨o, e, ex.2.1⟩
    · obtain ⟨o, _, _, _, e, ex, _⟩ := I.hok p _ hk
      refine ⟨⟨o, e, ex.1⟩, fun a e2 => ?_⟩
      cases e2
      exact ⟨o, e, ex.2.1⟩
  | _ => exact False.elim ty
def tBM0 (K : PySem.W.Frag) (T : String) (r : V → List V → Hp → VK → Prop) (to : TE) : TE := fun σ H Q => to σ H fun x H1 => tyV K T x H1 ∧ r x [] H1 Q
def tBM (K : PySem.W.Frag) (T : String) (r : V → List V → Hp → VK → Prop) (to : TE) (t : TA) : TE := fun σ H Q => to σ H fun x H1 => tyV K T x H1 ∧ t σ H1 fun xs H2 => r x xs H2 Q
variable {o e : Expr} {es : List Expr} {to : TE} {t : TA} {name : Str} {apos cpos : Pos} {T id : String} {r : V → List V → Hp → VK → Prop}
theorem pe_bm0 (pa : PlainAttrs T) (slot : Slot T name id) (hty : typeOf (.builtin id) = pure (.type "method_descriptor")) (hm : MtR X id r) (ho : PE X o to)
    (hbase : attributeBase o name X.env (eval o X.env) = eval o X.env := by rfl) (hline : (apos.endLine == cpos.line) = true := by rfl) : PE X (.Call (.Attribute o name apos) [] [] cpos) (tBM0 X.K T r to) := by
  intro pins s σ H Q I h
  refine wpAny_Call_method0_late hbase hline (thn (ho pins s σ H _ I h) fun v s1 ⟨x, H1, I1, r1, ty, q1⟩ => ?_)
  obtain ⟨h1, h2⟩ := tyV_is I1 r1 ty
  exact ⟨T, id, pa, slot, hty, h1, h2, Calls.callWith_builtin rfl (PySem.evalArgs_none (hm pins s1 σ H1 x [] v [] Q I1 r1 .nil q1))⟩
theorem pe_bm (pa : PlainAttrs T) (slot : Slot T name id) (hty : typeOf (.builtin id) = pure (.type "method_descriptor")) (hm : MtR X id r) (ho : PE X o to) (ha : PA X (e :: es) t)
    (hbase : attributeBase o name X.env (eval o X.env) = eval o X.env := by rfl)
    (hfew : ((backTo cpos (starEach (e :: es) X.env)).all (fun x => !x.1) && (backToKw cpos (keywordEach [] X.env)).all (fun x => x.1.isSome)
      && decide ((e :: es).length + ([] : List Keyword).length + (if ([] : List Keyword).isEmpty then 0 else 1) < 30)) = true := by rfl)
    (hline : (apos.endLine == cpos.line) = true := by rfl) (hs : starEach (e :: es) X.env = (false, eval e X.env) :: starEach es X.env := by rfl) (hplain : (backTo cpos (starEach es X.env)).any (·.1) = false := by rfl) :
    PE X (.Call (.Attribute o name apos) (e :: es) [] cpos) (tBM X.K T r to t) := by
  intro pins s σ H Q I h
  refine wpAny_Call_method_late hbase hfew hline rfl (thn (ho pins s σ H _ I h) fun v s1 ⟨x, H1, I1, r1, ty, q1⟩ => ?_)
  obtain ⟨h1, h2⟩ := tyV_is I1 r1 ty
  refine ⟨T, id, pa, slot, hty, h1, h2, ?_⟩
  have hA := ha cpos pins s1 σ H1 _ I1 q1
  rw [hs] at hA ⊢
  refine Calls.callWith_builtin (by show (false || (backTo cpos (starEach es X.env)).any (·.1)) = false; rw [hplain] <;> rfl) (Calls.evalArgs_plain ?_)
  exact thn hA fun us s2 ⟨vs, H2, I2, r2, q2⟩ => hm pins s2 σ H2 x vs v us Q I2 r1 r2 q2
/- xs.append(e), list.index on a module's tuple .. are MtR facts of 06m -/
end
end L2
namespace L2
open PySem PySem.Spec PyProof.Rows
def MtM (X : Cx) (id : String) (r : V → List V → Hp → VK → Prop) : Prop :=
  ∀ (pins : List (Addr × Obj)) (s : Shared) (σ : St) (H : Hp) (x : V) (xs : List V) (v : Value) (us : List Value) (Q : VK), Inv X pins σ H s → RelV x v → Vals xs us → r x xs H Q →
    wpAny (model X.prog X.w) X.A (call (.builtin id) (v :: us)) (EP X pins σ Q) X.xe s
theorem Vals.one : ∀ {x : V} {us : List Value}, Vals [x] us → ∃ u, us = [u] ∧ RelV x u
  | _, _, .cons r .nil => ⟨_, rfl, r⟩
theorem Vals.dropLast {xs : List V} {us : List Value} (h : Vals xs us) : Vals xs.dropLast us.dropLast := by
  induction h with
  | nil => exact .nil
  | cons r t ih =>
    cases t with
    | nil => exact .nil
    | cons q t' => exact .cons r ih
theorem Vals.eraseIdx : ∀ {xs : List V} {us : List Value} (i : Nat), Vals xs us → Vals (xs.eraseIdx i) (us.eraseIdx i)
  | _, _, _, .nil => .nil
  | _, _, 0, .cons _ t => t
  | _, _, i + 1, .cons r t => .cons r (Vals.eraseIdx i t)
theorem erase_last {α : Type} (l : List α) : l.eraseIdx (l.length - 1) = l.dropLast := by
  induction l with
  | nil => rfl
  | cons a r ih =>
    cases r with
    | nil => rfl
    | cons b r =>
      have e : (a :: b :: r).length - 1 = ((b :: r).length - 1) + 1 := by
        have h1 : (a :: b :: r).length = r.length + 2 := rfl
        have h2 : (b :: r).length = r.length + 1 := rfl
        omega
      rw [e, List.eraseIdx_cons_succ, ih]
      all_goals rfl
theorem len_erase {α : Type} : ∀ (l : List α) (i : Nat), (l.eraseIdx i).length ≤ l.length
  | [], _ => Nat.le_refl _
  | _ :: _, 0 => Nat.le_succ _
  | _ :: r, i + 1 => Nat.succ_le_succ (len_erase r i)
section
variable {X : Cx} {pins : List (Addr × Obj)} {σ : St} {H : Hp} {s : Shared} {l b : Addr} {xs ys zs : List V}
theorem Inv.lset {its its' : List Value} {n : Nat} {f : Array Value → Array Value} {t' : Nat} (I : Inv X pins σ H s) (hH : H l = some (.lst xs))
    (e : s.heap.get? l = some { cls := .type "list", data := .seq its.toArray n }) (hf : f its.toArray = its'.toArray) (hv : Vals ys its') (hz : ys.length ≤ sizeLine) :
    Inv X pins σ (upd H l (.lst ys)) { s with heap := s.heap.update l (Obj.mapSeq f), toks := t' } := by
  have q := PySem.IsL.update e f
  rw [hf] at q
  refine I.write (x := l) (e := l) (by rw [hH]; exact trivial) (.inl rfl) (fun b' u hb hu => (Heap.get?_update_other s.heap (Obj.mapSeq f) (Ne.symm hb)).trans hu) ⟨_, q⟩ ?_
  exact ⟨hz, its', _, hv, q⟩
theorem Inv.lnew {its : List Value} {t' : Nat} (I : Inv X pins σ H s) (hv : Vals ys its) (hz : ys.length ≤ sizeLine) :
    Inv X pins σ (upd H s.heap.objs.size (.lst ys)) { s with heap := s.heap.push { cls := .type "list", data := .seq its.toArray }, toks := t' } :=
  I.laid (fun _ _ q => Heap.get?_push_of_some _ q) (Nat.le_refl _) ⟨hz, its, 0, hv, Heap.get?_push_size _ rfl⟩
theorem Inv.fresh (I : Inv X pins σ H s) : H s.heap.objs.size = none := I.hok.fresh (Nat.le_refl _)
theorem Inv.lstM (I : Inv X pins σ H s) (hH : H l = some (.lst xs)) : xs.length ≤ sizeLine ∧ ∃ (its : List Value) (n : Nat), Vals xs its ∧ xs.length = its.length ∧ s.heap.get? l = some { cls := .type "list", data := .seq its.toArray n } := by
  obtain ⟨z, its, n, r, e⟩ := I.hok l _ hH
  exact ⟨z, its, n, r, r.length, e⟩
theorem notLongL {n : Nat} (h : n ≤ sizeLine) : Builtin.List.listTooLong n = false := by
  unfold Builtin.List.listTooLong
  exact decide_eq_false (by omega)
end
section
variable {X : Cx}
def rAppend : V → List V → Hp → VK → Prop := fun x vs H Q => ∃ l xs y, x = .ref l ∧ vs = [y] ∧ H l = some (.lst xs) ∧ xs.length < sizeLine ∧ Q .non (upd H l (.lst (xs ++ [y])))
theorem mt_append : MtM X "list.append" rAppend := by
  intro pins s σ H x vs v us Q I rx rv h
  obtain ⟨l, xs, y, rfl, rfl, hH, hz, q⟩ := h
  cases rx
  obtain ⟨u, rfl, ru⟩ := rv.one
  obtain ⟨z, its, n, r, hl, e⟩ := I.lstM hH
  refine call_meets F.slot_list_append ⟨_, e, rfl⟩ F.entry_list_append (F.args_list_append_2 _ _) (PySem.list_append l its.toArray n u (by rw [List.size_toArray]; omega)) ⟨e, ?_⟩
  refine ⟨.non, _, I.lset (its' := its ++ [u]) hH e (by simp) (r.append (.cons ru .nil)) ?_, rfl, q⟩
  rw [List.length_append, List.length_singleton]
  omega
def rExtend : V → List V → Hp → VK → Prop := fun x vs H Q => ∃ l b xs zs, x = .ref l ∧ vs = [.ref b] ∧ H l = some (.lst xs) ∧ H b = some (.lst zs) ∧ xs.length + zs.length ≤ sizeLine ∧ Q .non (upd H l (.lst (xs ++ zs)))
theorem mt_extend : MtM X "list.extend" rExtend := by
  intro pins s σ H x vs v us Q I rx rv h
  obtain ⟨l, b, xs, zs, rfl, rfl, hH, hB, hz, q⟩ := h
  cases rx
  obtain ⟨u, rfl, ru⟩ := rv.one
  cases ru
  obtain ⟨z, its, n, r, hl, e⟩ := I.lstM hH
  obtain ⟨z2, its2, n2, r2, hl2, e2⟩ := I.lstM hB
  have hsz : its.toArray.size + its2.toArray.size ≤ sizeLine := by rw [List.size_toArray, List.size_toArray]; omega
  have hlong : ¬ (!its.toArray.isEmpty && Builtin.List.listTooLong (its.toArray.size + its2.toArray.size)) = true := by
    rw [notLongL hsz, Bool.and_false]
    exact Bool.false_ne_true
  refine call_meets F.slot_list_extend ⟨_, e, rfl⟩ F.entry_list_extend (F.args_list_extend_2 _ _)
    (AutoSeq1.list_extend_list_list_0 l its.toArray n b its2.toArray n2 hlong (by rw [List.size_toArray]; omega) (by omega)) ⟨e, e2, ?_⟩
  refine ⟨.non, _, I.lset (its' := its ++ its2) hH e (by simp) (r.append r2) ?_, rfl, q⟩
  rw [List.length_append]
  omega
def rPopAt : V → List V → Hp → VK → Prop := fun x vs H Q => ∃ l xs i k y, x = .ref l ∧ vs = [.int i] ∧ H l = some (.lst xs) ∧ -(2 ^ 63) ≤ i ∧ i < 2 ^ 63 ∧ seqIndex? i xs.length = some k ∧ xs[k]? = some y ∧ Q y (upd H l (.lst (xs.eraseIdx k)))
theorem mt_popAt : MtM X "list.pop" rPopAt := by
  intro pins s σ H x vs v us Q I rx rv h
  obtain ⟨l, xs, i, k, y, rfl, rfl, hH, h1, h2, hk, hy, q⟩ := h
  cases rx
  obtain ⟨u, rfl, ru⟩ := rv.one
  obtain ⟨t, rfl⟩ := ru
  obtain ⟨z, its, n, r, hl, e⟩ := I.lstM hH
  obtain ⟨w, hw, rw'⟩ := r.get hy
  refine call_meets F.slot_list_pop ⟨_, e, rfl⟩ F.entry_list_pop (F.args_list_pop_2 _ _)
    (MeetsSeq.list_pop_at l its.toArray n i t k w (fitsIndex_both h1 h2) (by rw [List.size_toArray, ← hl]; exact hk) (by rw [← Array.getElem?_toList]; exact hw) (by rw [List.size_toArray]; omega)) ⟨e, ?_⟩
  refine ⟨y, _, I.lset (its' := its.eraseIdx k) hH e ?_ (r.eraseIdx k) ?_, rw', q⟩
  · show its.toArray.eraseIdxIfInBounds k = (its.eraseIdx k).toArray
    rw [List.eraseIdxIfInBounds_toArray]
  · have := len_erase xs k
    omega
def rCat : R2 := fun x y H Q => ∃ l b xs zs, x = .ref l ∧ y = .ref b ∧ H l = some (.lst xs) ∧ H b = some (.lst zs) ∧ xs.length + zs.length ≤ sizeLine ∧ ∀ p, H p = none → Q (.ref p) (upd H p (.lst (xs ++ zs)))
theorem op_cat : OpR X (binaryOp .Add) rCat := by
  intro pins s σ H x y v u Q I rx ry h
  obtain ⟨l, b, xs, zs, rfl, rfl, hH, hB, hz, q⟩ := h
  cases rx
  cases ry
  obtain ⟨z, its, n, r, hl, e⟩ := I.lstM hH
  obtain ⟨z2, its2, n2, r2, hl2, e2⟩ := I.lstM hB
  refine PySem.P.add_list e e2 ?_ (by rw [List.size_toArray, List.size_toArray]; omega)
  have ea : its.toArray ++ its2.toArray = (its ++ its2).toArray := by simp
  rw [ea]
  exact ⟨.ref _, _, I.lnew (t' := s.toks) (r.append r2) (by rw [List.length_append]; omega), rfl, q _ I.fresh⟩
end
end L2
namespace L2
open PySem PySem.Spec PyProof.Rows
section
variable {κ : Type} [DecidableEq κ]
def valV (kvs : List (κ × V)) (k : κ) : Option V := (kvs.find? fun kv => decide (kv.1 = k)).map (·.2)
def putK (kvs : List (κ × V)) (k : κ) (v : V) : List (κ × V) :=
  if (kvs.any fun kv => decide (kv.1 = k)) = true then kvs.map (fun kv => if kv.1 = k then (kv.1, v) else kv) else kvs ++ [(k, v)]
theorem valV_pos {p : κ × V} {r : List (κ × V)} {k : κ} (e : p.1 = k) : valV (p :: r) k = some p.2 := by simp [valV, List.find?_cons, e]
theorem valV_neg {p : κ × V} {r : List (κ × V)} {k : κ} (e : ¬ p.1 = k) : valV (p :: r) k = valV r k := by simp [valV, List.find?_cons, e]
theorem valV_any (k : κ) : ∀ kvs : List (κ × V), (kvs.any fun kv => decide (kv.1 = k)) = (valV kvs k).isSome
  | [] => rfl
  | p :: r => by
    rw [List.any_cons]
    by_cases e : p.1 = k
    · simp only [valV_pos e, decide_eq_true e, Bool.true_or, Option.isSome_some]
    · rw [valV_neg e, decide_eq_false e, Bool.false_or]; exact valV_any k r
theorem valV_map (k j : κ) (y : V) : ∀ kvs : List (κ × V), valV (kvs.map fun kv => if kv.1 = k then (kv.1, y) else kv) j = (valV kvs j).map fun x => if j = k then y else x
  | [] => rfl
  | p :: r => by
    have ih := valV_map k j y r
    rw [List.map_cons]
    by_cases h : p.1 = k
    · rw [if_pos h]
      by_cases e : p.1 = j
      · rw [valV_pos (p := (p.1, y)) e, valV_pos e, Option.map_some, if_pos (e.symm.trans h)]
      · rw [valV_neg (p := (p.1, y)) e, valV_neg e, ih]
    · rw [if_neg h]
      by_cases e : p.1 = j
      · rw [valV_pos (p := p) e, valV_pos e, Option.map_some, if_neg (fun z => h (e.trans z))]
      · rw [valV_neg (p := p) e, valV_neg e, ih]
theorem valV_snoc (k j : κ) (y : V) : ∀ kvs : List (κ × V), valV kvs k = none → valV (kvs ++ [(k, y)]) j = if j = k then some y else valV kvs j
  | [], _ => by
    by_cases e : k = j
    · rw [if_pos e.symm]; exact valV_pos (p := (k, y)) e
    · rw [if_neg (fun z => e z.symm)]; exact valV_neg (p := (k, y)) e
  | p :: r, hn => by
    rw [List.cons_append]
    have hk : ¬ p.1 = k := fun z => by rw [valV_pos z] at hn; cases hn
    rw [valV_neg hk] at hn
    have ih := valV_snoc k j y r hn
    by_cases e : p.1 = j
    · rw [valV_pos e, valV_pos e, if_neg (fun z => hk (e.trans z))]
    · rw [valV_neg e, valV_neg e, ih]
theorem valV_put (kvs : List (κ × V)) (k j : κ) (y : V) : valV (putK kvs k y) j = if j = k then some y else valV kvs j := by
  unfold putK
  by_cases a : (kvs.any fun kv => decide (kv.1 = k)) = true
  · rw [if_pos a, valV_map]
    rw [valV_any] at a
    by_cases e : j = k
    · obtain ⟨x, hx⟩ := Option.isSome_iff_exists.mp a
      rw [if_pos e, e, hx, Option.map_some, if_pos rfl]
    · rw [if_neg e]
      cases valV kvs j with
      | none => rfl
      | some x => rw [Option.map_some, if_neg e]
  · rw [if_neg a]
    refine valV_snoc k j y kvs ?_
    rw [valV_any] at a
    cases q : valV kvs k with
    | none => rfl
    | some x => rw [q] at a; exact (a rfl).elim
theorem length_putK (kvs : List (κ × V)) (k : κ) (v : V) : (putK kvs k v).length ≤ kvs.length + 1 := by
  unfold putK
  split
  · rw [List.length_map]; omega
  · rw [List.length_append, List.length_cons, List.length_nil]; omega
theorem RelO.isSome_eq {o : Option V} {u : Option Value} (r : RelO o u) : o.isSome = u.isSome := by
  cases o with
  | none => cases u with
    | none => rfl
    | some _ => exact (show False from r).elim
  | some _ => cases u with
    | none => exact (show False from r).elim
    | some _ => rfl
theorem KV.val {kvs : List (κ × V)} {vs : List (κ × Value)} (r : KV kvs vs) (k : κ) : RelO (valV kvs k) (valueAt vs k) := by
  unfold KV at r
  induction r with
  | nil => exact True.intro
  | @cons p q ps qs h t ih =>
    obtain ⟨h1, h2⟩ := h
    by_cases e : p.1 = k
    · have e' : q.1 = k := h1.symm.trans e
      have b : valueAt (q :: qs) k = some q.2 := by simp [valueAt, List.find?_cons, e']
      rw [valV_pos e, b]; exact h2
    · have e' : ¬ q.1 = k := fun z => e (h1.trans z)
      have b : valueAt (q :: qs) k = valueAt qs k := by simp [valueAt, List.find?_cons, e']
      rw [valV_neg e, b]; exact ih
theorem KV.any {kvs : List (κ × V)} {vs : List (κ × Value)} (r : KV kvs vs) (k : κ) : (kvs.any fun kv => decide (kv.1 = k)) = vs.any fun kv => decide (kv.1 = k) := by
  unfold KV at r
  induction r with
  | nil => rfl
  | cons h t ih => rw [List.any_cons, List.any_cons, ih, h.1]
theorem KV.repl {kvs : List (κ × V)} {vs : List (κ × Value)} (r : KV kvs vs) (k : κ) {y : V} {u : Value} (ry : RelV y u) :
    KV (kvs.map fun kv => if kv.1 = k then (kv.1, y) else kv) (vs.map fun kv => if kv.1 = k then (kv.1, u) else kv) := by
  unfold KV at r ⊢
  induction r with
  | nil => exact .nil
  | @cons p q ps qs h t ih =>
    rw [List.map_cons, List.map_cons]
    refine .cons ?_ ih
    obtain ⟨h1, h2⟩ := h
    by_cases e : p.1 = k
    · rw [if_pos e, if_pos (h1.symm.trans e)]; exact ⟨h1, ry⟩
    · rw [if_neg e, if_neg (fun z => e (h1.trans z))]; exact ⟨h1, h2⟩
theorem KV.put {kvs : List (κ × V)} {vs : List (κ × Value)} (r : KV kvs vs) (k : κ) {y : V} {u : Value} (ry : RelV y u) : KV (putK kvs k y) (stored vs k u) := by
  unfold putK stored
  rw [r.any k]
  by_cases e : (vs.any fun kv => decide (kv.1 = k)) = true
  · rw [if_pos e, if_pos e]; exact r.repl k ry
  · rw [if_neg e, if_neg e]; exact Paired.snoc r ⟨rfl, ry⟩
theorem KV.length {kvs : List (κ × V)} {vs : List (κ × Value)} (r : KV kvs vs) : kvs.length = vs.length := Paired.length r
end
theorem kV_is {P : Program} {w : World} {k : Key} {u : Value} (r : RelV (kV k) u) : (mixKind P w).is k u = true := by
  cases k with
  | inl i => obtain ⟨t, e⟩ := (show ∃ t, u = Value.int i t from r); subst e; exact mixKind_int P w i t
  | inr x => obtain ⟨t, e⟩ := (show ∃ t, u = Value.str x t from r); subst e; exact mixKind_str P w x t
theorem items_are {P : Program} {w : World} : ∀ {ks : List Key} {us : List Value}, Vals (ks.map kV) us → ItemsAre (mixKind P w) ks us
  | [], _, r => by rw [List.map_nil] at r; cases r; exact .nil
  | k :: ks, _, r => by
    rw [List.map_cons] at r
    cases r with
    | cons h t => exact .cons (kV_is h) (items_are t)
abbrev KT (H : Hp) : List (List Key × V) → List (List Key × Addr × Value) → Prop := Paired fun p q => p.1 = q.1 ∧ H q.2.1 = some (.tup (p.1.map kV)) ∧ RelV p.2 q.2.2
theorem KT.val {H : Hp} {kvs : List (List Key × V)} {xs : List (List Key × Addr × Value)} (r : KT H kvs xs) (k : List Key) : RelO (valV kvs k) ((atKey xs k).map (·.2)) := by
  induction r with
  | nil => exact True.intro
  | @cons p q ps qs h t ih =>
    obtain ⟨h1, _, h2⟩ := h
    by_cases e : p.1 = k
    · have e' : q.1 = k := h1.symm.trans e
      have b : atKey (q :: qs) k = some q.2 := by simp [atKey, List.find?_cons, e']
      rw [valV_pos e, b]; exact h2
    · have e' : ¬ q.1 = k := fun z => e (h1.trans z)
      have b : atKey (q :: qs) k = atKey qs k := by simp [atKey, List.find?_cons, e']
      rw [valV_neg e, b]; exact ih
theorem KT.repl {H : Hp} {kvs : List (List Key × V)} {xs : List (List Key × Addr × Value)} (r : KT H kvs xs) (k : List Key) {y : V} {u : Value} (ry : RelV y u) :
    KT H (kvs.map fun kv => if kv.1 = k then (kv.1, y) else kv) (xs.map (putAt k u)) := by
  induction r with
  | nil => exact .nil
  | @cons p q ps qs h t ih =>
    rw [List.map_cons, List.map_cons]
    refine .cons ?_ ih
    obtain ⟨h1, h2, h3⟩ := h
    unfold putAt
    by_cases e : p.1 = k
    · rw [if_pos e, if_pos (h1.symm.trans e)]; exact ⟨h1, h2, ry⟩
    · rw [if_neg e, if_neg (fun z => e (h1.trans z))]; exact ⟨h1, h2, h3⟩
theorem KT.put {H : Hp} {kvs : List (List Key × V)} {xs : List (List Key × Addr × Value)} (r : KT H kvs xs) (k : List Key) {b : Addr} {y : V} {u : Value} (hb : H b = some (.tup (k.map kV))) (ry : RelV y u) :
    KT H (putK kvs k y) (storedH xs k b u) := by
  have e : (kvs.any fun kv => decide (kv.1 = k)) = (atKey xs k).isSome := by
    rw [valV_any, (r.val k).isSome_eq, Option.isSome_map]
  unfold putK storedH
  rw [e]
  by_cases q : (atKey xs k).isSome = true
  · rw [if_pos q, if_pos q]; exact r.repl k ry
  · rw [if_neg q, if_neg q]; exact Paired.snoc r ⟨rfl, hb, ry⟩
theorem KT.keeps {H H' : Hp} {kvs : List (List Key × V)} {xs : List (List Key × Addr × Value)} (r : KT H kvs xs) (ht : ∀ b ys, H b = some (.tup ys) → H' b = some (.tup ys)) : KT H' kvs xs :=
  Paired.mapP r fun _ _ z => ⟨z.1, ht _ _ z.2.1, z.2.2⟩
section
variable {P : Program} {w : World} {H : Hp} {h : Heap} {a : Addr}
theorem rd_of {u : HO} (ok : HOk P w H h) (e : Rd H a u) : ObjOk P w H h a u := e.ok ok
theorem dk_rd {kvs : List (Key × V)} (ok : HOk P w H h) (e : Rd H a (.dK kvs)) : kvs.length ≤ sizeLine ∧ (a == sysModules) = false ∧ ∃ vs, KV kvs vs ∧ h.DictOf (mixKind P w) a vs :=
  show ObjOk P w H h a (.dK kvs) from rd_of ok e
theorem dk_of {kvs : List (Key × V)} (ok : HOk P w H h) (e : H a = some (.dK kvs)) : kvs.length ≤ sizeLine ∧ (a == sysModules) = false ∧ ∃ vs, KV kvs vs ∧ h.DictOf (mixKind P w) a vs := dk_rd ok (.inl e)
theorem key_of {ks : List Key} (ok : HOk P w H h) (e : H a = some (.tup (ks.map kV))) : (tupleKind (mixKind P w)).is h ks a := by
  obtain ⟨_, its, r, o, h1, h2, n, h3⟩ := (show ObjOk P w H h a (.tup (ks.map kV)) from ok a _ e)
  exact ⟨o, its.toArray, n, h1, h2, h3, by simpa using items_are r⟩
theorem dt_rd {kvs : List (List Key × V)} (ok : HOk P w H h) (e : Rd H a (.dT kvs)) : kvs.length ≤ sizeLine ∧ (a == sysModules) = false ∧
    ∃ xs, KT H kvs xs ∧ h.DictOfH (tupleKind (mixKind P w)) a xs := by
  obtain ⟨z, y, xs, r, o, es, ep, h1, h2, h3, h4, h5⟩ := (show ObjOk P w H h a (.dT kvs) from rd_of ok e)
  refine ⟨z, y, xs, r, o, es, ep, h1, h2, h3, h4, fun x hx => ?_, h5⟩
  have all : ∀ {l : List (List Key × V)} {m : List (List Key × Addr × Value)}, KT H l m → ∀ x ∈ m, (tupleKind (mixKind P w)).is h x.1 x.2.1 := by
    intro l m q
    induction q with
    | nil => intro x hx; exact nomatch hx
    | @cons p q ps qs hq t ih =>
      intro x hx
      rcases List.mem_cons.mp hx with e | hx
      · subst e
        exact key_of ok (by rw [← hq.1]; exact hq.2.1)
      · exact ih x hx
  exact all r x hx
theorem dt_of {kvs : List (List Key × V)} (ok : HOk P w H h) (e : H a = some (.dT kvs)) : kvs.length ≤ sizeLine ∧ (a == sysModules) = false ∧
    ∃ xs, KT H kvs xs ∧ h.DictOfH (tupleKind (mixKind P w)) a xs := dt_rd ok (.inl e)
end
def DGet (H : Hp) (a : Addr) (y : V) (r : Option V) : Prop :=
  (∃ kvs k, Rd H a (.dK kvs) ∧ y = kV k ∧ r = valV kvs k) ∨ ∃ kvs k b, Rd H a (.dT kvs) ∧ y = .ref b ∧ H b = some (.tup (k.map kV)) ∧ r = valV kvs k
def DPut (H : Hp) (a : Addr) (y v : V) (H' : Hp) : Prop :=
  (∃ kvs k, H a = some (.dK kvs) ∧ y = kV k ∧ kvs.length < sizeLine ∧ H' = upd H a (.dK (putK kvs k v))) ∨
  ∃ kvs k b, H a = some (.dT kvs) ∧ y = .ref b ∧ H b = some (.tup (k.map kV)) ∧ kvs.length < sizeLine ∧ H' = upd H a (.dT (putK kvs k v))
theorem DGet.k {H : Hp} {a : Addr} {kvs : List (Key × V)} {k : Key} (e : H a = some (.dK kvs)) : DGet H a (kV k) (valV kvs k) := .inl ⟨kvs, k, .inl e, rfl, rfl⟩
theorem DPut.k {H : Hp} {a : Addr} {kvs : List (Key × V)} {k : Key} {v : V} (e : H a = some (.dK kvs)) (hl : kvs.length < sizeLine) : DPut H a (kV k) v (upd H a (.dK (putK kvs k v))) := .inl ⟨kvs, k, e, rfl, hl, rfl⟩
section
variable {X : Cx} {pins : List (Addr × Obj)} {σ : St} {H : Hp} {s : Shared} {a : Addr} {y v : V} {u r : Value} {o : Option V} {A : Around} {E : Value → Shared → Prop}
theorem Inv.big (I : Inv X pins σ H s) : sysModules < s.heap.objs.size := by
  have h : mainGlobals < s.heap.objs.size := (I.mod.glob.keeps I.bk).lt
  exact Nat.lt_trans (by decide) h
theorem d_getItem {Q : Value → Shared → Prop} (hu : A.units + 1 < cLine) (I : Inv X pins σ H s) (g : DGet H a y (some v)) (ry : RelV y u) (h : ∀ w' s', Inv X pins σ H s' → RelV v w' → Q w' s') :
    wpAny (model X.prog X.w) A (getItem (.ref a) u) Q E s := by
  rcases g with ⟨kvs, k, e, ey, l⟩ | ⟨kvs, k, b, e, ey, eb, l⟩
  · subst ey
    obtain ⟨z, hd, vs, rel, dd⟩ := dk_rd I.hok e
    obtain ⟨w', hw, rw'⟩ := RelO.some_of (v := v) (o := valueAt vs k) (by rw [l]; exact rel.val k)
    exact wpAny_getItem_of (kV_is ry) dd.mapOf hw (h w' _ (I.tok _) rw')
  · subst ey
    cases (show u = Value.ref b from ry)
    obtain ⟨z, hd, xs, rel, dd⟩ := dt_rd I.hok e
    obtain ⟨w', hw, rw'⟩ := RelO.some_of (v := v) (o := (atKey xs k).map (·.2)) (by rw [l]; exact rel.val k)
    obtain ⟨p, hp, hp2⟩ := Option.map_eq_some_iff.mp hw
    refine wpAny_getItem_heap (tupleKind_room_in1 hu) (key_of I.hok eb) dd hp ?_
    rw [hp2]
    exact h w' _ (I.tok _) rw'
theorem d_write {h' : Heap} {t' : Nat} {ob : HO} (I : Inv X pins σ H s) (mu : Mut (H a)) (hs : Heap.SameBut a s.heap h') (he : ∃ q, h'.get? a = some q) (new : ObjOk X.prog X.w (upd H a ob) h' a ob) :
    Inv X pins σ (upd H a ob) { s with heap := h', toks := t' } :=
  I.write (x := a) (e := a) mu (.inl rfl) (fun b q hb z => (hs.2 b hb).trans z) he new
theorem dk_new {P : Program} {w : World} {H' : Hp} {h' : Heap} {kvs : List (Key × V)} {vs : List (Key × Value)} (z : kvs.length ≤ sizeLine) (hd : (a == sysModules) = false) (rel : KV kvs vs) (dd : h'.DictOf (mixKind P w) a vs) :
    ObjOk P w H' h' a (.dK kvs) := ⟨z, hd, vs, rel, dd⟩
theorem d_setItem {H' : Hp} {Q : Unit → Shared → Prop} (hu : A.units + 1 < cLine) (I : Inv X pins σ H s) (g : DPut H a y v H') (ry : RelV y u) (rv : RelV v r) (h : ∀ s', Inv X pins σ H' s' → Q () s') :
    wpAny (model X.prog X.w) A (setItem (.ref a) u r) Q E s := by
  rcases g with ⟨kvs, k, e, ey, l, eH⟩ | ⟨kvs, k, b, e, ey, eb, l, eH⟩
  · subst ey eH
    obtain ⟨z, hd, vs, rel, dd⟩ := dk_of I.hok e
    have hz : vs.length ≤ sizeLine := by rw [← rel.length]; exact z
    have hl : (putK kvs k v).length ≤ sizeLine := by have := length_putK kvs k v; omega
    refine wpAny_setItem_pairs (hsz := hz) (kV_is ry) dd fun h' dd' hs => h _ ?_
    have he : ∃ q, h'.get? a = some q := let ⟨q, _, _, hq, _⟩ := dd'; ⟨q, hq⟩
    exact d_write I (by rw [e]; exact True.intro) hs he (dk_new hl hd (rel.put k rv) dd')
  · subst ey eH
    cases (show u = Value.ref b from ry)
    obtain ⟨z, hd, xs, rel, dd⟩ := dt_of I.hok e
    have hz : xs.length ≤ sizeLine := by rw [← Paired.length rel]; exact z
    have hl : (putK kvs k v).length ≤ sizeLine := by have := length_putK kvs k v; omega
    refine wpAny_setItem_heap (hsz := hz) (tupleKind_room_in1 hu) (key_of I.hok eb) dd fun h' dd' hs => h _ ?_
    obtain ⟨q, es, ep, hq, h2, h3, h4, _, h5⟩ := dd'
    refine d_write I (by rw [e]; exact True.intro) hs ⟨q, hq⟩ ⟨hl, hd, _, (rel.put k eb rv).keeps fun c ys ec => ?_, q, es, ep, hq, h2, h3, h4, h5⟩
    rw [upd_ne (ne_of ec e (fun z => nomatch z))]
    exact ec
end
def NoSl (i : Expr) : Prop := ∀ ov iv, subscripted i false ov iv = operate [ov, iv] (getItem ov iv)
theorem subD_of {prog : Program} {w : World} {A : Around} {E : Value → Shared → Prop} {s : Shared} {env : Env} {value slice : Expr} {pos : Pos} {T id : String} {Q : Value → Shared → Prop}
    (hl : typeLookup (.type T) "__getitem__" = pure (some (.builtin id))) (hs : NoSl slice)
    (h : wpAny (model prog w) A (eval value env) (fun o s₁ => wpAny (model prog w) A (eval slice env) (fun i s₂ => s₂.TypeIs o T ∧ wpAny (model prog w) A (getItem o i) Q E s₂) E s₁) E s) :
    wpAny (model prog w) A (eval (.Subscript value slice pos) env) Q E s := by
  refine Subscript_ (wpAny_mono h (fun o s₁ h₁ => wpAny_mono h₁ (fun i s₂ h₂ => ?_) fun _ _ x => x) fun _ _ x => x)
  obtain ⟨hT, h₂⟩ := h₂
  unfold subscriptTail
  refine wpAny_bind ?_
  rw [getitemInPython_of_ne hT.not_modules]
  refine wpAny_bind (wpAny_specialOf hT hl ?_)
  have fin : wpAny (model prog w) A (subscripted slice false o i) (fun r s₃ => wpAny (model prog w) A (letTemporaryGo value o r >>= fun _ => pure r) Q E s₃) E s₂ := by
    rw [hs o i]
    exact wpAny_operating (wpAny_mono h₂ (fun r s₃ h₃ => wpAny_bind (wpAny_letTemporaryGo (wpAny_pure h₃))) fun _ _ x => x)
  first
    | exact wpAny_pure (wpAny_bind fin)
    | exact wpAny_bind (wpAny_pure (wpAny_bind fin))
    | exact wpAny_bind fin
theorem dict_typeIs {X : Cx} {pins : List (Addr × Obj)} {σ : St} {H : Hp} {s : Shared} {a : Addr} {y : V} {o : Option V} (I : Inv X pins σ H s) (g : DGet H a y o) : s.TypeIs (.ref a) "dict" := by
  rcases g with ⟨kvs, k, e, _, _⟩ | ⟨kvs, k, b, e, _, _, _⟩
  · obtain ⟨_, _, vs, _, dd⟩ := dk_rd I.hok e
    exact dd.typeIs
  · obtain ⟨_, _, xs, _, dd⟩ := dt_rd I.hok e
    exact dd.typeIs
def tDGet (td ty : TE) : TE := fun σ H Q => td σ H fun x H1 => ty σ H1 fun y H2 => ∃ a v, x = .ref a ∧ DGet H2 a y (some v) ∧ Q v H2
def sDPut (td ty tv : TE) : TS := fun D σ H => tv σ H fun v H1 => td σ H1 fun x H2 => ty σ H2 fun y H3 => ∃ a H4, x = .ref a ∧ DPut H3 a y v H4 ∧ D.nx σ H4
section
variable {X : Cx} {o i e value : Expr} {pos pos' tpos : Pos} {td ty tv : TE}
theorem pe_dget (hu : X.A.units + 1 < cLine) (ho : PE X o td) (hi : PE X i ty) (hs : NoSl i) : PE X (.Subscript o i pos) (tDGet td ty) := by
  intro pins s σ H Q I h
  refine subD_of PySem.F.slot_dict_getitem.lookup hs (thn (ho pins s σ H _ I h) fun u s1 ⟨x, H1, I1, rx, q1⟩ => thn (hi pins s1 σ H1 _ I1 q1) fun iv s2 ⟨y, H2, I2, ry, a, v, ex, g, q2⟩ => ?_)
  subst ex
  obtain rfl : u = Value.ref a := rx
  exact ⟨dict_typeIs I2 g, d_getItem hu I2 g ry fun w' s3 I3 rw' => ⟨v, H2, I3, rw', q2⟩⟩
theorem ps_dput (hu : X.A.units + 1 < cLine) (ho : PE X o td) (hi : PE X i ty) (hv : PE X value tv) (hs : swapsWith value (some (.Subscript o i pos')) pos.line X.env = pure false) :
    PS X (.Assign [.Subscript o i pos'] value pos) (sDPut td ty tv) := by
  intro pins s σ H D I h
  refine wpAny_Assign_Subscript (thn (hv pins s σ H _ I h) fun r s1 ⟨v, H1, I1, rv, q1⟩ => thn (ho pins s1 σ H1 _ I1 q1) fun u s2 ⟨x, H2, I2, rx, q2⟩ => thn (hi pins s2 σ H2 _ I2 q2) fun iv s3 ⟨y, H3, I3, ry, a, H4, ex, g, q3⟩ => ?_) hs
  subst ex
  obtain rfl : u = Value.ref a := rx
  exact d_setItem hu I3 g ry rv fun s4 I4 => ⟨σ, H4, I4, q3⟩
end
theorem dk_empty {P : Program} {w : World} {H : Hp} (h : Heap) (hb : sysModules < h.objs.size) : ObjOk P w H (h.push { cls := .type "dict", data := .dict #[] }) h.objs.size (.dK []) :=
  ⟨Nat.zero_le _, beq_eq_false_iff_ne.mpr (Ne.symm (Nat.ne_of_lt hb)), [], .nil, Heap.DictOf.new h⟩
def tDNewK : TE := fun _ H Q => ∀ p, H p = none → Q (.ref p) (upd H p (.dK []))
section
variable {X : Cx} {pos : Pos}
theorem pe_dnewK : PE X (.Dict [] [] pos) tDNewK := fun pins s σ H Q I h =>
  wpAny_Dict_empty ⟨.ref s.heap.objs.size, _, I.laid (a := s.heap.objs.size) (o := .dK []) (t' := s.toks) (fun _ _ q => Heap.get?_push_of_some _ q) (Nat.le_refl _) (dk_empty s.heap I.big), rfl, h _ (I.hok.fresh (Nat.le_refl _))⟩
end
structure M1 (X : Cx) (o : Expr) (m : Str) (apos : Pos) (e : Expr) (cpos : Pos) : Prop where
  base : attributeBase o m X.env (eval o X.env) = eval o X.env
  few : ((backTo cpos (starEach [e] X.env)).all (fun x => !x.1) && (backToKw cpos (keywordEach [] X.env)).all (fun x => x.1.isSome)
    && decide (([e] : List Expr).length + ([] : List Keyword).length + (if ([] : List Keyword).isEmpty then 0 else 1) < 30)) = true
  line : (apos.endLine == cpos.line) = true
  trees : backTo cpos (starEach [e] X.env) = [(false, eval e X.env)]
structure M2 (X : Cx) (o : Expr) (m : Str) (apos : Pos) (e f : Expr) (cpos : Pos) : Prop where
  base : attributeBase o m X.env (eval o X.env) = eval o X.env
  few : ((backTo cpos (starEach [e, f] X.env)).all (fun x => !x.1) && (backToKw cpos (keywordEach [] X.env)).all (fun x => x.1.isSome)
    && decide (([e, f] : List Expr).length + ([] : List Keyword).length + (if ([] : List Keyword).isEmpty then 0 else 1) < 30)) = true
  line : (apos.endLine == cpos.line) = true
  trees : backTo cpos (starEach [e, f] X.env) = [(false, eval e X.env), (false, eval f X.env)]
end L2
namespace Att
open PySem PySem.W PySem.Calls PyProof.Rows
theorem ints_of_wellAll {P : Params} {h : Heap} : ∀ (ns : List Int) (vs : List Value), WellAll P h vs (ns.map WData.int) → IntsAre vs ns := by
  intro ns
  induction ns with
  | nil =>
    intro vs w
    rw [List.map_nil] at w
    cases w
    exact .nil
  | cons n ns ih =>
    intro vs w
    rw [List.map_cons] at w
    cases w with
    | cons a b =>
      cases a
      exact .cons _ _ (ih _ b)
theorem script_of {l : OpenLaw} {n : Nat} (hn : l.most = some n) {P : Params} {h : Heap} {args : List WData} {vals : List Value}
    (hpre : l.row.toRowW.claim.pre args = true) (hwl : WellAll P h vals args) :
    ∃ a vs ns, vals = [Value.ref a] ∧ args = [WData.list (ns.map WData.int)] ∧ h.get? a = some { cls := .type "list", data := .seq vs.toArray } ∧ IntsAre vs ns ∧ ns.length ≤ n := by
  have hsh : WShape.hasAll [] args [.list .int] = true := (pre_splitW hpre).1
  have hc : l.pre.holds [] { args := args } = true := (pre_splitW hpre).2
  obtain ⟨d, r, rfl, h1, h2⟩ := hasAllW_cons hsh
  obtain rfl := hasAllW_nil h2
  obtain ⟨xs, rfl, h3⟩ := hasW_list h1
  obtain ⟨ns, rfl⟩ := items_int h3
  have hlen : ns.length ≤ n := by
    unfold OpenLaw.pre at hc
    have h4 : (WTm.not (.lt (.lit (.int (n : Int))) (.len (.arg 0)))).holds [] { args := [.list (ns.map .int)] } = true := by
      have h4 := (holds_andW hc).1
      rw [hn] at h4
      exact h4
    have h5 := condW_of h4 (w_not (w_lt w_lit (w_len_list (w_arg rfl))))
    rw [List.length_map] at h5
    refine Nat.le_of_not_lt fun q => ?_
    have q' : (n : Int) < ((ns.length : Nat) : Int) := by omega
    first
      | (rw [decide_eq_true q'] at h5; exact absurd h5 (by decide))
      | (simp at h5; omega)
  cases hwl with
  | cons w1 w2 =>
    cases w2
    cases w1 with
    | list ho hall => exact ⟨_, _, ns, rfl, rfl, ho, ints_of_wellAll ns _ hall, hlen⟩
theorem post_true (l : OpenLaw) (args : List WData) : l.row.toRowW.claim.post args (.bool true) args = true :=
  postW_of (r := l.row.toRowW) (X := (true == true))
    (show WShape.has [] (.bool true) .bool = true by first | rfl | decide | simp [WShape.has, WShape.arms, WShape.armsAll])
    (show (WTm.eq .res (.lit (.bool true))).value [] { args := args, res := some (.bool true), after := args } = some (.bool (true == true)) from w_eq_bool (w_res rfl) w_lit) rfl
theorem attach_call {l : OpenLaw} {n : Nat} {q : Program} {loose : List Str} {XP : (Str → Option Value) → Heap → Prop} {YP : World → Heap → Prop} {d : DefRec}
    (hn : l.most = some n) (hdf : d.params.defaults = [])
    (call : ∀ (w : World) (s₀ s₁ : Shared) (mg mb : Str → Option Value) (fa : Addr) (o : Obj) (pm cd doc : Value) (a : Addr) (vs : List Value) (ns : List Int),
      Ground q loose [] XP w s₀ mg mb s₁.heap → YP w s₁.heap →
      s₁.heap.get? fa = some o → o.data = .func (docDef d.name d.params d.body d.scope pm cd doc) → s₁.heap.CodeRec cd d.name → mg d.name = some (.ref fa) →
      s₁.heap.get? a = some { cls := .type "list", data := .seq vs.toArray } → IntsAre vs ns → ns.length ≤ n → s₁.gens = #[] →
      codeAny (model l.prog w) callerA (.call (.ref fa) ⟨[.ref a], []⟩) (fun r s' => r = .ok (.ret (.bool true)) ∧ OldK s₁.heap s'.heap ∧ s'.os = s₁.os ∧ AllBare s'.gens) s₁) :
    WalkO q loose XP YP l.row.toRowW d [] (fun f vs => PySem.call f vs) := by
  intro w s₀ s₁ mg mb G Y fa o pm cd doc dV kV ho hd hcd hD hmg hg args vals as hpre hlay hrd hwl hlo
  obtain rfl : dV = .none := Dflts.none hD hdf
  obtain rfl : kV = .none := Dflts.noKw hD
  obtain ⟨a, vs, ns, rfl, rfl, hobj, hints, hlen⟩ := script_of hn hpre hwl
  refine enter_call (codeAny_mono (call w s₀ s₁ mg mb fa o pm cd doc a vs ns G Y ho (fd_plain hd) hcd hmg hobj hints hlen hg) fun r s' hq => ?_)
  obtain ⟨rfl, h2, h3, h4⟩ := hq
  exact ⟨.inl ⟨.bool true, .bool true, [], rfl, fun _ => rfl, .bool true, post_true l _, fun _ => ⟨List.Pairwise.nil, fun _ hm => (nomatch hm)⟩⟩, h2, h3, h4⟩
section
variable {prog : Program} {w : World} {A : Around} {E : Value → Shared → Prop} {s : Shared} {K : Frag}
def ledger (h : Heap) (L d : Addr) : List (Addr × Obj) := (List.range h.objs.size).filterMap fun a => if a = L ∨ a = d then none else (h.get? a).map fun o => (a, o)
end
end Att
namespace L2
open PySem PySem.Spec PyProof.Rows
theorem vals_ints : ∀ {vs : List Value} {ns : List Int}, IntsAre vs ns → Vals (ns.map V.int) vs
  | _, _, .nil => .nil
  | _, _, .cons n t h => .cons ⟨t, rfl⟩ (vals_ints h)
def Only (H : Hp) : Prop := ∀ b, H b = none ∨ ∃ o xs, H b = some (.frz o (.lst xs))
theorem law_call {P : Program} {w : World} {K : PySem.W.Frag} {mg mb : Str → Option Value} {CX : CXT} {k : Nat} {fa a : Addr} {fd : FuncData} {x : Str} {sp : Sp} {s₁ : Shared} {vs : List Value} {ns : List Int}
    (KX : K.In s₁.heap) (hns : s₁.heap.Ns mainGlobals mg) (hb : s₁.heap.Ns builtinsNs mb) (hbb : ∀ x : Str, x ≠ "__name__" → mb x = bootBuiltins x) (hlim : s₁.heap.NoLimit) (hg : s₁.gens = #[])
    (ha : s₁.heap.get? a = some { cls := .type "list", data := .seq vs.toArray }) (hi : IntsAre vs ns) (hl : ns.length ≤ sizeLine) (hr : Room k callerA)
    (F : ∀ base : Heap, K.In base → base.Ns mainGlobals mg → FnOk P w K mg base CX k fa fd [x] sp) (hbind : ∀ (s : Shared) (u : Value), BindsTo s fd ⟨[u], []⟩ [(x, u)])
    (hsp : ∀ H : Hp, Only H → SqL K H a (ns.map V.int) → sp [.ref a] H (fun v _ => v = .bl true) fun _ _ _ => False)
    (hCX : ∀ H e s', CX [] H s₁ (fun _ _ _ => False) e s' → False) :
    codeAny (model P w) callerA (.call (.ref fa) ⟨[.ref a], []⟩) (fun r s' => r = .ok (.ret (.bool true)) ∧ OldK s₁.heap s'.heap ∧ s'.os = s₁.os ∧ AllBare s'.gens) s₁ := by
  have rv := vals_ints hi
  have lenV := hi.length
  -- from an abstract heap in which nothing but the script may be tracked
  have core : ∀ H : Hp, Only H → SqL K H a (ns.map V.int) → HOk P w H s₁.heap → (∀ b, H b ≠ none → b = a) → (H a ≠ none → K.lookup a = none) →
      codeAny (model P w) callerA (.call (.ref fa) ⟨[.ref a], []⟩) (fun r s' => r = .ok (.ret (.bool true)) ∧ OldK s₁.heap s'.heap ∧ s'.os = s₁.os ∧ AllBare s'.gens) s₁ := by
    intro H hO hS hok hA hK
    have base_of : ∀ {b : Addr} {o : Obj}, s₁.heap.get? b = some o → H b = none → (hidT s₁.heap H).get? b = some o := fun e n => hidT_get e n
    have noA : ∀ {b : Addr} {o : Obj} {es : Array DictEntry} {ep : Nat}, s₁.heap.get? b = some o → o.data = .dict es ep → H b = none := fun {b o es ep} e d => by
      cases q : H b with
      | none => rfl
      | some u =>
        have e' : b = a := hA b (by rw [q]; simp)
        subst e'
        rw [ha] at e; cases e
        have d' : Data.seq vs.toArray _ = Data.dict es ep := d
        cases d'
    have nsK : ∀ {b : Addr} {m : Str → Option Value}, s₁.heap.Ns b m → (hidT s₁.heap H).Ns b m := fun {b m} ⟨o, es, ep, e, d, r⟩ => ⟨o, es, ep, base_of e (noA e d), d, r⟩
    have hKb : K.In (hidT s₁.heap H) := fun b o e => base_of (KX b o e) (by
      cases q : H b with
      | none => rfl
      | some u =>
        have e' : b = a := hA b (by rw [q]; simp)
        subst e'
        rw [hK (by rw [q]; simp)] at e; cases e)
    have hM : Mod K mg (hidT s₁.heap H) := ⟨hKb, nsK hns, ⟨mb, nsK hb, hbb⟩, let ⟨mc, h1, h2⟩ := hlim; ⟨mc, nsK h1, h2⟩⟩
    have e0 : Env0 P w K mg (hidT s₁.heap H) callerA [] s₁ H := ⟨rfl, hM, fun b o e => of_hidT e, Nat.le_of_eq (hidT_size _ _), trivial, fun b hb => absurd (show b ∈ ([] : List Addr) from hb) (by simp), hok, .of_eq hg⟩
    refine codeAny_mono ((F _ hKb (nsK hns)).run callerA [] s₁ H ⟨[.ref a], []⟩ [.ref a] [.ref a] _ _ hr e0 (hbind s₁ (.ref a)) (.cons rfl .nil) (hsp H hO hS)) fun r s' h => ?_
    cases r with
    | error e => exact (hCX H e s' h).elim
    | ok fl =>
      cases fl with
      | next => exact False.elim h
      | brk => exact False.elim h
      | cont => exact False.elim h
      | ret u =>
        obtain ⟨v, H', os, bare, un, hok', r', q⟩ := h
        have q' : v = .bl true := q
        subst q'
        obtain rfl : u = Value.bool true := r'
        refine ⟨rfl, OldK.of_keep fun b o e => ?_, os, bare⟩
        cases q : H b with
        | none => exact un.keep b o e q (by intro z; exact absurd (show b ∈ ([] : List Addr) from z) (by simp)) (by simp)
        | some u =>
          rcases hO b with z | ⟨ob, xs, z⟩
          · rw [q] at z; cases z
          · have z2 := un.frzs b ob _ z
            obtain ⟨e1, _⟩ := hok b _ z
            obtain ⟨e2, _⟩ := hok' b _ z2
            rw [e] at e1; cases e1
            exact e2
  cases hk : K.lookup a with
  | some o =>
    -- the script is one of the module's own objects
    have e := KX a o hk
    rw [ha] at e
    cases e
    refine core (fun _ => none) (fun _ => .inl rfl) (.inr ⟨_, vs.toArray, _, hk, rfl, rfl, rfl, by rw [List.size_toArray, lenV]; exact hl, by simpa using rv⟩) (fun b u z => by have z' : (none : Option HO) = some u := z; cases z') (fun b z => absurd rfl z) fun z => absurd rfl z
  | none =>
    refine core (fun b => if b = a then some (.frz { cls := .type "list", data := .seq vs.toArray } (.lst (ns.map V.int))) else none) (fun b => ?_) (.inl (.inr ⟨{ cls := .type "list", data := .seq vs.toArray }, if_pos rfl⟩)) (fun b u z => ?_) (fun b z => ?_) fun _ => hk
    · by_cases hb : b = a
      · exact .inr ⟨_, _, if_pos hb⟩
      · exact .inl (if_neg hb)
    · by_cases hb : b = a
      · have z' := (if_pos hb).symm.trans z
        cases z'
        subst hb
        exact ⟨ha, by rw [List.length_map]; exact hl, vs, _, rv, ha⟩
      · have z' := (if_neg hb).symm.trans z
        cases z'
    · by_cases hb : b = a
      · exact hb
      · exact absurd (if_neg hb) z
end L2
namespace L2
open PySem PySem.Spec PyProof.Rows
theorem walk_of {l : PySem.W.OpenLaw} {n k : Nat} {q : Program} {loose : List Str} {XP : (Str → Option Value) → Heap → Prop} {YP : World → Heap → Prop} {d : DefRec} {K : Params → PySem.W.Frag} {CX : World → CXT} {sp : World → Sp} {x : Str}
    (hn : l.most = some n) (hn2 : n ≤ sizeLine) (hdf : d.params.defaults = []) (hr : Room k callerA)
    (hY : ∀ (w : World) (h : Heap), YP w h → (K w.params).In h)
    (F : ∀ (w : World) (mg : Str → Option Value) (fa : Addr) (h : Heap), (K w.params).In h → h.Ns mainGlobals mg → mg d.name = some (.ref fa) →
      ∃ fd : FuncData, (∀ (s : Shared) (u : Value), BindsTo s fd ⟨[u], []⟩ [(x, u)]) ∧
        ∀ base : Heap, (K w.params).In base → base.Ns mainGlobals mg → FnOk l.prog w (K w.params) mg base (CX w) k fa fd [x] (sp w))
    (hsp : ∀ (w : World) (H : Hp) (a : Addr) (ns : List Int), ns.length ≤ n → Only H → SqL (K w.params) H a (ns.map V.int) → sp w [.ref a] H (fun v _ => v = .bl true) fun _ _ _ => False)
    (hCX : ∀ (w : World) (H : Hp) (s : Shared) (e : Value) (s' : Shared), CX w [] H s (fun _ _ _ => False) e s' → False) :
    PySem.W.WalkO q loose XP YP l.row.toRowW d [] (fun f vs => PySem.call f vs) := by
  refine Att.attach_call hn hdf fun w s₀ s₁ mg mb fa o pm cd doc a vs ns G Y ho hd hcd hmg hobj hints hlen hg => ?_
  have KX := hY w _ Y
  obtain ⟨fd, hb, hF⟩ := F w mg fa _ KX G.T.g hmg
  exact law_call KX G.T.g G.T.b G.T.builtins G.T.nolimit hg hobj hints (Nat.le_trans hlen hn2) hr hF hb (fun H hO hS => hsp w H a ns hlen hO hS) fun H e s' => hCX w H s₁ e s'
end L2
namespace L2
open PySem PySem.Spec PyProof.Rows
def defArgs (s : Stmt) : Arguments := match s with
  | .FunctionDef _ a _ _ _ _ _ _ _ _ => a
  | _ => { posonlyargs := [], args := [], vararg := none, kwonlyargs := [], kw_defaults := [], kwarg := none, defaults := [] }
def defBody (s : Stmt) : List Stmt := match s with
  | .FunctionDef _ _ b _ _ _ _ _ _ _ => b
  | _ => []
def defScope (s : Stmt) : Scope := match s with
  | .FunctionDef _ _ _ _ _ _ sc _ _ _ => sc
  | _ => { kind := .function, names := [], isGenerator := false, isCoroutine := false }
abbrev CX0 : CXT := fun _ _ _ _ _ _ => False
abbrev E0 : XK := fun _ _ _ => False
theorem pass0 {X : Cx} : Passes CX0 X E0 := fun _ _ _ _ _ _ _ h => h.elim
structure Fun (K : PySem.W.Frag) (x qual : Str) (st : Stmt) (f : Addr) (fd : FuncData) : Prop where
  ex : ∃ (oc : Value) (od : Option Addr) (kV doc pm : Value) (an : Option Addr) (cdv ct : Value) (osl : Array (Option Value)),
    fd = PySem.W.fnOf x qual (defArgs st) (defBody st) (defScope st) .none kV doc pm an cdv ct ∧ K.lookup f = some ⟨oc, od, .func fd, osl⟩ ∧ PySem.W.codeIn K cdv qual = true
  kp : PySem.W.keepIn K (.ref f) = true
section
variable {P : Program} {w : World} {K : PySem.W.Frag} {mg : Str → Option Value} {base : Heap}
theorem Fun.ok {x qual : Str} {st : Stmt} {f : Addr} {fd : FuncData} {N ps : List Str} {k : Nat} {sp : Sp} (F : Fun K x qual st f fd) (S : FnScope N ps (defScope st)) (len : ∀ vs H Q E, sp vs H Q E → vs.length = ps.length)
    (hbody : ∀ (cdv : Value) (A : Around) (outer : List Env) (s : Shared) (H : Hp) (vs : List V) (Q : VK) (E : XK), Room k (A.deeper (envOfC qual (defScope st) s.heap.objs.size f cdv)) → sp vs H Q E →
      ∃ t, PSs (cxOf CX0 P w K mg base N qual (defScope st) f cdv A outer s H E).nox (defBody st) t ∧ t { nx := fun _ H' => Q .non H', rt := Q } (start N vs) H) : FnOk P w K mg base CX0 (k + 1) f fd ps sp := by
  obtain ⟨oc, od, kV, doc, pm, an, cdv, ct, osl, rfl, lk, hcd⟩ := F.ex
  refine fn_of lk hcd S len fun A outer s H vs Q E hr hsp => ?_
  obtain ⟨t, h, q⟩ := hbody cdv A outer s H vs Q E hr hsp
  exact ⟨t, h.nox, q⟩
theorem Fun.binds {x qual : Str} {st : Stmt} {f : Addr} {fd : FuncData} {ps : List Str} (F : Fun K x qual st f fd)
    (h : ∀ (kV doc pm : Value) (an : Option Addr) (cdv ct : Value) (us : List Value), us.length = ps.length → bindArgs (PySem.W.fnOf x qual (defArgs st) (defBody st) (defScope st) .none kV doc pm an cdv ct) ⟨us, []⟩ = pure (ps.zip us)) : Binds K fd ps [] := by
  obtain ⟨oc, od, kV, doc, pm, an, cdv, ct, osl, rfl, lk, hcd⟩ := F.ex
  exact .all (h kV doc pm an cdv ct)
theorem fun_mk {x qual : Str} {st : Stmt} {f : Addr} {oc : Value} {od an : Option Addr} {osl : Array (Option Value)} {kV doc pm cdv ct : Value} (l : K.lookup f = some ⟨oc, od, .func (PySem.W.fnOf x qual (defArgs st) (defBody st) (defScope st) .none kV doc pm an cdv ct), osl⟩)
    (c : PySem.W.codeIn K cdv qual = true) (k : PySem.W.keepIn K (.ref f) = true) : Fun K x qual st f (PySem.W.fnOf x qual (defArgs st) (defBody st) (defScope st) .none kV doc pm an cdv ct) := ⟨⟨oc, od, kV, doc, pm, an, cdv, ct, osl, rfl, l, c⟩, k⟩
end
theorem hu_of {A : Around} {k : Nat} (hr : Room k A) : A.units + 1 < cLine := Nat.lt_of_le_of_lt (Nat.add_le_add_left (by decide : 1 ≤ 64) _) hr.units
section
variable {X : Cx}
theorem pv (i : Nat) {x : Str} {pos : Pos} (hN : X.N[i]? = some x := by rfl) (hv : Vis X.env.scope x := by first | exact Or.inl rfl | exact Or.inr (Or.inl rfl) | exact Or.inr (Or.inr rfl)) (hd : (x == ("__debug__" : Str)) = false := by decide)
    (hcd : (x == ("__classdict__" : Str)) = false := by decide) : PE X (.Name x pos) (tVar i) := pe_var hN hv hd hcd
end
theorem iteF {A B : Prop} (h : B) : if false = true then A else B := by
  rw [if_neg Bool.false_ne_true]
  exact h
theorem iteT {A B : Prop} (h : A) : if true = true then A else B := by
  rw [if_pos rfl]
  exact h
theorem ite2 {c A B : Prop} [Decidable c] (h1 : c → A) (h2 : ¬ c → B) : if c then A else B := by
  by_cases h : c
  · rw [if_pos h]
    exact h1 h
  · rw [if_neg h]
    exact h2 h
def Same (H H' : Hp) : Prop := ∀ b o, H b = some o → H' b = some o
theorem Same.refl (H : Hp) : Same H H := fun _ _ h => h
theorem Same.trans {H H1 H2 : Hp} (a : Same H H1) (b : Same H1 H2) : Same H H2 := fun c o h => b c o (a c o h)
theorem Same.free {H H' : Hp} (e : Same H H') {l : Addr} (h : H' l = Option.none) : H l = Option.none := by
  cases q : H l with
  | none => rfl
  | some o =>
    rw [e l o q] at h
    cases h
theorem Same.seq {K : PySem.W.Frag} {H H' : Hp} {a : Addr} {xs : List V} (e : Same H H') (h : SqL K H a xs) : SqL K H' a xs := by
  rcases h with (h | ⟨o, h⟩) | h
  · exact .inl (.inl (e _ _ h))
  · exact .inl (.inr ⟨o, e _ _ h⟩)
  · exact .inr h
end L2
namespace L2
open PySem PySem.Spec PyProof.Rows
def closL (cells : List (Str × Addr)) : List (Str × NameKind) → List (Str × Addr) → List (Str × Addr)
  | [], acc => acc
  | (n, k) :: r, acc => if (k == NameKind.free) = true then (match cells.lookup n with | some c => closL cells r ((n, c) :: acc) | none => closL cells r acc) else closL cells r acc
theorem closL_run {env : Env} : ∀ (ns : List (Str × NameKind)) (acc : List (Str × Addr)), (∀ y ∈ ns, y.2 = .free → ∃ c, env.cells.lookup y.1 = some c) →
    (forIn ns acc (fun x cs => (match x with | (name, kind) => if (kind == NameKind.free) = true then (do let c ← cellOf env name; pure (ForInStep.yield ((name, c) :: cs))) else pure (ForInStep.yield cs))) : Sem (List (Str × Addr))) = pure (closL env.cells ns acc)
  | [], acc, _ => rfl
  | (n, k) :: r, acc, h => by
    rw [List.forIn_cons]
    by_cases hk : (k == NameKind.free) = true
    · obtain ⟨c, hc⟩ := h (n, k) List.mem_cons_self (by simpa using hk)
      have hc : env.cells.lookup n = some c := hc
      have e := closL_run (env := env) r ((n, c) :: acc) fun y hy => h y (List.mem_cons_of_mem _ hy)
      simp only [closL, hk, if_true, cellOf, hc, pure_bind]
      exact e
    · have e := closL_run (env := env) r acc fun y hy => h y (List.mem_cons_of_mem _ hy)
      have hk : (k == NameKind.free) = false := by simpa using hk
      simp only [closL, hk, Bool.false_eq_true, if_false, pure_bind]
      exact e
theorem closureFor_eq {scope : Scope} {env : Env} (h : ∀ y ∈ scope.names, y.2 = .free → ∃ c, env.cells.lookup y.1 = some c) : closureFor scope env = pure (closL env.cells scope.names []) := by
  have e := closL_run (env := env) scope.names [] h
  unfold closureFor
  simp only [bind_pure]
  first
    | exact e
    | (refine Eq.trans ?_ e; congr 1)
    | (simp only [bind_pure_comp] at e ⊢; exact e)
theorem closL_sub {cells : List (Str × Addr)} : ∀ {ns : List (Str × NameKind)} {acc : List (Str × Addr)} {x : Str} {c : Addr}, (closL cells ns acc).lookup x = some c → acc.lookup x = some c ∨ cells.lookup x = some c
  | [], acc, x, c, h => .inl h
  | (n, k) :: r, acc, x, c, h => by
    unfold closL at h
    split at h
    · split at h
      · rename_i q hq
        rcases closL_sub h with z | z
        · rw [List.lookup_cons] at z
          cases hx : x == n with
          | true =>
            rw [hx] at z
            cases z
            have : x = n := by simpa using hx
            subst this
            exact .inr hq
          | false =>
            rw [hx] at z
            exact .inl z
        · exact .inr z
      · exact closL_sub h
    · exact closL_sub h
theorem closL_has {cells : List (Str × Addr)} : ∀ {ns : List (Str × NameKind)} {acc : List (Str × Addr)} {x : Str} {c : Addr}, cells.lookup x = some c → ((x, NameKind.free) ∈ ns ∨ acc.lookup x = some c) → (closL cells ns acc).lookup x = some c
  | [], acc, x, c, hc, h => h.elim (fun z => nomatch z) fun z => z
  | (n, k) :: r, acc, x, c, hc, h => by
    unfold closL
    split
    · rename_i hk
      split
      · rename_i q hq
        refine closL_has hc ?_
        rcases h with h | h
        · rcases List.mem_cons.mp h with e | h
          · cases e
            rw [hc] at hq
            cases hq
            exact .inr (by simp)
          · exact .inl h
        · by_cases e : x = n
          · subst e
            rw [hc] at hq
            cases hq
            exact .inr (by simp)
          · exact .inr (by rw [List.lookup_cons, (by simpa using e : (x == n) = false)]; exact h)
      · rename_i hq
        refine closL_has hc ?_
        rcases h with h | h
        · rcases List.mem_cons.mp h with e | h
          · cases e
            rw [hc] at hq
            cases hq
          · exact .inl h
        · exact .inr h
    · rename_i hk
      refine closL_has hc ?_
      rcases h with h | h
      · rcases List.mem_cons.mp h with e | h
        · cases e
          exact absurd rfl hk
        · exact .inl h
      · exact .inr h
theorem lookup_relabel_free {env : Env} : ∀ {names : List (Str × NameKind)} {x : Str}, names.lookup x = some .free →
    (names.map fun (n, k) => if (k == NameKind.free && env.scope.kind == .function && env.kindOf n == some .cell) then (n, NameKind.cell) else (n, k)).lookup x = some .cell ∨
    (names.map fun (n, k) => if (k == NameKind.free && env.scope.kind == .function && env.kindOf n == some .cell) then (n, NameKind.cell) else (n, k)).lookup x = some .free
  | [], _, h => by simp at h
  | (n, k) :: r, x, h => by
    have ih := @lookup_relabel_free env r x
    show List.lookup x ((if (k == NameKind.free && env.scope.kind == .function && env.kindOf n == some .cell) = true then (n, NameKind.cell) else (n, k)) :: _) = _ ∨ List.lookup x ((if (k == NameKind.free && env.scope.kind == .function && env.kindOf n == some .cell) = true then (n, NameKind.cell) else (n, k)) :: _) = _
    cases hx : x == n with
    | true =>
      simp only [List.lookup_cons, hx] at h
      cases h
      by_cases hc : (NameKind.free == NameKind.free && env.scope.kind == .function && env.kindOf n == some .cell) = true
      · rw [if_pos hc]; simp [List.lookup_cons, hx]
      · rw [if_neg hc]; simp [List.lookup_cons, hx]
    | false =>
      simp only [List.lookup_cons, hx] at h
      by_cases hc : (k == NameKind.free && env.scope.kind == .function && env.kindOf n == some .cell) = true
      · rw [if_pos hc]; simp only [List.lookup_cons, hx]; exact ih h
      · rw [if_neg hc]; simp only [List.lookup_cons, hx]; exact ih h
theorem of_relabel {env : Env} : ∀ {names : List (Str × NameKind)} {x : Str} {q : NameKind}, (names.map fun (n, k) => if (k == NameKind.free && env.scope.kind == .function && env.kindOf n == some .cell) then (n, NameKind.cell) else (n, k)).lookup x = some q →
    (∀ y ∈ names, y.2 ≠ .cell) → q = .cell ∨ q = .free → (x, NameKind.free) ∈ names
  | [], _, _, h, _, _ => by simp at h
  | (n, k) :: r, x, q, h, hn, hq => by
    have ih := @of_relabel env r x q
    have h : List.lookup x ((if (k == NameKind.free && env.scope.kind == .function && env.kindOf n == some .cell) = true then (n, NameKind.cell) else (n, k)) :: r.map fun (n, k) => if (k == NameKind.free && env.scope.kind == .function && env.kindOf n == some .cell) then (n, NameKind.cell) else (n, k)) = some q := h
    have nk : k ≠ .cell := hn (n, k) List.mem_cons_self
    have hn' : ∀ y ∈ r, y.2 ≠ .cell := fun y hy => hn y (List.mem_cons_of_mem _ hy)
    cases hx : x == n with
    | true =>
      have e : x = n := by simpa using hx
      subst e
      by_cases hc : (k == NameKind.free && env.scope.kind == .function && env.kindOf x == some .cell) = true
      · have : k = .free := by
          simp only [Bool.and_eq_true] at hc
          simpa using hc.1.1
        subst this
        exact List.mem_cons_self
      · rw [if_neg hc] at h
        simp only [List.lookup_cons, hx] at h
        cases h
        rcases hq with z | z
        · exact absurd z nk
        · rw [z]; exact List.mem_cons_self
    | false =>
      by_cases hc : (k == NameKind.free && env.scope.kind == .function && env.kindOf n == some .cell) = true
      · rw [if_pos hc] at h; simp only [List.lookup_cons, hx] at h; exact List.mem_cons_of_mem _ (ih h hn' hq)
      · rw [if_neg hc] at h; simp only [List.lookup_cons, hx] at h; exact List.mem_cons_of_mem _ (ih h hn' hq)
end L2
namespace L2
open PySem PySem.Spec PyProof.Rows
def startC (ix : List (Option Nat)) (σ : St) : St := ix.map fun o => o.bind fun i => (σ[i]?).join
def cxC (X : Cx) (N : List Str) (scope : Scope) (C : Addr) (fp : List Addr) (s : Shared) (H : Hp) : Cx :=
  { X with N := N, s₀ := s, H₀ := H, env := compEnvC scope (closL X.env.cells scope.names []) C X.env, outer := X.stack, stack := X.stack, ex := fp, fn := fun _ => false, xe := fun _ _ => False }
structure CompOk (X : Cx) (scope : Scope) (N : List Str) (ix : List (Option Nat)) : Prop where
  kind : scope.kind = .function
  nocell : ∀ y ∈ scope.names, y.2 ≠ .cell
  len : ix.length = N.length
  names : ∀ y ∈ scope.names, y.2 = .local → scope.names.lookup y.1 = some .local
  fr : ∀ y ∈ scope.names, y.2 = .free → X.env.kindOf y.1 = some .cell ∨ X.env.kindOf y.1 = some .free
  cap : ∀ (j i : Nat), ix[j]? = some (some i) → ∃ x : Str, N[j]? = some x ∧ X.N[i]? = some x ∧ scope.names.lookup x = some .free ∧ (x, NameKind.free) ∈ scope.names
theorem mem_of_lookup {names : List (Str × NameKind)} {x : Str} {k : NameKind} (h : names.lookup x = some k) : (x, k) ∈ names := by
  induction names with
  | nil => simp at h
  | cons p r ih =>
    obtain ⟨n, q⟩ := p
    rw [List.lookup_cons] at h
    cases hx : x == n with
    | true =>
      rw [hx] at h; cases h; have : x = n := by simpa using hx
      subst this; exact List.mem_cons_self
    | false => rw [hx] at h; exact List.mem_cons_of_mem _ (ih h)
section
variable {X : Cx} {pins : List (Addr × Obj)} {σ : St} {H : Hp} {s : Shared} {scope : Scope} {N : List Str} {ix : List (Option Nat)} {fp : List Addr}
theorem CompOk.ok (c : CompOk X scope N ix) (I : Inv X pins σ H s) (hf : ∀ b ∈ fp, FpOk X pins H b) (hlt : ∀ b ∈ fp, b < s.heap.objs.size) {C : Nat} (hC : s.heap.objs.size ≤ C) : (cxC X N scope C fp s H).Ok where
  mod := I.ok.mod
  kind := c.kind
  glob := I.ok.glob
  blt := I.ok.blt
  above := hC
  inj := fun x y d h1 h2 => by
    have h1 : (closL X.env.cells scope.names []).lookup x = some d := h1
    have h2 : (closL X.env.cells scope.names []).lookup y = some d := h2
    rcases closL_sub h1 with z | z
    · simp at z
    · rcases closL_sub h2 with z' | z'
      · simp at z'
      · exact I.ok.inj x y d z z'
  has := fun x h => by
    have hm : (x, NameKind.free) ∈ scope.names := by
      rcases h with h | h
      · exact of_relabel h c.nocell (.inl rfl)
      · exact of_relabel h c.nocell (.inr rfl)
    obtain ⟨d, hd⟩ := I.ok.has x (c.fr _ hm rfl)
    exact ⟨d, closL_has hd (.inl hm)⟩
  cab := fun x d h => by cases h
  hd := I.ok.hd
  frames := I.ok.frames
  stk := .inl rfl
  exf := fun b hb => by
    refine ⟨fun z => ?_, fun x d e z => ?_⟩
    · have z : b = C := z
      have := hlt b hb
      rw [z] at this
      exact absurd (Nat.lt_of_lt_of_le this hC) (Nat.lt_irrefl _)
    · rcases closL_sub e with q | q
      · simp at q
      · exact (hf b hb).2.2.2.2.1 x d q z
  bs := fun b o e => I.bs b o e
  bsz := Nat.le_trans I.ok.bsz I.sz
  noex := fun b o e hb => by
    rcases (hf b hb).2.2.2.1 with z | z
    · exact I.ok.noex b o e z
    · exact absurd (Nat.lt_of_lt_of_le (Heap.lt_size (I.ok.bs b o e).1) z) (Nat.lt_irrefl _)
  exfs := fun b hb z => by
    rcases List.mem_cons.mp (I.stkSub b z) with e | e
    · exact (hf b hb).2.1 e
    · exact (hf b hb).2.2.1 e
  funs := I.stack
  frf := I.stkFree
theorem CompOk.enter (c : CompOk X scope N ix) (I : Inv X pins σ H s) (hf : ∀ b ∈ fp, FpOk X pins H b) (ho : ∀ b ∈ fp, ∃ o, s.heap.get? b = some o ∧ ∀ v, o.data ≠ .cell v) {C D : Nat} {h' : Heap} {t' : Nat} {m : Str → Option Value} {oD : Obj} (hC : C = s.heap.objs.size + 1) (hD : D = s.heap.objs.size)
    (k : ∀ b o, s.heap.get? b = some o → h'.get? b = some o) (hn : h'.Ns C m) (hoD : h'.get? D = some oD) (hdD : ∀ v, oD.data ≠ .cell v) :
    Inv (cxC X N scope C fp s H) (pins ++ [(D, oD)]) (startC ix σ) H { s with heap := h', toks := t' } := by
  have hlt : ∀ b ∈ fp, b < s.heap.objs.size := fun b hb => let ⟨o, e, _⟩ := ho b hb; Heap.lt_size e
  have sub : ∀ x d, (closL X.env.cells scope.names []).lookup x = some d → X.env.cells.lookup x = some d := fun x d e => by
    rcases closL_sub e with z | z
    · simp at z
    · exact z
  refine ⟨c.ok I hf hlt (by omega), rfl, I.bare, Un.kept k, ⟨m, hn, fun j x v e1 e2 e3 => ?_⟩, fun x d e => ?_, I.hok.fresh (by show s.heap.objs.size ≤ C; omega), fun x d e => I.freeC x d (sub x d e), fun p hp => ?_, I.hok.kept k, ?_⟩
  · have e2 : (ix.map fun o => o.bind fun i => (σ[i]?).join)[j]? = some (some v) := e2
    rw [List.getElem?_map] at e2
    cases hj : ix[j]? with
    | none => rw [hj] at e2; cases e2
    | some o =>
      rw [hj] at e2
      cases o with
      | none => cases e2
      | some i =>
        have e2 : some ((σ[i]?).join) = some (some v) := e2
        obtain ⟨x', a1, a2, a3, a4⟩ := c.cap j i hj
        have e1 : N[j]? = some x := e1
        rw [e1] at a1
        cases a1
        have hs : σ[i]? = some (some v) := by
          have z := Option.some.inj e2
          cases q : σ[i]? with
          | none => rw [q] at z; cases z
          | some w => rw [q] at z; have z : w = some v := z; rw [z]
        have kx := c.fr _ a4 rfl
        obtain ⟨m0, hn0, hl0⟩ := I.loc
        obtain ⟨u, r, l⟩ := hl0 i x v a2 hs (kx.elim (fun z => .inr (.inl z)) fun z => .inr (.inr z))
        refine ⟨u, r, .inr ⟨?_, ?_⟩⟩
        · exact lookup_relabel_free (env := X.env) a3
        · rcases l with ⟨z, _⟩ | ⟨_, d, hd, hcell⟩
          · rcases kx with q | q <;> rw [q] at z <;> cases z
          · refine ⟨d, closL_has hd (.inl a4), ?_⟩
            obtain ⟨o, ho, hdt⟩ := hcell
            exact ⟨o, k d o ho, hdt⟩
  · obtain ⟨v, o, ho, hdt⟩ := I.cell x d (sub x d e)
    exact ⟨v, o, k d o ho, hdt⟩
  · have nstk : ∀ b, b ≠ X.env.locals → b ∉ X.fs → b ∉ frs X.stack := fun b h1 h2 z => by
      rcases List.mem_cons.mp (I.stkSub b z) with e | e
      · exact h1 e
      · exact h2 e
    have old : ∀ p ∈ X.pn ++ pins, h'.get? p.1 = some p.2 ∧ H p.1 = none ∧ p.1 ≠ C ∧ p.1 ∉ frs X.stack ∧ ∀ v, p.2.data ≠ .cell v := fun p hp => by
      obtain ⟨a1, a2, a3, a4, a5⟩ := I.pin p hp
      have : @LT.lt Nat _ p.1 s.heap.objs.size := Heap.lt_size a1
      exact ⟨k _ _ a1, a2, Nat.ne_of_lt (by rw [hC]; exact Nat.lt_succ_of_lt this), nstk _ a3 a4, a5⟩
    have hp : p ∈ X.pn ++ (pins ++ [(D, oD)]) := hp
    rcases List.mem_append.mp hp with z | z
    · exact old p (List.mem_append_left _ z)
    · rcases List.mem_append.mp z with z | z
      · exact old p (List.mem_append_right _ z)
      · have e : p = (D, oD) := by simpa using z
        subst e
        have lt : @LT.lt Nat _ X.env.locals s.heap.objs.size := I.lt
        refine ⟨hoD, I.hok.fresh (by show s.heap.objs.size ≤ D; omega), (by show (D : Nat) ≠ C; omega), nstk D (Nat.ne_of_gt (by rw [hD]; exact lt)) (I.nofs (by omega)), hdD⟩
  · show (ix.map _).length = N.length
    rw [List.length_map, c.len]
theorem CompOk.leave (c : CompOk X scope N ix) (I : Inv X pins σ H s) (hf : ∀ b ∈ fp, FpOk X pins H b) {C D : Nat} {σ' : St} {H' : Hp} {s' : Shared} {ys : List V} {its : List Value} {n : Nat} {pl : List (Addr × Obj)} (hC : C = s.heap.objs.size + 1) (hD : D = s.heap.objs.size)
    (I' : Inv (cxC X N scope C fp s H) (pl ++ [(D, { cls := .type "list", data := .seq its.toArray n })]) σ' H' s') (rv : Vals ys its) (hz : ys.length ≤ sizeLine) :
    Inv X pins σ (upd H' D (.lst ys)) s' := by
  have pD := I'.pin (D, _) (List.mem_append_right _ (List.mem_append_right _ List.mem_cons_self))
  have hDn : H' D = none := pD.2.1
  have u : Un (frs X.stack) fp H H' s.heap s'.heap := I'.base
  have hlt : ∀ b o, s.heap.get? b = some o → b ≠ D := fun b o e => Nat.ne_of_lt (by have : @LT.lt Nat _ b s.heap.objs.size := Heap.lt_size e; rw [hD]; exact this)
  refine I.call' (ch := fp) I'.os ?_ ?_ I'.bare fun b hb => ?_
  · refine ⟨u.keep, u.slot, fun b o e n hx => by rw [upd_ne (hlt b o e)]; exact u.free b o e n hx, u.there, fun b xs e => ?_, fun b o w e => ?_, fun b ps e => ?_⟩
    · have e' := u.tups b xs e
      rw [upd_ne (ne_of_none e' hDn)]; exact e'
    · have e' := u.frzs b o w e
      rw [upd_ne (ne_of_none e' hDn)]; exact e'
    · obtain ⟨more, e'⟩ := u.tbls b ps e
      exact ⟨more, by rw [upd_ne (ne_of_none e' hDn)]; exact e'⟩
  · intro b o e
    by_cases hb : b = D
    · subst hb
      rw [upd_same] at e
      cases e
      exact ⟨hz, its, n, rv, pD.1⟩
    · rw [upd_ne hb] at e
      refine (I'.hok b o e).stay (fun _ _ _ q => q) (fun a q => ?_) fun a xs q => ?_
      · rw [upd_ne (ne_of_none q hDn)]; exact q
      · rw [upd_ne (ne_of_none q hDn)]; exact q
  · obtain ⟨f0, f1, f2, f3, f4, f5⟩ := hf b hb
    exact ⟨f3, f1, f4, f5⟩
end
end L2
namespace L2
open PySem PySem.Spec PyProof.Rows
section
variable {prog : Program} {w : World} {A : Around} {R : Result → Shared → Prop} {s : Shared}
theorem compLoop_any {elt target iter : Expr} {ifs : List Expr} {scope : Scope} {pos : Pos} {it acc : Value} {env : Env} (I : Nat → Shared → Prop)
    (turn : ∀ n s, I n s → wpAny (model prog w) A (pyNext it) (fun r s₁ => match r with
      | none => R (.ok .next) s₁
      | some v => wpAny (model prog w) A (letOwnedTupleGo target it v) (fun _ s₁ => wpAny (model prog w) A (assign target env v) (fun _ s₂ =>
          wpAny (model prog w) A (forIn ifs true fun c r => if r = true then do let ok ← isTrue c env (eval c env); pure (ForInStep.yield ok) else pure (ForInStep.yield r)) (fun ok s₃ =>
            if ok = true then wpAny (model prog w) A (eval elt env) (fun x s₄ =>
              wpAny (model prog w) A (call (.builtin "list.append") [acc, x]) (fun _ s₅ => ∃ m, m < n ∧ I m s₅) (fun _ _ => False) s₄) (fun _ _ => False) s₃
            else ∃ m, m < n ∧ I m s₃) (fun _ _ => False) s₂) (fun _ _ => False) s₁) (fun _ _ => False) s₁) (fun _ _ => False) s)
    (n : Nat) (h : I n s) :
    codeAny (model prog w) A (.compLoop (.ListComp elt [⟨target, iter, ifs, 0⟩] scope pos) 0 it acc env) R s := by
  refine codeAny_loop rfl I (fun n s hI => ?_) n h
  show wpAny _ A ((compTurn (.ListComp elt [⟨target, iter, ifs, 0⟩] scope pos) 0 it acc env).onRaise (fun x => do noteFrame x env; theTreesLotGoes x)) _ _ s
  refine wpAny_noted ?_
  rw [compTurn_list]
  refine wpAny_bind (wpAny_standAt (wpAny_bind (wpAny_mono (turn n s hI) (fun r s₁ h₁ => ?_) fun _ _ h' => h'.elim)))
  cases r with
  | none => exact wpAny_pure h₁
  | some v =>
    refine wpAny_bind (wpAny_mono h₁ (fun _ s₁ h₁ => ?_) fun _ _ h' => h'.elim)
    refine wpAny_bind (wpAny_mono h₁ (fun _ s₂ h₂ => wpAny_bind (wpAny_mono h₂ (fun ok s₃ h₃ => ?_) fun _ _ h' => h'.elim)) fun _ _ h' => h'.elim)
    cases ok with
    | false => exact wpAny_pure ⟨rfl, h₃⟩
    | true =>
      refine wpAny_bind (wpAny_bind (wpAny_mono h₃ (fun x s₄ h₄ => wpAny_bind (wpAny_mono h₄ (fun _ s₅ h₅ => ?_) fun _ _ h' => h'.elim)) fun _ _ h' => h'.elim))
      exact wpAny_pure (wpAny_pure ⟨rfl, h₅⟩)
end
def PIf (X : Cx) (cs : List Expr) (t : TT) : Prop :=
  ∀ (pins : List (Addr × Obj)) (s : Shared) (σ : St) (H : Hp) (Q : Bool → Hp → Prop), Inv X pins σ H s → t σ H Q →
    wpAny (model X.prog X.w) X.A (forIn cs true fun c r => if r = true then do let ok ← isTrue c X.env (eval c X.env); pure (ForInStep.yield ok) else pure (ForInStep.yield r)) (TP X pins σ Q) X.xe s
def tTrue : TT := fun _ H Q => Q true H
theorem pif_nil {X : Cx} : PIf X [] tTrue := fun _ _ _ H _ I h => wpAny_tests_nil ⟨H, I, h⟩
theorem pif_one {X : Cx} {c : Expr} {t : TT} (h : PT X c t) : PIf X [c] t := fun pins s σ H Q I q => wpAny_tests_one (h pins s σ H Q I q)
abbrev WC := Nat → Nat → List V → St → Hp → Prop
def rComp (ix : List (Option Nat)) (g : TG) (tc : TT) (te : TE) (σ : St) (Q : VK) (J : It) (H1 : Hp) : Prop :=
  ∃ W : WC, (∃ m, W 0 m [] (startC ix σ) H1) ∧ ∀ i m ys σ' H', W i m ys σ' H' →
    (J.stop i H' ∧ ys.length ≤ sizeLine ∧ ∀ p, H' p = none → Q (.ref p) (upd H' p (.lst ys))) ∨
    (J.go i H' ∧ ys.length < sizeLine ∧ ∀ x H2, J.yld i H' x H2 → g x σ' H2 fun σ2 H3 => tc σ2 H3 fun b H4 =>
      if b = true then te σ2 H4 fun v H5 => ∃ m', m' < m ∧ W (i + 1) m' (ys ++ [v]) σ2 H5 else ∃ m', m' < m ∧ W (i + 1) m' ys σ2 H4)
def tComp (ix : List (Option Nat)) (wi : TI) (g : TG) (tc : TT) (te : TE) : TE := fun σ H Q => wi σ H (rComp ix g tc te σ Q)
section
variable {X : Cx} {scope : Scope} {N : List Str} {ix : List (Option Nat)} {elt tg iter : Expr} {ifs : List Expr} {g : TG} {tc : TT} {te : TE} {pos : Pos}
theorem comp_block {pins : List (Addr × Obj)} {σ : St} {s2 : Shared} {Q : VK} {itv : Value} {RR : Value → Addr → Result → Shared → Prop} {E : Value → Shared → Prop} (c : CompOk X scope N ix) (hc : X.calm = true)
    (hg : ∀ C fp s H, PG (cxC X N scope C fp s H) tg g) (ht : ∀ C fp s H, PIf (cxC X N scope C fp s H) ifs tc) (he : ∀ C fp s H, PE (cxC X N scope C fp s H) elt te)
    (h2 : PIE X pins σ tg (rComp ix g tc te σ Q) itv s2)
    (hR : ∀ (D C : Addr) (s' : Shared) (H' : Hp) (m : Str → Option Value), Inv X pins σ H' s' → s'.heap.Ns C m → H' C = none → X.s₀.heap.objs.size ≤ C → (∀ p ∈ X.pn ++ pins, p.1 ≠ C) → C ≠ X.env.locals → (∀ x c, X.env.cells.lookup x = some c → c ≠ C) → Q (.ref D) H' → RR (.ref D) C (.ok .next) s') :
    wpAny (model X.prog X.w) X.A (newList []) (fun acc s₃ => wpAny (model X.prog X.w) X.A (newFunctionEnv scope X.env.globals (closL X.env.cells scope.names []) [] X.env.qual none .none (some X.env)) (fun cenv s₄ =>
      codeAny (model X.prog X.w) X.A (.compStart (.ListComp elt [⟨tg, iter, ifs, 0⟩] scope pos) 0 itv acc { cenv with scope := relabel scope X.env }) (RR acc cenv.locals) s₄) E s₃) E s2 := by
  obtain ⟨it, fp, tn, J, H2, rfl, I2, T, st2, f2, W, ⟨m0, w0⟩, turn⟩ := h2
  refine wpAny_newObj_type (wpAny_newFunctionEnv c.nocell (by intro y hy; simp at hy) (fun h₁ hns₁ hsb₁ => ?_) c.kind)
  dsimp only at hns₁ hsb₁ ⊢
  generalize hH2 : s2.heap.push { cls := .type "list", dict := none, data := .seq ([] : List Value).toArray } = G2 at hns₁ hsb₁ ⊢
  have hCs : G2.objs.size = s2.heap.objs.size + 1 := by rw [← hH2, Heap.size_push]
  generalize hCe : G2.objs.size = C at hns₁ hsb₁ hCs ⊢
  generalize hDe : s2.heap.objs.size = D at hCs ⊢
  have ltC : ∀ b, @LT.lt Nat _ b D → b ≠ C := fun b hb => Nat.ne_of_lt (by rw [hCs]; exact Nat.lt_succ_of_lt hb)
  have ltS : ∀ b o, s2.heap.get? b = some o → @LT.lt Nat _ b D := fun b o e => by rw [← hDe]; exact Heap.lt_size e
  have hDC : D ≠ C := Nat.ne_of_lt (by rw [hCs]; exact Nat.lt_succ_self _)
  have old : ∀ b o, s2.heap.get? b = some o → h₁.get? b = some o := fun b o e => hsb₁.extBut b o (ltC b (ltS b o e)) (Heap.get?_push_of_some _ (hH2 ▸ Heap.get?_push_of_some _ e))
  have hoD : h₁.get? D = some { cls := .type "list", dict := none, data := .seq ([] : List Value).toArray } := by
    refine hsb₁.extBut _ _ hDC (Heap.get?_push_of_some _ ?_)
    rw [← hH2, ← hDe]
    exact Heap.get?_push_size _ rfl
  have I4 : Inv (cxC X N scope C fp s2 H2) (pins ++ [(D, { cls := .type "list", data := .seq ([] : List Value).toArray })]) (startC ix σ) H2 { s2 with heap := h₁, toks := s2.toks + ([] : List (Str × Value)).length } :=
    c.enter I2 f2 (T.obj _ _ st2) (by rw [hCs, hDe]) hDe.symm old hns₁ hoD fun v z => by cases z
  have st4 : tn 0 h₁ := T.keep _ _ _ st2 fun b _ o e => old b o e
  have pinD : ∀ p ∈ X.pn ++ pins, p.1 ≠ D := fun p hp => Nat.ne_of_lt (ltS _ _ (I2.pin p hp).1)
  have pinC : ∀ p ∈ X.pn ++ pins, p.1 ≠ C := fun p hp => ltC _ (ltS _ _ (I2.pin p hp).1)
  have celD : ∀ x d, X.env.cells.lookup x = some d → @LT.lt Nat _ d D := fun x d e => by
    obtain ⟨v, o, ho, _⟩ := I2.cell x d e
    exact ltS d o ho
  have fpD : ∀ b ∈ fp, @LT.lt Nat _ b D := fun b hb => by
    obtain ⟨o, e, _⟩ := T.obj _ _ st2 b hb
    exact ltS b o e
  have sub : ∀ x d, (closL X.env.cells scope.names []).lookup x = some d → X.env.cells.lookup x = some d := fun x d e => by
    rcases closL_sub e with z | z
    · simp at z
    · exact z
  have stat : ∀ {H' : Hp} {oD : Obj}, (∀ b ∈ fp, H' b = none) → ∀ b ∈ fp, FpOk (cxC X N scope C fp s2 H2) (pins ++ [(D, oD)]) H' b := fun {H' oD} hn b hb => by
    obtain ⟨f0, f1, f2, f3, f4, f5⟩ := f2 b hb
    refine ⟨hn b hb, ltC b (fpD b hb), fun z => ?_, .inl hb, fun x d e => f4 x d (sub x d e), fun p hp => ?_⟩
    · rcases List.mem_cons.mp (I2.stkSub b z) with e | e
      · exact f1 e
      · exact f2 e
    · have hp : p ∈ X.pn ++ (pins ++ [(D, oD)]) := hp
      rw [← List.append_assoc] at hp
      rcases List.mem_append.mp hp with z | z
      · exact f5 p z
      · have e : p = (D, oD) := by simpa using z
        subst e
        exact Nat.ne_of_gt (fpD b hb)
  have loop : ∀ s3 : Shared, s3 = { s2 with heap := h₁, toks := s2.toks + ([] : List (Str × Value)).length } →
      codeAny (model X.prog X.w) X.A (.compLoop (.ListComp elt [⟨tg, iter, ifs, 0⟩] scope pos) 0 (.ref it) (.ref D) (cxC X N scope C fp s2 H2).env) (RR (.ref D) C) s3 := by
    rintro s3 rfl
    refine compLoop_any (fun n s' => ∃ i σ' H' ys its k, Inv (cxC X N scope C fp s2 H2) (pins ++ [(D, { cls := .type "list", data := .seq (List.toArray its) k })]) σ' H' s' ∧ tn i s'.heap ∧ (∀ b ∈ fp, H' b = none) ∧ Vals ys its ∧ W i n ys σ' H') ?_ m0
      ⟨0, _, H2, [], [], _, I4, st4, fun b hb => (f2 b hb).1, .nil, w0⟩
    rintro n s3 ⟨i, σ3, H3, ys, its, k, I3, st3, fr3, rv, w3⟩
    rcases turn i n ys σ3 H3 w3 with ⟨stop, hz, qn⟩ | ⟨go, hz, step⟩
    · refine thn (T.done (cxC X N scope C fp s2 H2) rfl rfl rfl hc i _ s3 σ3 H3 _ I3 (stat fr3) st3 stop) fun r s4 ⟨hr, I4⟩ => ?_
      subst hr
      have hDn : H3 D = none := (I3.pin (D, _) (List.mem_append_right _ (List.mem_append_right _ List.mem_cons_self))).2.1
      obtain ⟨m4, hn4, _⟩ := id I4.loc
      refine hR D C s4 _ m4 (c.leave I2 f2 (by rw [hCs, hDe]) hDe.symm I4 rv hz) hn4 ?_ ?_ pinC ?_ (fun x d e => ltC d (celD x d e)) (qn D hDn)
      · rw [upd_ne hDC.symm]; exact I4.free
      · refine Nat.le_trans I2.sz ?_
        rw [hDe, hCs]; exact Nat.le_succ _
      · refine Nat.ne_of_gt (Nat.lt_of_lt_of_le I2.lt ?_)
        rw [hDe, hCs]; exact Nat.le_succ _
    · refine thn (T.item (cxC X N scope C fp s2 H2) rfl rfl rfl hc i _ s3 σ3 H3 _ I3 (stat fr3) st3 go) fun r s4 ⟨u, hr, h4⟩ => ?_
      subst hr
      refine thn h4 fun _ s5 ⟨x, H5, I5, r5, y5, st5, fr5⟩ => ?_
      have I5' := I5.pinned (stat fr5) (T.obj _ _ st5)
      refine thn (hg C fp s2 H2 _ s5 σ3 H5 x u _ I5' r5 (step x H5 y5)) fun _ s6 ⟨σ6, H6, I6, q6⟩ => ?_
      refine thn (ht C fp s2 H2 _ s6 σ6 H6 _ I6 q6) fun ok s7 ⟨H7, I7, q7⟩ => ?_
      have keep : ∀ {s' : Shared} {σ' : St} {H' : Hp}, Inv (cxC X N scope C fp s2 H2) ((pins ++ [(D, { cls := .type "list", data := .seq its.toArray k })]) ++ pinsAt fp s5.heap) σ' H' s' → tn (i + 1) s'.heap ∧ ∀ b ∈ fp, H' b = none := fun {s' σ' H'} I' => by
        refine ⟨T.keep _ _ _ st5 fun b hb o e => (I'.pin (b, o) (List.mem_append_right _ (List.mem_append_right _ (mem_pinsAt hb e)))).1, fun b hb => ?_⟩
        obtain ⟨o, e, d⟩ := T.obj _ _ st5 b hb
        exact (I'.pin (b, o) (List.mem_append_right _ (List.mem_append_right _ (mem_pinsAt hb e)))).2.1
      cases ok with
      | false =>
        rw [if_neg Bool.false_ne_true]
        rw [if_neg Bool.false_ne_true] at q7
        obtain ⟨m', hm, w7⟩ := q7
        obtain ⟨k1, k2⟩ := keep I7
        exact ⟨m', hm, i + 1, σ6, H7, ys, its, k, I7.unpinned, k1, k2, rv, w7⟩
      | true =>
        rw [if_pos rfl]
        rw [if_pos rfl] at q7
        refine thn (he C fp s2 H2 _ s7 σ6 H7 _ I7 q7) fun y s8 ⟨v, H8, I8, r8, m', hm, w8⟩ => ?_
        obtain ⟨k1, k2⟩ := keep I8
        have pD := I8.pin (D, _) (List.mem_append_right _ (List.mem_append_left _ (List.mem_append_right _ List.mem_cons_self)))
        have I8u := I8.unpinned
        have I8v : Inv (cxC X N scope C fp s2 H2) pins σ6 H8 s8 := I8u.unpinned
        have len := rv.length
        refine wpAny_list_append_plain (items := its.toArray) (hsz := by simp; omega) ⟨k, pD.1⟩ fun h9 hl9 hs9 => ?_
        obtain ⟨k9, e9⟩ := hl9
        have I9 : Inv (cxC X N scope C fp s2 H2) pins σ6 H8 { s8 with heap := h9 } := by
          refine I8v.turned (t' := s8.toks) (it := D) (fun b o hb e => hs9.extBut b o hb e) pD.2.1 hDC (.inr ?_) (fun x d e => Nat.ne_of_lt (celD x d (sub x d e))) fun p hp => ?_
          · show s2.heap.objs.size ≤ D
            rw [hDe]; exact Nat.le_refl _
          · exact pinD p hp
        have e9' : h9.get? D = some { cls := .type "list", data := .seq (its ++ [y]).toArray k9 } := by
          rw [e9]; simp
        refine ⟨m', hm, i + 1, σ6, H8, ys ++ [v], its ++ [y], k9, I9.pins_of fun p hp => ?_, T.keep _ _ _ k1 fun b hb o e => hs9.extBut b o (Nat.ne_of_lt (fpD b hb)) e, k2, rv.append (.cons r8 .nil), w8⟩
        rcases List.mem_append.mp hp with z | z
        · exact I9.pin p (List.mem_append_right _ z)
        · have e : p = (D, { cls := .type "list", data := .seq (its ++ [y]).toArray k9 }) := by simpa using z
          subst e
          exact ⟨e9', pD.2.1, pD.2.2.1, pD.2.2.2.1, fun v z => by cases z⟩
  exact codeAny_compStart_list (loop _ rfl) (T.self _ 0 _ _ _ st4 (loop _ rfl))
variable {wi : TI}
theorem pe_comp (c : CompOk X scope N ix) (hc : X.calm = true) (hi : PI X tg iter wi) (hg : ∀ C fp s H, PG (cxC X N scope C fp s H) tg g) (ht : ∀ C fp s H, PIf (cxC X N scope C fp s H) ifs tc) (he : ∀ C fp s H, PE (cxC X N scope C fp s H) elt te)
    (hs : ∀ x, foldedSetIterable iter X.env x = pure x := by intro _; rfl) : PE X (.ListComp elt [⟨tg, iter, ifs, 0⟩] scope pos) (tComp ix wi g tc te) := by
  intro pins s σ H Q I h
  rw [eval_ListComp]
  have hcl : ∀ y ∈ scope.names, y.2 = NameKind.free → ∃ d, X.env.cells.lookup y.1 = some d := fun y hy e => I.ok.has _ (c.fr y hy e)
  refine wpAny_comprehension_free (use := none) rfl hs (closureFor_eq hcl) c.kind c.names (thn (hi pins s σ H _ I h) fun v s1 h1 => thn h1 fun itv s2 h2 => ?_)
  refine comp_block (RR := fun acc C => compPost (model X.prog X.w) X.A X.xe none (EP X pins σ Q) acc C) c hc hg ht he h2 ?_
  intro D C s' H' m I' hn hC hz hp hL hcells q
  exact ⟨m, hn, fun h' hs' => ⟨.ref D, H', I'.turned (t' := s'.toks) (fun b o hb e => hs'.extBut b o hb e) hC hL (.inr hz) hcells hp, rfl, q⟩⟩
theorem ps_comp {i : Nat} {x : Str} {px spos : Pos} (hN : X.N.Nodup) (hx0 : X.N[i]? = some x) (hx : X.env.scope.names.lookup x = some .local) (c : CompOk X scope N ix) (hc : X.calm = true) (hi : PI X tg iter wi) (hg : ∀ C fp s H, PG (cxC X N scope C fp s H) tg g) (ht : ∀ C fp s H, PIf (cxC X N scope C fp s H) ifs tc) (he : ∀ C fp s H, PE (cxC X N scope C fp s H) elt te)
    (hsw : swapsWith (.ListComp elt [⟨tg, iter, ifs, 0⟩] scope pos) (some (.Name x px)) spos.line X.env = pure true := by rfl)
    (hs : ∀ x, foldedSetIterable iter X.env x = pure x := by intro _; rfl) : PS X (.Assign [.Name x px] (.ListComp elt [⟨tg, iter, ifs, 0⟩] scope pos) spos) (tAsg (tComp ix wi g tc te) (gName i)) := by
  intro pins s σ H D0 I h
  rw [exec_Assign_Name_used _ _ _ _ hsw]
  refine wpAny_bind (wpAny_standAt (wpAny_bind ?_))
  show wpAny _ _ (do let _ ← comprehension (.ListComp elt [⟨tg, iter, ifs, 0⟩] scope pos) scope X.env _ (newList []) false (eval iter X.env) (some (assign (.Name x px) X.env))) _ _ s
  have hcl : ∀ y ∈ scope.names, y.2 = NameKind.free → ∃ d, X.env.cells.lookup y.1 = some d := fun y hy e => I.ok.has _ (c.fr y hy e)
  refine wpAny_bind (wpAny_mono (wpAny_comprehension_free (use := some (assign (.Name x px) X.env)) (Q := fun _ s' => SP X pins D0 .next s') rfl hs (closureFor_eq hcl) c.kind c.names
    (thn (hi pins s σ H _ I h) fun v s1 h1 => thn h1 fun itv s2 h2 => ?_)) (fun _ s' hq => wpAny_pure (wpAny_pure hq)) fun _ _ e => e)
  refine comp_block (RR := fun acc C => compPost (model X.prog X.w) X.A X.xe (some (assign (.Name x px) X.env)) (fun _ s' => SP X pins D0 .next s') acc C) c hc hg ht he h2 ?_
  intro D C s' H' m I' hn hC hz hp hL hcells q
  show wpAny _ _ (assign (.Name x px) X.env (.ref D)) _ _ _
  refine wpAny_assign_Name (store_ok2 (v := .ref D) I' hN hx0 (.inl hx) rfl (fun s'' I'' hsb => ?_) (.inr hx))
  obtain ⟨a, sb, ha⟩ := hsb
  have haC : a ≠ C := by
    rcases ha with e | e
    · rw [e]; exact hL.symm
    · exact hcells x a e
  refine ⟨m, hn.sameBut sb haC.symm, fun h' hs' => ⟨_, H', I''.turned (t' := s''.toks) (fun b o hb e => hs'.extBut b o hb e) hC hL (.inr hz) hcells hp, q⟩⟩
end
end L2
namespace L2
open PySem PySem.Spec PyProof.Rows
mutual
inductive Dat (K : PySem.W.Frag) (H : Hp) (P : Addr → Prop) : V → PyData → Prop
  | non : Dat K H P .non .none
  | bl (b : Bool) : Dat K H P (.bl b) (.bool b)
  | int (i : Int) : Dat K H P (.int i) (.int i)
  | str (x : Str) : Dat K H P (.str x) (.str x)
  | lst {a : Addr} {vs : List V} {ds : List PyData} : SqL K H a vs → P a → DatAll K H P vs ds → Dat K H P (.ref a) (.list ds)
  | tup {a : Addr} {vs : List V} {ds : List PyData} : SqT K H a vs → P a → DatAll K H P vs ds → Dat K H P (.ref a) (.tuple ds)
inductive DatAll (K : PySem.W.Frag) (H : Hp) (P : Addr → Prop) : List V → List PyData → Prop
  | nil : DatAll K H P [] []
  | cons {v : V} {d : PyData} {vs : List V} {ds : List PyData} : Dat K H P v d → DatAll K H P vs ds → DatAll K H P (v :: vs) (d :: ds)
end
def Keep (P : Addr → Prop) (H H' : Hp) : Prop := ∀ b o, P b → H b = some o → H' b = some o
theorem Keep.sqL {P : Addr → Prop} {H H' : Hp} {K : PySem.W.Frag} {a : Addr} {xs : List V} (k : Keep P H H') (p : P a) (h : SqL K H a xs) : SqL K H' a xs := by
  rcases h with (h | ⟨o, h⟩) | h
  · exact .inl (.inl (k _ _ p h))
  · exact .inl (.inr ⟨o, k _ _ p h⟩)
  · exact .inr h
theorem Keep.sqT {P : Addr → Prop} {H H' : Hp} {K : PySem.W.Frag} {a : Addr} {xs : List V} (k : Keep P H H') (p : P a) (h : SqT K H a xs) : SqT K H' a xs := by
  rcases h with (h | ⟨o, h⟩) | h
  · exact .inl (.inl (k _ _ p h))
  · exact .inl (.inr ⟨o, k _ _ p h⟩)
  · exact .inr h
mutual
theorem Dat.keep {K : PySem.W.Frag} {H H' : Hp} {P : Addr → Prop} (k : Keep P H H') : ∀ {v : V} {d : PyData}, Dat K H P v d → Dat K H' P v d
  | _, _, .non => .non
  | _, _, .bl b => .bl b
  | _, _, .int i => .int i
  | _, _, .str x => .str x
  | _, _, .lst h p r => .lst (k.sqL p h) p (r.keep k)
  | _, _, .tup h p r => .tup (k.sqT p h) p (r.keep k)
theorem DatAll.keep {K : PySem.W.Frag} {H H' : Hp} {P : Addr → Prop} (k : Keep P H H') : ∀ {vs : List V} {ds : List PyData}, DatAll K H P vs ds → DatAll K H' P vs ds
  | _, _, .nil => .nil
  | _, _, .cons h r => .cons (h.keep k) (r.keep k)
end
mutual
theorem Dat.imp {K : PySem.W.Frag} {H : Hp} {P P' : Addr → Prop} (k : ∀ a, P a → P' a) : ∀ {v : V} {d : PyData}, Dat K H P v d → Dat K H P' v d
  | _, _, .non => .non
  | _, _, .bl b => .bl b
  | _, _, .int i => .int i
  | _, _, .str x => .str x
  | _, _, .lst h p r => .lst h (k _ p) (r.imp k)
  | _, _, .tup h p r => .tup h (k _ p) (r.imp k)
theorem DatAll.imp {K : PySem.W.Frag} {H : Hp} {P P' : Addr → Prop} (k : ∀ a, P a → P' a) : ∀ {vs : List V} {ds : List PyData}, DatAll K H P vs ds → DatAll K H P' vs ds
  | _, _, .nil => .nil
  | _, _, .cons h r => .cons (h.imp k) (r.imp k)
end
section
variable {X : Cx} {pins : List (Addr × Obj)} {σ : St} {H : Hp} {s : Shared}
mutual
theorem Inv.reads {P : Addr → Prop} (I : Inv X pins σ H s) : ∀ {v : V} {d : PyData} {u : Value}, Dat X.K H P v d → RelV v u → ∃ as, Reads s.heap u d as
  | _, _, u, .non, r => by cases (show u = Value.none from r); exact ⟨_, .none⟩
  | _, _, u, .bl b, r => by cases (show u = Value.bool b from r); exact ⟨_, .bool b⟩
  | _, _, u, .int i, r => by obtain ⟨t, rfl⟩ := (show ∃ t, u = Value.int i t from r); exact ⟨_, .int i t⟩
  | _, _, u, .str x, r => by obtain ⟨t, rfl⟩ := (show ∃ t, u = Value.str x t from r); exact ⟨_, .str x t⟩
  | .ref a, _, u, .lst h p rs, r => by
    cases (show u = Value.ref a from r)
    obtain ⟨its, rv, ⟨o, n, e, c, _, d⟩, _⟩ := I.list h
    obtain ⟨as, q⟩ := Inv.readsAll I rs rv
    exact ⟨_, .list e c d (by simpa using q)⟩
  | .ref a, _, u, .tup h p rs, r => by
    cases (show u = Value.ref a from r)
    obtain ⟨its, rv, ⟨o, e, c, n, d⟩, _⟩ := I.tuple h
    obtain ⟨as, q⟩ := Inv.readsAll I rs rv
    exact ⟨_, .tuple e c d (by simpa using q)⟩
theorem Inv.readsAll {P : Addr → Prop} (I : Inv X pins σ H s) : ∀ {vs : List V} {ds : List PyData} {us : List Value}, DatAll X.K H P vs ds → Vals vs us → ∃ as, ReadsAll s.heap us ds as
  | _, _, _, .nil, r => by cases r; exact ⟨_, .nil⟩
  | _, _, _, .cons h rs, r => by
    cases r with
    | cons r1 r2 =>
      obtain ⟨as, q⟩ := Inv.reads I h r1
      obtain ⟨bs, q'⟩ := Inv.readsAll I rs r2
      exact ⟨_, .cons q q'⟩
end
def rEqD (K : PySem.W.Frag) : R2 := fun x y H Q => ∃ P dx dy, Dat K H P x dx ∧ Dat K H P y dy ∧ dx.canLay0 = true ∧ dy.canLay0 = true ∧ dx.depth ≤ 60 ∧ Q (.bl (PyData.eqv dx dy)) H
def rNeD (K : PySem.W.Frag) : R2 := fun x y H Q => ∃ P dx dy, Dat K H P x dx ∧ Dat K H P y dy ∧ dx.canLay0 = true ∧ dy.canLay0 = true ∧ dx.depth ≤ 60 ∧ Q (.bl (!PyData.eqv dx dy)) H
theorem op_eqD (hu : X.A.units + 64 < cLine) : OpR X (compareOp .Eq) (rEqD X.K) := by
  intro pins s σ H x y v u Q I rx ry h
  obtain ⟨P, dx, dy, hx, hy, lx, ly, dd, q⟩ := h
  obtain ⟨as, qa⟩ := I.reads hx rx
  obtain ⟨bs, qb⟩ := I.reads hy ry
  exact SeqAt.compareEq_reads qa qb lx ly (by omega) ⟨.bl _, H, I, rfl, q⟩
theorem op_neD (hu : X.A.units + 64 < cLine) : OpR X (compareOp .NotEq) (rNeD X.K) := by
  intro pins s σ H x y v u Q I rx ry h
  obtain ⟨P, dx, dy, hx, hy, lx, ly, dd, q⟩ := h
  obtain ⟨as, qa⟩ := I.reads hx rx
  obtain ⟨bs, qb⟩ := I.reads hy ry
  exact SeqAt.compareNe_reads qa qb lx ly (by omega) ⟨.bl _, H, I, rfl, q⟩
def rRange : List V → Hp → VK → Prop := fun xs H Q => (∃ j, xs = [.int j] ∧ ∀ p, H p = none → Q (.ref p) (upd H p (.rng 0 j))) ∨ ∃ i j, xs = [.int i, .int j] ∧ ∀ p, H p = none → Q (.ref p) (upd H p (.rng i j))
theorem call_range : CallR X (.type "range") rRange := by
  intro pins s σ H xs us Q I r h
  rcases h with ⟨j, rfl, q⟩ | ⟨i, j, rfl, q⟩
  · obtain ⟨u, rfl, t, rfl⟩ := vals1 r
    refine call_range_1 ⟨.ref s.heap.objs.size, _, I.laid (o := .rng 0 j) (fun b o e => Heap.get?_push_of_some _ e) (Nat.le_refl _) ⟨_, _, _, Heap.get?_push_size _ rfl⟩, rfl, q _ (I.hok.fresh (Nat.le_refl _))⟩
  · obtain ⟨u, u', rfl, ⟨t, rfl⟩, ⟨t', rfl⟩⟩ := vals2 r
    refine call_range_2 ⟨.ref s.heap.objs.size, _, I.laid (o := .rng i j) (fun b o e => Heap.get?_push_of_some _ e) (Nat.le_refl _) ⟨_, _, _, Heap.get?_push_size _ rfl⟩, rfl, q _ (I.hok.fresh (Nat.le_refl _))⟩
def ivl (lo hi : Int) : List Int := (List.range (hi - lo).toNat).map fun (i : Nat) => lo + (i : Int)
theorem ivl_length (lo hi : Int) : (ivl lo hi).length = (hi - lo).toNat := by simp [ivl]
theorem items_ints {lo : Int} {n : Nat} {acc : Array Value} (h : ItemsOf (fun i v => ∃ t, v = .int (lo + i * 1) t) acc n) : Vals (((List.range n).map fun (i : Nat) => lo + (i : Int)).map V.int) acc.toList := by
  obtain ⟨h1, h2⟩ := h
  have key : ∀ (l : List Value) (k : Nat), (∀ (j : Nat) (v : Value), l[j]? = some v → ∃ t, v = Value.int (lo + ((k + j : Nat) : Int) * 1) t) → Vals ((List.range' k l.length).map fun (i : Nat) => V.int (lo + (i : Int))) l := by
    intro l
    induction l with
    | nil => intro k _; exact .nil
    | cons v r ih =>
      intro k hk
      rw [List.length_cons, List.range'_succ, List.map_cons]
      refine .cons ?_ (ih (k + 1) fun j v hj => ?_)
      · obtain ⟨t, e⟩ := hk 0 v rfl
        refine ⟨t, ?_⟩
        rw [e]; simp
      · obtain ⟨t, e⟩ := hk (j + 1) v (by simpa using hj)
        refine ⟨t, ?_⟩
        rw [e]
        congr 2
        simp
        omega
  have := key acc.toList 0 fun j v hj => by
    have := h2 j v (by simpa using hj)
    simpa using this
  rw [List.map_map]
  rw [List.range_eq_range']
  have e : acc.toList.length = n := by simpa using h1
  rw [e] at this
  exact this
theorem rng_size {i j : Int} : Builtin.Range.rangeSize i j 1 = (((j - i).toNat : Nat) : Int) := by
  rw [rangeSize_one]; split <;> omega
def rListRng : List V → Hp → VK → Prop := fun xs H Q => ∃ p i j, xs = [.ref p] ∧ H p = some (.rng i j) ∧ -1000000 ≤ i ∧ i ≤ 1000000 ∧ -1000000 ≤ j ∧ j ≤ 1000000 ∧ ∀ l, H l = none → Q (.ref l) (upd H l (.lst ((ivl i j).map V.int)))
theorem size_le {i j : Int} (h1 : -1000000 ≤ i) (h2 : i ≤ 1000000) (h3 : -1000000 ≤ j) (h4 : j ≤ 1000000) : (j - i).toNat ≤ 2 ^ 24 := by
  have : (j - i).toNat ≤ 2000000 := by omega
  exact Nat.le_trans this (by decide)
theorem call_list_rng (hc : X.calm = true) : CallR X (.type "list") rListRng := by
  intro pins s σ H xs us Q I r h
  obtain ⟨p, i, j, rfl, hp, h1, h2, h3, h4, q⟩ := h
  obtain ⟨u, rfl, rx⟩ := vals1 r
  cases rx
  obtain ⟨t, t', t'', e⟩ := (show ObjOk X.prog X.w H s.heap p (.rng i j) from I.hok p _ hp)
  refine call_list_range (I.ok.hd hc) e (small_one (by omega) (by omega) (by omega) (by omega)) rng_size (size_le h1 h2 h3 h4) fun h' tk acc' c' k e' it => ?_
  have v := items_ints it
  refine ⟨.ref s.heap.objs.size, _, I.laid (o := .lst ((ivl i j).map V.int)) k (Nat.le_refl _) ⟨?_, acc'.toList, c', v, by simpa using e'⟩, rfl, q _ (I.hok.fresh (Nat.le_refl _))⟩
  rw [List.length_map, ivl_length]
  exact Nat.le_trans (size_le h1 h2 h3 h4) (by decide)
end
end L2
namespace L2
open PySem PySem.Spec PyProof.Rows
section
variable {prog : Program} {w : World} {A : Around} {E : Value → Shared → Prop} {s : Shared}
theorem collect_range {Q : List Value → Shared → Prop} {r : Addr} {a b c : Int} {t u v : Tok} {n : Nat} (hh : A.handled = none) (hr : IsRange s.heap r a b c t u v) (hsmall : Builtin.Range.small a b c = true)
    (hn : Builtin.Range.rangeSize a b c = n) (hlen : n ≤ 2 ^ 24)
    (hQ : ∀ h' tk acc, (∀ b o, s.heap.get? b = some o → h'.get? b = some o) → ItemsOf (fun i v => ∃ t, v = .int (a + i * c) t) acc n → Q acc.toList { s with heap := h', toks := tk }) :
    wpAny (model prog w) A (collect (.ref r)) Q E s := by
  unfold collect
  refine wpAny_bind (wpAny_runValue (codeAny_builtin F.entry_proto_collect ?_))
  rw [Around.under_plainId F.plain_proto_collect _]
  show wpAny _ A.in1 (newList [] >>= fun l => again (.builtin "list.__iadd__" ⟨[l, .ref r], []⟩)) _ _ s
  refine wpAny_bind (wpAny_newObj_type ?_)
  refine wpAny_pure ⟨plainId_quiet F.plain_list_iadd _, codeAny_builtin F.entry_list_iadd ?_⟩
  rw [Around.under_plainId F.plain_list_iadd _]
  show wpAny _ A.in1 (Builtin.List.listExtendWith (.ref s.heap.objs.size) (.ref r) (.ref s.heap.objs.size)) _ _ _
  have hS : (s.heap.push { cls := .type "list", data := .seq ([] : List Value).toArray }).get? s.heap.objs.size = some { cls := .type "list", data := .seq #[] 0 } := Heap.get?_push_size _ rfl
  have fin' : ∀ (h' : Heap) (tk : Nat) (acc' : Array Value) (c' : Nat), (∀ b o, b ≠ s.heap.objs.size → (s.heap.push { cls := .type "list", data := .seq ([] : List Value).toArray }).get? b = some o → h'.get? b = some o) →
      h'.get? s.heap.objs.size = some { cls := .type "list", dict := none, data := .seq acc' c', slots := #[] } → ItemsOf (fun i v => ∃ t, v = .int (a + i * c) t) acc' n → wpAny (model prog w) A (match Value.ref s.heap.objs.size with
      | Value.ref a => do
        match (← load a).data with
          | Data.seq xs _ => pure xs.toList
          | _ => unsupported "internal:collect"
      | _ => unsupported "internal:collect") Q E { s with heap := h', toks := tk } := fun h' tk acc' c' hk hS' hacc => by
    show wpAny _ A (load s.heap.objs.size >>= _) _ _ _
    refine wpAny_bind (wpAny_load hS' ?_)
    exact wpAny_pure (hQ h' tk acc' (fun b o e => hk b o (Nat.ne_of_lt (Heap.lt_size e)) (Heap.get?_push_of_some _ e)) hacc)
  refine wpAny_mono (wpAny_extend_range (A := A) (R := fun r s' => r = .ok (.ret (.ref s.heap.objs.size)) ∧ wpAny (model prog w) A (match Value.ref s.heap.objs.size with
      | Value.ref a => do
        match (← load a).data with
          | Data.seq xs _ => pure xs.toList
          | _ => unsupported "internal:collect"
      | _ => unsupported "internal:collect") Q E s') (s := { s with heap := s.heap.push { cls := .type "list", data := .seq ([] : List Value).toArray } }) hh (Heap.get?_push_of_some _ hr) hsmall hn hlen _ (.ref s.heap.objs.size) 0 hS fun h' tk acc' c' hk hS' hacc => ⟨rfl, fin' h' tk acc' c' hk hS' hacc⟩) (fun fin s' h => ?_) (fun e s' h => ?_)
  · cases fin with
    | done f =>
      obtain ⟨e, q⟩ := h
      cases e
      exact q
    | again c' => exact ⟨h.1, codeAny_mono h.2 fun r s'' hr => by obtain ⟨rfl, q⟩ := hr; exact q⟩
  · exact absurd h.1 (by simp)
theorem meets_tuple_new_range {r : Addr} {a b c : Int} {t u v : Tok} {n : Nat} (hsmall : Builtin.Range.small a b c = true) (hn : Builtin.Range.rangeSize a b c = n) (hlen : n ≤ 2 ^ 24) :
    Meets (Builtin.«tuple.__new__» ⟨[.type "tuple", .ref r], []⟩)
      (fun A R s => A.handled = none ∧ IsRange s.heap r a b c t u v ∧ ∀ (h' : Heap) (tk : Nat) (acc : Array Value), (∀ b o, s.heap.get? b = some o → h'.get? b = some o) → ItemsOf (fun i v => ∃ t, v = .int (a + i * c) t) acc n →
        R (.ok (.ret (.ref h'.objs.size))) { s with heap := h'.push { cls := .type "tuple", data := .seq acc }, toks := tk }) :=
  .of_wp fun prog w A R s h => by
    obtain ⟨hp, g, d, tk, os⟩ := s
    obtain ⟨hh, hr, h⟩ := h
    have hsub := sub_tuple_self
    have hinit := init_tuple_lookup
    have hmh := madeHere_tuple
    have hT : Shared.TypeIs ⟨hp, g, d, tk, os⟩ (.ref r) "range" := ⟨_, hr, rfl⟩
    have hh1 : A.in1.handled = none := hh
    wp_walk using wpAny_typeOf hT, collect_range hh1 hr hsmall hn hlen
    intro h' tk acc hk hacc
    have hsz : acc.size ≤ sizeLine := by rw [hacc.1]; exact Nat.le_trans hlen (by decide)
    show wpAny _ _ (Builtin.Tuple.tupleExact acc.toList.toArray >>= fun v => ret v) _ _ _
    unfold Builtin.Tuple.tupleExact
    refine wpAny_bind (wpAny_newObj_type ?_ (show acc.toList.toArray.size ≤ sizeLine by simpa using hsz))
    refine wpAny_pure ⟨_, rfl, ?_⟩
    have e : acc.toList.toArray = acc := by simp
    rw [e]
    exact h h' tk acc hk hacc
theorem call_tuple_range {Q : Value → Shared → Prop} {r : Addr} {a b c : Int} {t u v : Tok} {n : Nat} (hh : A.handled = none) (hr : IsRange s.heap r a b c t u v) (hsmall : Builtin.Range.small a b c = true)
    (hn : Builtin.Range.rangeSize a b c = n) (hlen : n ≤ 2 ^ 24)
    (h : ∀ (h' : Heap) (tk : Nat) (acc : Array Value), (∀ b o, s.heap.get? b = some o → h'.get? b = some o) → ItemsOf (fun i v => ∃ t, v = .int (a + i * c) t) acc n → Q (.ref h'.objs.size) { s with heap := h'.push { cls := .type "tuple", data := .seq acc }, toks := tk }) :
    wpAny (model prog w) A (call (.type "tuple") [.ref r]) Q E s := by
  refine callType_new F.called_tuple (by decide) (F.typeCall_tuple_1 _) (F.newCall_tuple_1 _) (fun obj => F.args_object_init_2 obj _) F.entry_tuple_new
    (meets_tuple_new_range hsmall hn hlen) ⟨hh, hr, fun h' tk acc hk hacc => ⟨⟨_, Heap.get?_push_size _ rfl, rfl⟩, ?_⟩⟩
  exact h h' tk acc hk hacc
end
section
variable {X : Cx}
def rTupRng : List V → Hp → VK → Prop := fun xs H Q => ∃ p i j, xs = [.ref p] ∧ H p = some (.rng i j) ∧ -1000000 ≤ i ∧ i ≤ 1000000 ∧ -1000000 ≤ j ∧ j ≤ 1000000 ∧ ∀ l, H l = none → Q (.ref l) (upd H l (.tup ((ivl i j).map V.int)))
theorem call_tuple_rng (hc : X.calm = true) : CallR X (.type "tuple") rTupRng := by
  intro pins s σ H xs us Q I r h
  obtain ⟨p, i, j, rfl, hp, h1, h2, h3, h4, q⟩ := h
  obtain ⟨u, rfl, rx⟩ := vals1 r
  cases rx
  obtain ⟨t, t', t'', e⟩ := (show ObjOk X.prog X.w H s.heap p (.rng i j) from I.hok p _ hp)
  refine call_tuple_range (I.ok.hd hc) e (small_one (by omega) (by omega) (by omega) (by omega)) rng_size (size_le h1 h2 h3 h4) fun h' tk acc k it => ?_
  have v := items_ints it
  have I1 : Inv X pins σ H { s with heap := h', toks := tk } := I.kept k
  refine ⟨.ref h'.objs.size, _, I1.laid (t' := tk) (o := .tup ((ivl i j).map V.int)) (fun b o e => Heap.get?_push_of_some _ e) (Nat.le_refl _) ⟨?_, acc.toList, v, by simpa using IsTup.new h' acc⟩, rfl, q _ (I1.hok.fresh (Nat.le_refl _))⟩
  rw [List.length_map, ivl_length]
  exact Nat.le_trans (size_le h1 h2 h3 h4) (by decide)
def tyOfV (K : PySem.W.Frag) (x : V) (H : Hp) (T : String) : Prop := TyOf K H x (.type T)
def rIsi (K : PySem.W.Frag) : List V → Hp → VK → Prop := fun xs H Q => ∃ x T C b, xs = [x, .ty C] ∧ tyOfV K x H T ∧ PySem.W.kitOne K (.type T) (.type C) = some b ∧ Q (.bl b) H
theorem call_isi : CallR X (.builtin "isinstance") (rIsi X.K) := by
  intro pins s σ H xs us Q I r h
  obtain ⟨x, T, C, b, rfl, ty, e, q⟩ := h
  obtain ⟨u, w', rfl, rx, ry⟩ := vals2 r
  cases (show w' = Value.type C from ry)
  exact isinst_ok I rx ty e fun tk => ⟨.bl b, H, I.tok _, rfl, q⟩
theorem kit_self (K : PySem.W.Frag) (T : String) : PySem.W.kitOne K (.type T) (.type T) = some true := by
  unfold PySem.W.kitOne
  rw [if_pos (beq_self_eq_true _)]
theorem vals_bools : ∀ {bs : List Bool} {us : List Value}, Vals (bs.map V.bl) us → us = bs.map Value.bool
  | [], us, r => by cases r; rfl
  | b :: r, us, h => by
    cases h with
    | cons h1 h2 =>
      rw [List.map_cons, ← vals_bools h2]
      rw [show _ = Value.bool b from h1]
end
end L2
namespace L2
open PySem PySem.Spec PyProof.Rows
structure FnAt (P : Program) (w : World) (K : PySem.W.Frag) (mg : Str → Option Value) (base : Heap) (x : Str) (k : Nat) (ps : List Str) (sp : Sp) : Prop where
  ex : ∃ (f : Addr) (fd : FuncData), FnOk P w K mg base CX0 k f fd ps sp ∧ mg x = some (.ref f) ∧ PySem.W.keepIn K (.ref f) = true ∧ Binds K fd ps []
section
variable {X : Cx} {x : Str} {k : Nat} {ps : List Str} {sp : Sp} {e : Expr} {es : List Expr} {t : TA} {p pos : Pos}
theorem pe_callF (F : FnAt X.prog X.w X.K X.mg X.base x k ps sp) (hr : Room k X.A) (hg : Gl X x) (ha : PA X (e :: es) t) (hdb : (x == ("__debug__" : Str)) = false := by decide +kernel) (he : starEach (e :: es) X.env = (false, eval e X.env) :: starEach es X.env := by rfl) (hpl : (backTo pos (starEach es X.env)).any (·.1) = false := by rfl) :
    PE X (.Call (.Name x p) (e :: es) [] pos) (tCall sp [] E0 t) := by
  obtain ⟨f, fd, F, hm, hk, hb⟩ := F.ex
  exact pe_call F hr hg hm hk hb .nil pass0 ha hdb he hpl
def CDivL (i j : Int) : Prop := 0 < j ∧ j < 2 ^ 200
theorem log2_lt {j : Int} (h : 0 < j) (h2 : j < 2 ^ 200) : j.natAbs.log2 < 9000 := by
  have h3 : j.natAbs < 2 ^ 200 := by
    have e : ((j.natAbs : Nat) : Int) = j := Int.natAbs_of_nonneg (Int.le_of_lt h)
    have : ((j.natAbs : Nat) : Int) < ((2 ^ 200 : Nat) : Int) := by rw [e]; simpa using h2
    exact Int.ofNat_lt.mp this
  have h0 : j.natAbs ≠ 0 := by omega
  have := (Nat.log2_lt h0).mpr h3
  omega
theorem op_fdivL : OpR X (binaryOp .FloorDiv) (rI CDivL fun i j => .int (i / j)) := opI fun i j _ _ _ _ _ hc q => by
  refine floordiv_int (by have := hc.1; omega) ?_ (.inl (PyProof.noPylong_of_log2 (log2_lt hc.1 hc.2)))
  rw [Int.fdiv_eq_ediv_of_nonneg _ (Int.le_of_lt hc.1)]
  exact q
end
def capB (XN N : List Str) (ix : List (Option Nat)) (names : List (Str × NameKind)) : Bool :=
  (List.range ix.length).all fun j => match ix[j]? with
    | some (some i) => match N[j]? with
      | some x => XN[i]? == some x && names.lookup x == some .free
      | none => false
    | _ => true
theorem cap_ok {XN N : List Str} {ix : List (Option Nat)} {names : List (Str × NameKind)} (h : capB XN N ix names = true) :
    ∀ (j i : Nat), ix[j]? = some (some i) → ∃ x : Str, N[j]? = some x ∧ XN[i]? = some x ∧ names.lookup x = some .free ∧ (x, NameKind.free) ∈ names := by
  intro j i e
  have hj : j < ix.length := (List.getElem?_eq_some_iff.mp e).1
  have q := List.all_eq_true.mp h j (List.mem_range.mpr hj)
  rw [e] at q
  dsimp only at q
  cases hn : N[j]? with
  | none => rw [hn] at q; cases q
  | some x =>
    rw [hn] at q
    dsimp only at q
    obtain ⟨q1, q2⟩ := Bool.and_eq_true_iff.mp q
    have q1 : XN[i]? = some x := by simpa using q1
    have q2 : names.lookup x = some NameKind.free := by
      cases hl : names.lookup x with
      | none => rw [hl] at q2; cases q2
      | some k => rw [hl] at q2; cases k <;> first | rfl | cases q2
    exact ⟨x, rfl, q1, q2, mem_of_lookup q2⟩
def SameX (p : Addr) (H H' : Hp) : Prop := ∀ b o, b ≠ p → H b = some o → H' b = some o
theorem SameX.refl (p : Addr) (H : Hp) : SameX p H H := fun _ _ _ h => h
theorem SameX.trans {p : Addr} {H H1 H2 : Hp} (a : SameX p H H1) (b : SameX p H1 H2) : SameX p H H2 := fun c o n h => b c o n (a c o n h)
theorem Same.x {p : Addr} {H H' : Hp} (a : Same H H') : SameX p H H' := fun c o _ h => a c o h
theorem SameX.upd {p : Addr} {H : Hp} {o : HO} : SameX p H (upd H p o) := fun c o n h => by rw [upd_ne n]; exact h
theorem Same.new {p : Addr} {H : Hp} {o : HO} (h : H p = none) : Same H (upd H p o) := fun c o e => by rw [upd_ne (ne_of_none e h)]; exact e
theorem SameX.new {p q : Addr} {H : Hp} {o : HO} (h : H q = none) : SameX p H (L2.upd H q o) := (Same.new h).x
end L2
namespace L2
open PySem PySem.Spec PyProof.Rows
def compB (XS : List (Str × NameKind)) (XN : List Str) (names : List (Str × NameKind)) (N : List Str) (ix : List (Option Nat)) : Bool :=
  names.all (fun y => match y.2 with
    | .cell => false
    | .local => (match names.lookup y.1 with | some .local => true | _ => false)
    | .free => (match XS.lookup y.1 with | some .cell => true | some .free => true | _ => false)
    | _ => true) && decide (ix.length = N.length) && capB XN N ix names
theorem comp_ok {X : Cx} {scope : Scope} {N : List Str} {ix : List (Option Nat)} (hk : scope.kind = .function) (h : compB X.env.scope.names X.N scope.names N ix = true) : CompOk X scope N ix := by
  unfold compB at h
  obtain ⟨h, h3⟩ := Bool.and_eq_true_iff.mp h
  obtain ⟨h1, h2⟩ := Bool.and_eq_true_iff.mp h
  have all : ∀ y ∈ scope.names, _ := fun y hy => List.all_eq_true.mp h1 y hy
  refine ⟨hk, fun y hy e => ?_, of_decide_eq_true h2, fun y hy e => ?_, fun y hy e => ?_, cap_ok h3⟩
  · have q := all y hy
    rw [e] at q
    cases q
  · have q := all y hy
    rw [e] at q
    dsimp only at q
    cases hl : scope.names.lookup y.1 with
    | none => rw [hl] at q; cases q
    | some k => rw [hl] at q; cases k <;> first | rfl | cases q
  · have q := all y hy
    rw [e] at q
    dsimp only at q
    show X.env.scope.names.lookup y.1 = _ ∨ X.env.scope.names.lookup y.1 = _
    cases hl : X.env.scope.names.lookup y.1 with
    | none => rw [hl] at q; cases q
    | some k => rw [hl] at q; cases k <;> first | exact .inl rfl | exact .inr rfl | cases q
section
variable {X : Cx} {K : PySem.W.Frag}
theorem call_isiK (h : X.K = K) : CallR X (.builtin "isinstance") (rIsi K) := by subst h; exact call_isi
theorem ix_listK (h : X.K = K) : IxR X (rIxL K) := by subst h; exact ix_list
theorem ix_tupK (h : X.K = K) : IxR X (rIxT K) := by subst h; exact ix_tup
theorem call_lenK (h : X.K = K) : CallR X (.builtin "len") (fun xs H Q => ∃ p ys, xs = [.ref p] ∧ (SqL K H p ys ∨ SqT K H p ys) ∧ Q (.int ys.length) H) := by subst h; exact call_len_seq
theorem op_inK (h : X.K = K) : OpR X (compareOp .In) (rIn K false) := by subst h; exact op_in_seq
theorem op_notInK (h : X.K = K) : OpR X (compareOp .NotIn) (rIn K true) := by subst h; exact op_notIn_seq
theorem pi_listK {tg l : Expr} {tl : TE} (h : X.K = K) (hl : PE X l tl) : PI X tg l (iList K tl) := by subst h; exact pi_list hl
theorem pg_tupK {es : List Expr} {k : Nat} {t : TGs} {n : Nat} {pos : Pos} (hk : X.K = K) (hc : X.calm = true) (h : PGs X es t)
    (hn : (assignEach es X.env).length = n := by rfl) (hst : (assignEach es X.env).findIdx? (·.1) = none := by rfl) : PG X (.Tuple es k pos) (gTup K n t) := by subst hk; exact pg_tup hc h hn hst
end
end L2
namespace Sw
open PySem L2
inductive Exs (H : Hp) : List V → List (Int × Int) → Prop
  | nil : Exs H [] []
  | cons {t : Addr} {a b : Int} {vs : List V} {r : List (Int × Int)} : H t = some (.tup [.int a, .int b]) → Exs H vs r → Exs H (.ref t :: vs) ((a, b) :: r)
theorem Exs.length {H : Hp} : ∀ {vs : List V} {r : List (Int × Int)}, Exs H vs r → vs.length = r.length
  | _, _, .nil => rfl
  | _, _, .cons _ x => by rw [List.length_cons, List.length_cons, x.length]
theorem Exs.append {H : Hp} : ∀ {vs ws : List V} {r q : List (Int × Int)}, Exs H vs r → Exs H ws q → Exs H (vs ++ ws) (r ++ q)
  | _, _, _, _, .nil, y => y
  | _, _, _, _, .cons h x, y => .cons h (x.append y)
theorem ints_dat {K : PySem.W.Frag} {H : Hp} {P : Addr → Prop} : ∀ (ns : List Int), DatAll K H P (ns.map V.int) (ns.map PyData.int)
  | [] => .nil
  | n :: r => .cons (.int n) (ints_dat r)
theorem lay_ints : ∀ (ns : List Int), PyData.canLayAll0 (ns.map PyData.int) = true
  | [] => rfl
  | n :: r => by rw [List.map_cons]; unfold PyData.canLayAll0; rw [lay_ints r]; rfl
theorem depth_ints : ∀ (ns : List Int), PyData.depthAll (ns.map PyData.int) = 0
  | [] => by simp [PyData.depthAll]
  | n :: r => by rw [List.map_cons]; unfold PyData.depthAll; rw [depth_ints r]; simp [PyData.depth]
theorem eqv_ints : ∀ (ns ms : List Int), PyData.eqvAll (ns.map PyData.int) (ms.map PyData.int) = decide (ns = ms)
  | [], [] => by simp [PyData.eqvAll]
  | [], m :: r => by simp [PyData.eqvAll]
  | n :: r, [] => by simp [PyData.eqvAll]
  | n :: r, m :: q => by
    rw [List.map_cons, List.map_cons]; unfold PyData.eqvAll; rw [eqv_ints r q]
    simp [PyData.eqv]
    by_cases h1 : n = m <;> by_cases h2 : r = q <;> simp [h1, h2]
def swp (x : Int) (e : Int × Int) : Int := if x = e.1 then e.2 else if x = e.2 then e.1 else x
def go (row : List (Int × Int)) (x : Int) : Int := row.foldl swp x
def Good (n : Int) (row : List (Int × Int)) : Prop := ∀ e ∈ row, 1 ≤ e.1 ∧ e.1 < e.2 ∧ e.2 ≤ n
theorem Good.append {n : Int} {r q : List (Int × Int)} (a : Good n r) (b : Good n q) : Good n (r ++ q) := fun e h => (List.mem_append.mp h).elim (a e) (b e)
theorem mem_ivl {lo hi x : Int} : x ∈ ivl lo hi ↔ lo ≤ x ∧ x < hi := by
  unfold ivl
  rw [List.mem_map]
  constructor
  · rintro ⟨i, h, rfl⟩
    have := List.mem_range.mp h
    omega
  · intro h
    exact ⟨(x - lo).toNat, List.mem_range.mpr (by omega), by omega⟩
theorem get_ivl {lo hi : Int} {i : Nat} (h : i < (hi - lo).toNat) : (ivl lo hi)[i]? = some (lo + i) := by
  unfold ivl
  rw [List.getElem?_map, List.getElem?_range h]
  rfl
end Sw
namespace L2
open PySem PySem.Spec PyProof.Rows
section
variable {X : Cx} {pins : List (Addr × Obj)} {σ : St} {H : Hp} {s : Shared} {h' : Heap}
theorem Inv.turnedL {t' : Nat} {fp : List Addr} (I : Inv X pins σ H s) (k : ∀ b o, b ∉ fp → s.heap.get? b = some o → h'.get? b = some o) (hf : ∀ b ∈ fp, FpOk X pins H b) : Inv X pins σ H { s with heap := h', toks := t' } := by
  have nit : ∀ b u, H b = some u → b ∉ fp := fun b u e z => by rw [(hf b z).1] at e; cases e
  refine I.step (g' := s.gens) (d' := s.drawn) (ch := fp) (fun b hb => ?_) (fun b o _ _ hc e _ => k b o hc e) (fun b o _ _ hc e _ => ⟨o.slots, k b o hc e⟩) (fun _ _ _ _ n => n)
    (fun b o hc e => ⟨o, k b o hc e⟩) (fun _ _ e => e) (fun _ _ _ e => e) (fun b ps e => ⟨#[], by rw [e]; simp⟩) (fun m hm => ?_) (fun b u e => ?_) I.bare
  · obtain ⟨f0, f1, f2, f3, f4, f5⟩ := hf b hb
    exact ⟨f3, f1, f4, f5⟩
  · obtain ⟨o, es, ep, ho, r⟩ := hm
    exact ⟨o, es, ep, k _ o (fun z => (hf _ z).2.1 rfl) ho, r⟩
  · refine (I.hok b u e).stay (fun c v hc q => k c v ?_ q) (fun _ q => q) fun _ _ q => q
    rcases hc with z | z
    · rw [z]; exact nit b u e
    · exact nit c _ z
theorem Inv.track {T : Addr} {o : HO} (I : Inv X pins σ H s) (hf : FpOk X pins H T) (new : ObjOk X.prog X.w (upd H T o) s.heap T o) : Inv X pins σ (upd H T o) s := by
  obtain ⟨f0, f1, f2, f3, f4, f5⟩ := hf
  have := I.step (h' := s.heap) (H' := upd H T o) (g' := s.gens) (d' := s.drawn) (t' := s.toks) (ch := [T]) (fun b hb => by
    have e : b = T := by simpa using hb
    subst e
    exact ⟨f3, f1, f4, f5⟩) (fun b o _ _ _ e _ => e) (fun b o _ _ _ e _ => ⟨o.slots, e⟩) (fun b o hc _ n => by rw [upd_ne (fun z => hc (by simp [z]))]; exact n)
    (fun b o _ e => ⟨o, e⟩) (fun b xs e => by rw [upd_ne (ne_of_none e f0)]; exact e) (fun b o u e => by rw [upd_ne (ne_of_none e f0)]; exact e) (fun b ps e => ⟨#[], by rw [upd_ne (ne_of_none e f0), e]; simp⟩) (fun m hm => hm) (fun b u e => ?_) I.bare
  · exact this
  · by_cases hb : b = T
    · subst hb
      rw [upd_same] at e
      cases e
      exact new
    · rw [upd_ne hb] at e
      refine (I.hok b u e).stay (fun _ _ _ q => q) (fun c q => ?_) fun c xs q => ?_
      · rw [upd_ne (ne_of_none q f0)]; exact q
      · rw [upd_ne (ne_of_none q f0)]; exact q
end
end L2
namespace L2
open PySem PySem.Spec PyProof.Rows
theorem comp_by {ix : List (Option Nat)} {g : TG} {tc : TT} {te : TE} {σ : St} {Q : VK} {J : It} {H : Hp} {n : Nat} (Pv : Nat → List V → St → Hp → Prop) (hn : n ≤ 1000000) (h0 : Pv 0 [] (startC ix σ) H)
    (hgo : ∀ i ys σ H, i < n → Pv i ys σ H → J.go i H) (hst : ∀ ys σ H, Pv n ys σ H → J.stop n H) (hlen : ∀ i ys σ H, Pv i ys σ H → ys.length ≤ i)
    (hs : ∀ i ys σ H x H2 (R : St → List V → Hp → Prop), i < n → Pv i ys σ H → J.yld i H x H2 → (∀ σ2 ys2 H5, Pv (i + 1) ys2 σ2 H5 → R σ2 ys2 H5) →
      g x σ H2 fun σ2 H3 => tc σ2 H3 fun b H4 => if b = true then te σ2 H4 fun v H5 => R σ2 (ys ++ [v]) H5 else R σ2 ys H4)
    (hd : ∀ ys σ' H' p, Pv n ys σ' H' → H' p = none → Q (.ref p) (upd H' p (.lst ys))) : rComp ix g tc te σ Q J H := by
  have big : (1000000 : Nat) < sizeLine := by decide
  refine ⟨fun i m ys σ' H' => m = n - i ∧ i ≤ n ∧ Pv i ys σ' H', ⟨n, by simp, Nat.zero_le _, h0⟩, ?_⟩
  rintro i m ys σ' H' ⟨rfl, hi, p⟩
  have hl := hlen i ys σ' H' p
  by_cases hlt : i < n
  · refine .inr ⟨hgo i ys σ' H' hlt p, by omega, fun x H2 y => ?_⟩
    exact hs i ys σ' H' x H2 (fun σ2 ys2 H5 => ∃ m', m' < n - i ∧ (m' = n - (i + 1) ∧ i + 1 ≤ n ∧ Pv (i + 1) ys2 σ2 H5)) hlt p y fun σ2 ys2 H5 q => ⟨n - (i + 1), by omega, rfl, hlt, q⟩
  · have e : i = n := by omega
    subst e
    exact .inl ⟨hst ys σ' H' p, by omega, fun q hq => hd ys σ' H' q p hq⟩
theorem compL {K : PySem.W.Frag} {ix : List (Option Nat)} {te : TE} {σ : St} {Q : VK} {H : Hp} {a : Addr} {xs : List V} {k : Nat} (Pv : Nat → List V → St → Hp → Prop) (hn : xs.length ≤ 1000000) (h0 : Pv 0 [] (startC ix σ) H)
    (hl : ∀ i ys σ H, i ≤ xs.length → Pv i ys σ H → SqL K H a xs) (hlen : ∀ i ys σ H, Pv i ys σ H → ys.length ≤ i)
    (hs : ∀ i ys σ H x (R : St → List V → Hp → Prop), xs[i]? = some x → Pv i ys σ H → (∀ σ2 ys2 H5, Pv (i + 1) ys2 σ2 H5 → R σ2 ys2 H5) → te (σ.set k (some x)) H fun v H5 => R (σ.set k (some x)) (ys ++ [v]) H5)
    (hd : ∀ ys σ' H' p, Pv xs.length ys σ' H' → H' p = none → Q (.ref p) (upd H' p (.lst ys))) : rComp ix (gName k) tTrue te σ Q (Itl K a) H := by
  refine comp_by Pv hn h0 (fun i ys σ H hi p => ⟨xs, xs[i], hl i ys σ H (Nat.le_of_lt hi) p, by simp [hi]⟩) (fun ys σ H p => ⟨xs, hl _ ys σ H (Nat.le_refl _) p, Nat.le_refl _⟩) hlen (fun i ys σ H x H2 R hi p y r => ?_) hd
  obtain ⟨rfl, y⟩ := y
  unfold gName tTrue
  simp only [if_true]
  exact hs i ys σ _ x R (y xs (hl i ys σ _ (Nat.le_of_lt hi) p)) p r
theorem compR {ix : List (Option Nat)} {te : TE} {σ : St} {Q : VK} {H : Hp} {lo : Int} {n : Nat} {k : Nat} (Pv : Nat → List V → St → Hp → Prop) (hn : n ≤ 1000000) (h0 : Pv 0 [] (startC ix σ) H) (hlen : ∀ i ys σ H, Pv i ys σ H → ys.length ≤ i)
    (hs : ∀ i ys σ H (R : St → List V → Hp → Prop), i < n → Pv i ys σ H → (∀ σ2 ys2 H5, Pv (i + 1) ys2 σ2 H5 → R σ2 ys2 H5) → te (σ.set k (some (.int (lo + i)))) H fun v H5 => R (σ.set k (some (.int (lo + i)))) (ys ++ [v]) H5)
    (hd : ∀ ys σ' H' p, Pv n ys σ' H' → H' p = none → Q (.ref p) (upd H' p (.lst ys))) : rComp ix (gName k) tTrue te σ Q (Itr lo n) H := by
  refine comp_by Pv hn h0 (fun i ys σ H hi p => hi) (fun ys σ H p => Nat.le_refl _) hlen (fun i ys σ H x H2 R hi p y r => ?_) hd
  obtain ⟨rfl, rfl⟩ := y
  unfold gName tTrue
  simp only [if_true]
  exact hs i ys σ _ R hi p r
theorem compLif {K : PySem.W.Frag} {ix : List (Option Nat)} {tc : TT} {te : TE} {σ : St} {Q : VK} {H : Hp} {a : Addr} {xs : List V} {k : Nat} (Pv : Nat → List V → St → Hp → Prop) (hn : xs.length ≤ 1000000) (h0 : Pv 0 [] (startC ix σ) H)
    (hl : ∀ i ys σ H, i ≤ xs.length → Pv i ys σ H → SqL K H a xs) (hlen : ∀ i ys σ H, Pv i ys σ H → ys.length ≤ i)
    (hs : ∀ i ys σ H x (R : St → List V → Hp → Prop), xs[i]? = some x → Pv i ys σ H → (∀ σ2 ys2 H5, Pv (i + 1) ys2 σ2 H5 → R σ2 ys2 H5) →
      tc (σ.set k (some x)) H fun b H4 => if b = true then te (σ.set k (some x)) H4 fun v H5 => R (σ.set k (some x)) (ys ++ [v]) H5 else R (σ.set k (some x)) ys H4)
    (hd : ∀ ys σ' H' p, Pv xs.length ys σ' H' → H' p = none → Q (.ref p) (upd H' p (.lst ys))) : rComp ix (gName k) tc te σ Q (Itl K a) H := by
  refine comp_by Pv hn h0 (fun i ys σ H hi p => ⟨xs, xs[i], hl i ys σ H (Nat.le_of_lt hi) p, by simp [hi]⟩) (fun ys σ H p => ⟨xs, hl _ ys σ H (Nat.le_refl _) p, Nat.le_refl _⟩) hlen (fun i ys σ H x H2 R hi p y r => ?_) hd
  obtain ⟨rfl, y⟩ := y
  unfold gName
  exact hs i ys σ _ x R (y xs (hl i ys σ _ (Nat.le_of_lt hi) p)) p r
section
variable {X : Cx} {K : PySem.W.Frag} {o e : Expr} {es : List Expr} {to : TE} {t : TA} {name : Str} {apos cpos : Pos} {T id : String} {r : V → List V → Hp → VK → Prop}
theorem pe_bm0K (h : X.K = K) (pa : PlainAttrs T) (slot : Slot T name id) (hty : typeOf (.builtin id) = pure (.type "method_descriptor")) (hm : MtR X id r) (ho : PE X o to)
    (hbase : attributeBase o name X.env (eval o X.env) = eval o X.env := by rfl) (hline : (apos.endLine == cpos.line) = true := by rfl) : PE X (.Call (.Attribute o name apos) [] [] cpos) (tBM0 K T r to) := by
  subst h; exact pe_bm0 pa slot hty hm ho hbase hline
theorem pe_bmK (h : X.K = K) (pa : PlainAttrs T) (slot : Slot T name id) (hty : typeOf (.builtin id) = pure (.type "method_descriptor")) (hm : MtR X id r) (ho : PE X o to) (ha : PA X (e :: es) t)
    (hbase : attributeBase o name X.env (eval o X.env) = eval o X.env := by rfl)
    (hfew : ((backTo cpos (starEach (e :: es) X.env)).all (fun x => !x.1) && (backToKw cpos (keywordEach [] X.env)).all (fun x => x.1.isSome)
      && decide ((e :: es).length + ([] : List Keyword).length + (if ([] : List Keyword).isEmpty then 0 else 1) < 30)) = true := by rfl)
    (hline : (apos.endLine == cpos.line) = true := by rfl) (hs : starEach (e :: es) X.env = (false, eval e X.env) :: starEach es X.env := by rfl) (hplain : (backTo cpos (starEach es X.env)).any (·.1) = false := by rfl) :
    PE X (.Call (.Attribute o name apos) (e :: es) [] cpos) (tBM K T r to t) := by
  subst h; exact pe_bm pa slot hty hm ho ha hbase hfew hline hs hplain
theorem sl_listK (h : X.K = K) : SlR X (rSlL K) := by subst h; exact sl_list
end
end L2
namespace Sw
open PySem L2
theorem ivl_nodup (a b : Int) : (ivl a b).Nodup := by
  unfold ivl
  refine List.Pairwise.map _ ?_ (List.nodup_range (n := (b - a).toNat))
  intro x y h z
  apply h
  omega
def Ord (n : Int) (xs : List Int) : Prop := xs.Perm (ivl 1 (n + 1))
theorem Ord.length {n : Int} {xs : List Int} (o : Ord n xs) : xs.length = n.toNat := by
  rw [List.Perm.length_eq o, ivl_length]; congr 1; omega
theorem Ord.mem {n : Int} {xs : List Int} (o : Ord n xs) {x : Int} : x ∈ xs ↔ 1 ≤ x ∧ x ≤ n := by
  rw [List.Perm.mem_iff o, mem_ivl]; omega
theorem Ord.nodup {n : Int} {xs : List Int} (o : Ord n xs) : xs.Nodup := (List.Perm.nodup_iff o).mpr (ivl_nodup _ _)
theorem erase_perm {α : Type} : ∀ {l : List α} {k : Nat} {y : α}, l[k]? = some y → (y :: l.eraseIdx k).Perm l
  | [], _, _, h => by simp at h
  | a :: l, 0, y, h => by simp at h; subst h; exact List.Perm.refl _
  | a :: l, k + 1, y, h => by
    have q := erase_perm (l := l) (k := k) (y := y) (by simpa using h)
    rw [List.eraseIdx_cons_succ]
    exact (List.Perm.swap a y _).trans (q.cons a)
theorem pop_perm {n : Int} {fs ls : List Int} {k : Nat} {y : Int} (o : Ord n (fs ++ ls)) (h : ls[k]? = some y) : Ord n ((fs ++ [y]) ++ ls.eraseIdx k) := by
  unfold Ord at *
  rw [List.append_assoc, List.singleton_append]
  exact ((erase_perm h).append_left fs).trans o
theorem swap_perm {n : Int} {ls : List Int} {i j : Nat} {x y : Int} (o : Ord n ls) (hi : ls[i]? = some x) (hj : ls[j]? = some y) : Ord n ((ls.set i y).set j x) := by
  obtain ⟨h1, rfl⟩ := List.getElem?_eq_some_iff.mp hi
  obtain ⟨h2, rfl⟩ := List.getElem?_eq_some_iff.mp hj
  exact (List.set_set_perm h1 h2).trans o
def nxt (xs : List Int) (x : Int) : Int := xs.getD ((xs.idxOf x + 1) % xs.length) 0
theorem nxt_at {xs : List Int} (nd : xs.Nodup) {j : Nat} {x : Int} (h : xs[j]? = some x) : nxt xs x = xs.getD ((j + 1) % xs.length) 0 := by
  obtain ⟨h1, rfl⟩ := List.getElem?_eq_some_iff.mp h
  unfold nxt
  rw [List.Nodup.idxOf_getElem nd]
theorem nxt_map {xs : List Int} (nd : xs.Nodup) : (xs.map (nxt xs)).Perm xs := by
  match xs, nd with
  | [], _ => exact List.Perm.refl _
  | y :: t, nd =>
    have e : (y :: t).map (nxt (y :: t)) = t ++ [y] := by
      apply List.ext_getElem?
      intro j
      rw [List.getElem?_map]
      by_cases hj : j < (y :: t).length
      · have h : (y :: t)[j]? = some (y :: t)[j] := List.getElem?_eq_getElem hj
        rw [h, Option.map_some, nxt_at nd h]
        by_cases h2 : j + 1 < (y :: t).length
        · rw [Nat.mod_eq_of_lt h2]
          have : j < t.length := by simpa using h2
          rw [List.getElem?_append_left this]
          simp [List.getD_eq_getElem?_getD, this]
        · have e2 : j + 1 = (y :: t).length := by omega
          rw [e2, Nat.mod_self]
          have : j = t.length := by simpa using e2
          subst this
          simp
      · rw [List.getElem?_eq_none (by omega), List.getElem?_eq_none (by simp; simp at hj; omega)]
        rfl
    rw [e]
    exact List.perm_append_comm (l₁ := t) (l₂ := [y])
theorem nxt_ord {n : Int} {xs : List Int} (o : Ord n xs) : Ord n ((ivl 1 (n + 1)).map (nxt xs)) :=
  ((List.Perm.map (nxt xs) (List.Perm.symm o)).trans (nxt_map o.nodup)).trans o
theorem ord_plain (n : Int) : Ord n (ivl 1 (n + 1)) := List.Perm.refl _
theorem idx_of {xs : List Int} {x : Int} (h : x ∈ xs) : ∃ j, xs[j]? = some x ∧ j < xs.length := by
  obtain ⟨j, hj, e⟩ := List.mem_iff_getElem.mp h
  exact ⟨j, by rw [List.getElem?_eq_getElem hj, e], hj⟩
end Sw
namespace L2
open PySem PySem.Spec PyProof.Rows
section
variable {X : Cx} {K : PySem.W.Frag}
theorem vals_toks : ∀ {ns : List Int} {us : List Value}, Vals (ns.map V.int) us → ∃ xs : List (Int × Tok), us = xs.map (fun p => Value.int p.1 p.2) ∧ xs.map (·.1) = ns
  | [], us, r => by cases r; exact ⟨[], rfl, rfl⟩
  | n :: ns, us, r => by
    cases r with
    | cons r1 r2 =>
      obtain ⟨t, rfl⟩ := r1
      obtain ⟨xs, rfl, e⟩ := vals_toks r2
      exact ⟨(n, t) :: xs, rfl, by rw [List.map_cons, e]⟩
def rMinL (K : PySem.W.Frag) : List V → Hp → VK → Prop := fun xs H Q => ∃ (p : Addr) (ns : List Int) (M : Int), xs = [.ref p] ∧ SqL K H p (ns.map V.int) ∧ M ∈ ns ∧ (∀ a ∈ ns, M ≤ a) ∧ Q (.int M) H
theorem call_minL (hc : X.calm = true) (hK : X.K = K) : CallR X (.builtin "min") (rMinL K) := by
  subst hK
  intro pins s σ H xs us Q I r h
  obtain ⟨p, ns, M, rfl, hl, hM, hm, q⟩ := h
  obtain ⟨u, rfl, rx⟩ := vals1 r
  cases rx
  obtain ⟨its, rv, pl, hz⟩ := I.list hl
  obtain ⟨xs, rfl, e⟩ := vals_toks rv
  have hpos : 0 < xs.length := by
    rw [← List.length_map (f := (·.1)), e]
    exact List.length_pos_of_mem hM
  refine min_intList (l := p) (xs := xs.toArray) (I.ok.hd hc) ?_ (by simpa using hpos) fun v h' tk hv hk => ?_
  · have := pl.isList
    unfold intItems
    simpa using this
  · have num : ∀ i, numAt xs.toArray i = ns.getD i 0 := by
      intro i
      unfold numAt
      rw [List.getElem?_toArray, ← e, List.getD_eq_getElem?_getD, List.getElem?_map]
    obtain ⟨b1, b2⟩ := argBest_lt (numAt xs.toArray) (xs.toArray.size - 1)
    generalize argBest (fun i j => decide (numAt xs.toArray i < numAt xs.toArray j)) (xs.toArray.size - 1) = k at b1 b2 hv
    have lk : k < xs.length := by simp at b1; omega
    have hv' : v = Value.int xs[k].1 xs[k].2 := by
      unfold intItems at hv
      simp at hv
      rw [List.getElem?_eq_getElem lk] at hv
      obtain ⟨a, b, h1, h2⟩ := hv
      have h1 := Option.some.inj h1
      rw [h1]
      exact h2.symm
    subst hv'
    have lx : xs.length = ns.length := by rw [← e, List.length_map]
    have ek : xs[k].1 = ns[k] := by
      have : (xs.map (·.1))[k]'(by rw [List.length_map]; exact lk) = ns[k] := by simp only [e]
      simpa using this
    have eM : xs[k].1 = M := by
      rw [ek]
      refine Int.le_antisymm ?_ (hm _ (List.getElem_mem _))
      obtain ⟨j, hj, ej⟩ := List.mem_iff_getElem.mp hM
      have := b2 j (by simp; omega)
      rw [num, num] at this
      rw [← ej]
      rw [List.getD_eq_getElem?_getD, List.getElem?_eq_getElem (by omega), List.getD_eq_getElem?_getD, List.getElem?_eq_getElem hj] at this
      exact this
    rw [eM]
    refine ⟨.int M, H, ?_, ⟨_, rfl⟩, q⟩
    exact (I.kept (t' := s.toks) (h' := h') fun b o e => hk b o e).tok tk
end
end L2
namespace L2
open PySem PySem.Spec PyProof.Rows
section
variable {X : Cx} {K : PySem.W.Frag}
theorem ints_are : ∀ {ns : List Int} {us : List Value}, Vals (ns.map V.int) us → IntsAre us ns
  | [], us, r => by cases r; exact .nil
  | n :: ns, us, r => by
    cases r with
    | cons r1 r2 =>
      obtain ⟨t, rfl⟩ := r1
      exact .cons n t (ints_are r2)
end
def Ite0 (K : PySem.W.Frag) (a : Addr) (xs : List V) : It :=
  ⟨fun i H => i < xs.length ∧ SqL K H a xs, fun i H x H' => ∃ t v, H t = none ∧ x = .ref t ∧ xs[i]? = some v ∧ H' = upd H t (.tup [.int (i : Int), v]), fun i H => i = xs.length ∧ SqL K H a xs⟩
theorem turn_enum0 {P : Program} {w : World} {K : PySem.W.Frag} {elts : List Expr} {k : Nat} {pos : Pos} (a e it : Addr) (xs : List V) (hei : e ≠ it) (hae : a ≠ e) (hai : a ≠ it) :
    Turn P w K (.Tuple elts k pos) (Ite0 K a xs) [e, it] e (fun i h => (∃ old, IsEnum h e it (i : Int) old) ∧ h.IsListIter it a i) where
  mem := by simp
  obj := fun i h st b hb => by
    obtain ⟨⟨old, he⟩, ⟨o, e2, c, d⟩⟩ := st
    rcases List.mem_cons.mp hb with z | z
    · subst z
      exact ⟨_, he, fun v z => by cases z⟩
    · have z : b = it := by simpa using z
      subst z
      exact ⟨o, e2, fun v z => by rw [d] at z; cases z⟩
  keep := fun i h h' st kk => ⟨by obtain ⟨⟨old, he⟩, _⟩ := st; exact ⟨old, kk e (by simp) _ he⟩, st.2.at fun o q => kk it (by simp) o q⟩
  item := by
    intro X hP hw hK hc i pins s σ H E I hf st hg
    subst hP hw hK
    obtain ⟨hi, hq⟩ := hg
    obtain ⟨its, rv, ht, hz⟩ := I.list hq
    have hl := rv.length
    obtain ⟨⟨old, he⟩, hit⟩ := st
    have W := WalksT.enumerate (prog := X.prog) (w := X.w) (A := X.A) (I.ok.hd hc) e it a hei hae hai its.toArray
    refine W.item i s _ _ (by simp; omega) ⟨⟨old, he⟩, hit, ht.isList⟩ fun T vals h' tk hPt hsz hT hMid hk => ?_
    obtain ⟨t, x, hx, rfl⟩ := hPt
    obtain ⟨v, hv, rvx⟩ : ∃ v, xs[i]? = some v ∧ RelV v x := by
      rw [List.getElem?_eq_getElem hi]
      obtain ⟨u, hu, ru⟩ := rv.get (List.getElem?_eq_getElem hi)
      have : its[i]? = some x := by simpa using hx
      rw [this] at hu
      cases hu
      exact ⟨_, rfl, ru⟩
    refine ⟨.ref T, rfl, W.go elts k pos i T _ _ _ hMid fun h'' hSt hk'' => ?_⟩
    have hTe := hMid.2.2.2.1
    have hTi := hMid.2.2.2.2
    have I1 : Inv X pins σ H { s with heap := h'', toks := tk } := I.turnedL (fp := [e, it]) (fun b o hb q => hk'' b o hb (hk b o hb q)) hf
    have fT : FpOk X pins H T := I.fpOk hsz (I.hok.fresh hsz)
    have hT' : IsTup h'' T #[.int (i : Int) t, x] := by
      obtain ⟨o, e1, e2, e3⟩ := hT
      exact ⟨o, hk'' T o (by simp; exact ⟨hTe, hTi⟩) e1, e2, e3⟩
    obtain ⟨⟨old', he'⟩, hit2, _⟩ := hSt
    refine ⟨.ref T, upd H T (.tup [.int (i : Int), v]), I1.track fT ⟨(by show 2 ≤ sizeLine; decide), [.int (i : Int) t, x], .cons ⟨t, rfl⟩ (.cons rvx .nil), hT'⟩, rfl, ⟨T, v, fT.1, rfl, hv, rfl⟩, ⟨⟨old', he'⟩, hit2⟩, fun b hb => ?_⟩
    have hbT : b ≠ T := by
      rcases List.mem_cons.mp hb with z | z
      · rw [z]; exact hTe.symm
      · have z : b = it := by simpa using z
        rw [z]; exact hTi.symm
    rw [upd_ne hbT]
    exact (hf b hb).1
  done := by
    intro X hP hw hK hc i pins s σ H E I hf st hg
    subst hP hw hK
    obtain ⟨hi, hq⟩ := hg
    obtain ⟨its, rv, ht, hz⟩ := I.list hq
    have hl := rv.length
    obtain ⟨⟨old, he⟩, hit⟩ := st
    have W := WalksT.enumerate (prog := X.prog) (w := X.w) (A := X.A) (I.ok.hd hc) e it a hei hae hai its.toArray
    have en : i = its.toArray.size := by simp; omega
    refine W.done s _ _ (by rw [← en]; exact ⟨⟨old, he⟩, hit, ht.isList⟩) fun h' tk hk => ⟨rfl, I.turnedL (fp := [e, it]) (fun b o hb q => hk b o hb q) hf⟩
  self := fun A i s Q E st hQ => by
    obtain ⟨⟨old, he⟩, _⟩ := st
    exact wpAny_pyIter_enum he hQ
def iEnum0 (K : PySem.W.Frag) (ta : TA) : TI := fun σ H R => ta σ H fun vs H1 => ∃ (a : Addr) (xs : List V), vs = [.ref a] ∧ SqL K H1 a xs ∧ R (Ite0 K a xs) H1
theorem pi_enum0 {X : Cx} {K : PySem.W.Frag} {e : Expr} {ta : TA} {p pos : Pos} {kk : Nat} {elts : List Expr} {tp : Pos} (hK : X.K = K) (hg : Gl X "enumerate") (hm : X.mg "enumerate" = none) (ha : PA X [e] ta)
    (hs : starEach [e] X.env = [(false, eval e X.env)] := by rfl) :
    PI X (.Tuple elts kk tp) (.Call (.Name "enumerate" p) [e] [] pos) (iEnum0 K ta) := by
  subst hK
  intro pins s σ H R I h
  refine Call_ (ld_blt I hg hm (by decide +kernel : bootBuiltins "enumerate" = some (.type "enumerate")) (PyProof.Rows.callWith_type1 (thn (ha pos pins s σ H _ I h) fun us s2 ⟨vs, H2, I2, r1, a, xs, e1, hq, hR⟩ => ?_) hs rfl) (by decide +kernel) (by decide +kernel))
  subst e1
  obtain ⟨u, rfl, ru⟩ := vals1 r1
  cases ru
  obtain ⟨its, rv, pl, hz⟩ := I2.list hq
  refine call_enumerate_list pl.isList fun h' e0 it0 sz k0 => ?_
  have lta : @LT.lt Nat _ a s2.heap.objs.size := by obtain ⟨o, n, e, _⟩ := pl; exact Heap.lt_size e
  refine wpAny_pyIter_enum e0 ?_
  refine ⟨s2.heap.objs.size + 1, [s2.heap.objs.size + 1, s2.heap.objs.size], _, _, H2, rfl, I2.kept (t' := s2.toks) k0, turn_enum0 a (s2.heap.objs.size + 1) s2.heap.objs.size xs (Nat.succ_ne_self _) (Nat.ne_of_lt (Nat.lt_succ_of_lt lta)) (Nat.ne_of_lt lta), ⟨⟨.none, e0⟩, it0⟩, fun b hb => ?_, hR⟩
  rcases List.mem_cons.mp hb with z | z
  · rw [z]; exact I2.fpOk (Nat.le_succ _) (I2.hok.fresh (Nat.le_succ _))
  · have z : b = s2.heap.objs.size := by simpa using z
    rw [z]; exact I2.fpOk (Nat.le_refl _) (I2.hok.fresh (Nat.le_refl _))
end L2
namespace L2
open PySem PySem.Spec PyProof.Rows
def kitB (T C : String) : Option Bool := if (Value.type T == Value.type C) = true then some true else if PySem.W.kitMeta C = true then (fastBuiltinMro T).map (·.contains (Value.type C)) else none
theorem kit_type (K : PySem.W.Frag) {T C : String} {b : Bool} (h : kitB T C = some b) : PySem.W.kitOne K (.type T) (.type C) = some b := h
theorem kit_int_bool (K : PySem.W.Frag) : PySem.W.kitOne K (.type "int") (.type "bool") = some false := kit_type K (by decide +kernel)
end L2
namespace Sw
open PySem L2
def ld (xs : List Int) (x : Int) : Int := xs.getD (x - 1).toNat 0
def itn (f : Int → Int) : Nat → Int → Int
  | 0, x => x
  | k + 1, x => f (itn f k x)
theorem itn_add (f : Int → Int) (j : Nat) (x : Int) : ∀ k, itn f (k + j) x = itn f k (itn f j x)
  | 0 => by rw [Nat.zero_add]; rfl
  | k + 1 => by rw [Nat.succ_add]; show f _ = f _; rw [itn_add f j x k]
theorem ld_get {n : Int} {xs : List Int} (o : Ord n xs) {x : Int} (h1 : 1 ≤ x) (h2 : x ≤ n) : xs[(x - 1).toNat]? = some (ld xs x) := by
  have := o.length
  unfold ld
  rw [List.getD_eq_getElem?_getD, List.getElem?_eq_getElem (by omega)]
  rfl
theorem ld_in {n : Int} {xs : List Int} (o : Ord n xs) {x : Int} (h1 : 1 ≤ x) (h2 : x ≤ n) : 1 ≤ ld xs x ∧ ld xs x ≤ n := o.mem.mp (List.mem_of_getElem? (ld_get o h1 h2))
theorem ld_inj {n : Int} {xs : List Int} (o : Ord n xs) {x y : Int} (h1 : 1 ≤ x) (h2 : x ≤ n) (h3 : 1 ≤ y) (h4 : y ≤ n) (e : ld xs x = ld xs y) : x = y := by
  have a := ld_get o h1 h2
  have b := ld_get o h3 h4
  rw [e] at a
  obtain ⟨p, pa⟩ := List.getElem?_eq_some_iff.mp a
  obtain ⟨q, qa⟩ := List.getElem?_eq_some_iff.mp b
  have := (List.getElem_inj (i := (x - 1).toNat) (j := (y - 1).toNat) (h₀ := p) (h₁ := q) o.nodup).mp (pa.trans qa.symm)
  omega
theorem itn_in {n : Int} {xs : List Int} (o : Ord n xs) {x : Int} (h1 : 1 ≤ x) (h2 : x ≤ n) : ∀ k, 1 ≤ itn (ld xs) k x ∧ itn (ld xs) k x ≤ n
  | 0 => ⟨h1, h2⟩
  | k + 1 => ld_in o (itn_in o h1 h2 k).1 (itn_in o h1 h2 k).2
theorem itn_inj {n : Int} {xs : List Int} (o : Ord n xs) {x y : Int} (h1 : 1 ≤ x) (h2 : x ≤ n) (h3 : 1 ≤ y) (h4 : y ≤ n) : ∀ k, itn (ld xs) k x = itn (ld xs) k y → x = y
  | 0, e => e
  | k + 1, e => itn_inj o h1 h2 h3 h4 k (ld_inj o (itn_in o h1 h2 k).1 (itn_in o h1 h2 k).2 (itn_in o h3 h4 k).1 (itn_in o h3 h4 k).2 e)
theorem ex_per {n : Int} {xs : List Int} (o : Ord n xs) {x : Int} (h1 : 1 ≤ x) (h2 : x ≤ n) : ∃ k, k < n.toNat ∧ itn (ld xs) (k + 1) x = x := by
  apply Classical.byContradiction
  intro no
  have hne : ∀ i j, i < j → j ≤ n.toNat → itn (ld xs) i x ≠ itn (ld xs) j x := by
    intro i j hij hj e
    apply no
    refine ⟨j - i - 1, by omega, ?_⟩
    have e2 : itn (ld xs) (i + (j - i)) x = itn (ld xs) i (itn (ld xs) (j - i) x) := itn_add _ _ _ _
    rw [show i + (j - i) = j by omega, ← e] at e2
    have q := itn_in o h1 h2 (j - i)
    have := itn_inj o h1 h2 q.1 q.2 i e2
    rw [show j - i - 1 + 1 = j - i by omega]
    exact this.symm
  have nd : ((List.range (n.toNat + 1)).map (fun k => itn (ld xs) k x)).Nodup := by
    rw [List.Nodup, List.pairwise_iff_getElem]
    intro i j hi hj hij
    simp only [List.getElem_map, List.getElem_range]
    simp at hj
    exact hne i j hij (by omega)
  have le := List.Nodup.length_le_of_subset nd (l₂ := ivl 1 (n + 1)) (by
    intro y hy
    obtain ⟨k, _, rfl⟩ := List.mem_map.mp hy
    have := itn_in o h1 h2 k
    exact mem_ivl.mpr (by omega))
  rw [List.length_map, List.length_range, ivl_length] at le
  omega
def per (xs : List Int) (x : Int) : Nat := (List.range xs.length).findIdx (fun k => itn (ld xs) (k + 1) x == x) + 1
def orb (xs : List Int) (x : Int) : List Int := (List.range (per xs x)).map fun k => itn (ld xs) k x
theorem per_le {n : Int} {xs : List Int} (o : Ord n xs) {x : Int} (h1 : 1 ≤ x) (h2 : x ≤ n) : per xs x ≤ n.toNat := by
  obtain ⟨k, hk, e⟩ := ex_per o h1 h2
  have := List.findIdx_lt_length_of_exists (xs := List.range xs.length) (p := fun k => itn (ld xs) (k + 1) x == x) ⟨k, List.mem_range.mpr (by rw [o.length]; exact hk), by simpa using e⟩
  rw [List.length_range, o.length] at this
  unfold per
  rw [o.length]
  omega
theorem per_eq {n : Int} {xs : List Int} (o : Ord n xs) {x : Int} (h1 : 1 ≤ x) (h2 : x ≤ n) : itn (ld xs) (per xs x) x = x := by
  obtain ⟨k, hk, e⟩ := ex_per o h1 h2
  have lt := List.findIdx_lt_length_of_exists (xs := List.range xs.length) (p := fun k => itn (ld xs) (k + 1) x == x) ⟨k, List.mem_range.mpr (by rw [o.length]; exact hk), by simpa using e⟩
  have := List.findIdx_getElem (xs := List.range xs.length) (p := fun k => itn (ld xs) (k + 1) x == x) (w := lt)
  rw [List.getElem_range] at this
  unfold per
  simpa using this
theorem per_ne {xs : List Int} {x : Int} {j : Nat} (h0 : 0 < j) (h : j < per xs x) : itn (ld xs) j x ≠ x := by
  unfold per at h
  have lt : j - 1 < (List.range xs.length).findIdx (fun k => itn (ld xs) (k + 1) x == x) := by omega
  have := List.not_of_lt_findIdx lt
  rw [List.getElem_range] at this
  rw [show j - 1 + 1 = j by omega] at this
  simpa using this
theorem itn_mod {n : Int} {xs : List Int} (o : Ord n xs) {x : Int} (h1 : 1 ≤ x) (h2 : x ≤ n) (k : Nat) : ∃ j, j < per xs x ∧ itn (ld xs) k x = itn (ld xs) j x := by
  induction k with
  | zero => exact ⟨0, by unfold per; omega, rfl⟩
  | succ k ih =>
    obtain ⟨j, hj, e⟩ := ih
    by_cases h : j + 1 < per xs x
    · exact ⟨j + 1, h, by show ld xs _ = ld xs _; rw [e]⟩
    · refine ⟨0, by unfold per; omega, ?_⟩
      show ld xs _ = x
      rw [e]
      have : j + 1 = per xs x := by omega
      have q := per_eq o h1 h2
      rw [← this] at q
      exact q
theorem orb_mem {n : Int} {xs : List Int} (o : Ord n xs) {x : Int} (h1 : 1 ≤ x) (h2 : x ≤ n) {y : Int} : y ∈ orb xs x ↔ ∃ k, itn (ld xs) k x = y := by
  unfold orb
  rw [List.mem_map]
  constructor
  · rintro ⟨k, _, e⟩
    exact ⟨k, e⟩
  · rintro ⟨k, e⟩
    obtain ⟨j, hj, e2⟩ := itn_mod o h1 h2 k
    exact ⟨j, List.mem_range.mpr hj, e2.symm.trans e⟩
def least (xs : List Int) (x : Int) : Bool := (orb xs x).all fun y => decide (x ≤ y)
theorem least_iff {n : Int} {xs : List Int} (o : Ord n xs) {x : Int} (h1 : 1 ≤ x) (h2 : x ≤ n) : least xs x = true ↔ ∀ k, x ≤ itn (ld xs) k x := by
  unfold least
  rw [List.all_eq_true]
  constructor
  · intro h k
    exact of_decide_eq_true (h _ ((orb_mem o h1 h2).mpr ⟨k, rfl⟩))
  · intro h y hy
    obtain ⟨k, rfl⟩ := (orb_mem o h1 h2).mp hy
    exact decide_eq_true (h k)
def rndM (n : Int) (xs : List Int) : List (List Int) := ((ivl 1 (n + 1)).filter (least xs)).map (orb xs)
theorem ord_ext {n : Int} {xs ys : List Int} (a : xs.length = n.toNat) (b : ys.length = n.toNat) (h : ∀ x, 1 ≤ x → x ≤ n → ld xs x = ld ys x) : xs = ys := by
  apply List.ext_getElem
  · rw [a, b]
  intro i h1 h2
  have := h (1 + i) (by omega) (by omega)
  unfold ld at this
  rw [show (1 + (i : Int) - 1).toNat = i by omega, List.getD_eq_getElem?_getD, List.getD_eq_getElem?_getD, List.getElem?_eq_getElem h1, List.getElem?_eq_getElem h2] at this
  exact this
end Sw
namespace Sw
open PySem L2
inductive Rise : Int → List (Int × Int) → Prop
  | nil {m : Int} : Rise m []
  | snoc {m a b : Int} {r : List (Int × Int)} : Rise (b - 1) r → 1 ≤ a → a < b → b ≤ m → Rise m (r ++ [(a, b)])
theorem least_ex : ∀ {l : List Int}, l ≠ [] → ∃ M, M ∈ l ∧ ∀ b ∈ l, M ≤ b
  | [], h => absurd rfl h
  | [a], _ => ⟨a, List.mem_singleton.mpr rfl, fun b hb => by rw [List.mem_singleton.mp hb]; exact Int.le_refl _⟩
  | a :: b :: r, _ => by
    obtain ⟨M, h1, h2⟩ := least_ex (l := b :: r) (by simp)
    by_cases h : a ≤ M
    · refine ⟨a, List.mem_cons_self, fun c hc => ?_⟩
      rcases List.mem_cons.mp hc with rfl | hc
      · exact Int.le_refl _
      · exact Int.le_trans h (h2 c hc)
    · refine ⟨M, List.mem_cons_of_mem _ h1, fun c hc => ?_⟩
      rcases List.mem_cons.mp hc with rfl | hc
      · omega
      · exact h2 c hc
end Sw
namespace L2
open PySem
theorem for_enum0 {K : PySem.W.Frag} {a : Addr} {xs : List V} {g : TG} {tb : TS} {D : Ends} {σ : St} {H : Hp} (Pv : Nat → St → Hp → Prop) (h0 : Pv 0 σ H) (hl : ∀ i σ H, i ≤ xs.length → Pv i σ H → SqL K H a xs)
    (hs : ∀ i σ H t v, xs[i]? = some v → Pv i σ H → H t = none → g (.ref t) σ (upd H t (.tup [.int (i : Int), v])) fun σ2 H2 => tb { D with nx := Pv (i + 1), ct := Pv (i + 1), bk := D.nx } σ2 H2) (hd : ∀ σ H, Pv xs.length σ H → D.nx σ H) :
    ∃ W : Nat → Nat → St → Hp → Prop, (∃ m, W 0 m σ H) ∧ ∀ i m σ H, W i m σ H →
      ((Ite0 K a xs).stop i H ∧ D.nx σ H) ∨ ((Ite0 K a xs).go i H ∧ ∃ N : St → Hp → Prop, (∀ σ' H', N σ' H' → ∃ m', m' < m ∧ W (i + 1) m' σ' H') ∧ ∀ x H', (Ite0 K a xs).yld i H x H' → g x σ H' fun σ2 H2 => tb { D with nx := N, ct := N, bk := D.nx } σ2 H2) := by
  refine ⟨fun i m σ H => m = xs.length - i ∧ i ≤ xs.length ∧ Pv i σ H, ⟨xs.length, by simp, Nat.zero_le _, h0⟩, ?_⟩
  rintro i m σ H ⟨rfl, hi, p⟩
  by_cases hlt : i < xs.length
  · refine .inr ⟨⟨hlt, hl i σ H hi p⟩, Pv (i + 1), fun σ' H' p' => ⟨xs.length - (i + 1), by omega, rfl, hlt, p'⟩, fun x H' y => ?_⟩
    obtain ⟨t, v, ht, rfl, hv, rfl⟩ := y
    exact hs i σ H t v hv p ht
  · have e : i = xs.length := by omega
    subst e
    exact .inl ⟨⟨rfl, hl _ σ H (Nat.le_refl _) p⟩, hd σ H p⟩
end L2
namespace Sw
open PySem L2
theorem orb_sym {n : Int} {xs : List Int} (o : Ord n xs) {x y : Int} (h1 : 1 ≤ x) (h2 : x ≤ n) (h : y ∈ orb xs x) : x ∈ orb xs y := by
  obtain ⟨k, rfl⟩ := (orb_mem o h1 h2).mp h
  obtain ⟨j, hj, e⟩ := itn_mod o h1 h2 k
  have r := itn_in o h1 h2 k
  refine (orb_mem o r.1 r.2).mpr ⟨per xs x - j, ?_⟩
  rw [e, ← itn_add, show per xs x - j + j = per xs x by omega]
  exact per_eq o h1 h2
theorem orb_trans {n : Int} {xs : List Int} (o : Ord n xs) {x y z : Int} (h1 : 1 ≤ x) (h2 : x ≤ n) (h : y ∈ orb xs x) (h' : z ∈ orb xs y) : z ∈ orb xs x := by
  obtain ⟨k, rfl⟩ := (orb_mem o h1 h2).mp h
  have r := itn_in o h1 h2 k
  obtain ⟨j, rfl⟩ := (orb_mem o r.1 r.2).mp h'
  exact (orb_mem o h1 h2).mpr ⟨j + k, itn_add _ _ _ _⟩
theorem orb_in {n : Int} {xs : List Int} (o : Ord n xs) {x y : Int} (h1 : 1 ≤ x) (h2 : x ≤ n) (h : y ∈ orb xs x) : 1 ≤ y ∧ y ≤ n := by
  obtain ⟨k, rfl⟩ := (orb_mem o h1 h2).mp h
  exact itn_in o h1 h2 k
theorem orb_self {xs : List Int} (x : Int) : x ∈ orb xs x := by
  unfold orb
  exact List.mem_map.mpr ⟨0, List.mem_range.mpr (by unfold per; omega), rfl⟩
theorem orb_length (xs : List Int) (x : Int) : (orb xs x).length = per xs x := by unfold orb; rw [List.length_map, List.length_range]
theorem low_ex {n : Int} {xs : List Int} (o : Ord n xs) {x : Int} (h1 : 1 ≤ x) (h2 : x ≤ n) : ∃ m, m ∈ orb xs x ∧ least xs m = true ∧ m ≤ x := by
  obtain ⟨M, m1, m2⟩ := least_ex (l := orb xs x) (List.ne_nil_of_mem (orb_self x))
  refine ⟨M, m1, ?_, m2 x (orb_self x)⟩
  unfold least
  rw [List.all_eq_true]
  intro y hy
  exact decide_eq_true (m2 y (orb_trans o h1 h2 m1 hy))
theorem met_least {n : Int} {xs : List Int} (o : Ord n xs) {i : Nat} (hi : (i : Int) < n) : least xs (1 + i) = true ↔ ¬ ∃ m ∈ ((ivl 1 (n + 1)).take i).filter (least xs), (1 + (i : Int)) ∈ orb xs m := by
  have b1 : (1 : Int) ≤ 1 + i := by omega
  have b2 : (1 : Int) + i ≤ n := by omega
  have tk : ∀ m, m ∈ (ivl 1 (n + 1)).take i ↔ 1 ≤ m ∧ m ≤ i := by
    intro m
    constructor
    · intro h
      obtain ⟨j, hj, e⟩ := List.mem_iff_getElem.mp h
      rw [List.length_take] at hj
      rw [List.getElem_take] at e
      have g := get_ivl (lo := 1) (hi := n + 1) (i := j) (by rw [ivl_length] at hj; omega)
      rw [List.getElem?_eq_getElem (by omega)] at g
      have g := Option.some.inj g
      rw [e] at g
      omega
    · rintro ⟨h3, h4⟩
      refine List.mem_iff_getElem.mpr ⟨(m - 1).toNat, by rw [List.length_take, ivl_length]; omega, ?_⟩
      rw [List.getElem_take]
      have g := get_ivl (lo := 1) (hi := n + 1) (i := (m - 1).toNat) (by omega)
      rw [List.getElem?_eq_getElem (by rw [ivl_length]; omega)] at g
      have g := Option.some.inj g
      rw [g]
      omega
  constructor
  · rintro h ⟨m, hm, hmo⟩
    rw [List.mem_filter, tk] at hm
    have s := orb_sym o hm.1.1 (by omega) hmo
    unfold least at h
    have := of_decide_eq_true (List.all_eq_true.mp h m s)
    omega
  · intro h
    obtain ⟨m, m1, m2, m3⟩ := low_ex o b1 b2
    by_cases e : m = 1 + (i : Int)
    · rw [← e]; exact m2
    · exfalso
      apply h
      have mi := orb_in o b1 b2 m1
      exact ⟨m, List.mem_filter.mpr ⟨(tk m).mpr (by omega), m2⟩, orb_sym o b1 b2 m1⟩
theorem at_last {ns : List Int} {k : Nat} {z : Int} (h : ns.length = k + 1) (e : ns[k]? = some z) : atI (ns.map V.int) (-1) = some (V.int z) := by
  unfold atI ixN
  rw [if_neg (by decide), if_pos (by rw [List.length_map]; omega)]
  show (ns.map V.int)[(-1 + ((ns.map V.int).length : Int)).toNat]? = _
  rw [List.length_map, show (-1 + (ns.length : Int)).toNat = k by omega, List.getElem?_map, e]
  rfl
theorem inV_int (x : Int) (ms : List Int) : inV (.int x) (ms.map V.int) = decide (x ∈ ms) := by
  unfold inV
  rw [List.any_map, Bool.eq_iff_iff, List.any_eq_true]
  simp only [decide_eq_true_eq]
  constructor
  · rintro ⟨y, hy, e⟩
    have e : eqV (.int y) (.int x) = true := e
    unfold eqV at e
    have : y = x := by simpa using e
    rw [← this]; exact hy
  · intro h
    refine ⟨x, h, ?_⟩
    show eqV (.int x) (.int x) = true
    unfold eqV
    simp
theorem flat_ints (ms : List Int) : (ms.map V.int).all flatV = true := by
  rw [List.all_map, List.all_eq_true]
  intro x _
  rfl
def bump : Nat → List (List Int) → List (List Int)
  | _, [] => []
  | k, r :: t => (r ++ [100 + (k : Int)]) :: bump (k + 1) t
def half (l : List (List Int)) (i : Nat) : List (List Int) := bump 0 (l.take i) ++ l.drop i
theorem lay_ll : ∀ (r : List (List Int)), PyData.canLayAll0 (r.map fun p => PyData.list (p.map PyData.int)) = true
  | [] => rfl
  | p :: r => by
    rw [List.map_cons]; unfold PyData.canLayAll0; rw [lay_ll r]
    unfold PyData.canLay0; rw [lay_ints p]; rfl
theorem depth_ll : ∀ (r : List (List Int)), PyData.depthAll (r.map fun p => PyData.list (p.map PyData.int)) ≤ 1
  | [] => by simp [PyData.depthAll]
  | p :: r => by
    have := depth_ll r
    rw [List.map_cons]; unfold PyData.depthAll; unfold PyData.depth; rw [depth_ints p]
    omega
theorem eqv_ll : ∀ (r q : List (List Int)), PyData.eqvAll (r.map fun p => PyData.list (p.map PyData.int)) (q.map fun p => PyData.list (p.map PyData.int)) = decide (r = q)
  | [], [] => by simp [PyData.eqvAll]
  | [], m :: r => by simp [PyData.eqvAll]
  | n :: r, [] => by simp [PyData.eqvAll]
  | n :: r, m :: q => by
    rw [List.map_cons, List.map_cons]; unfold PyData.eqvAll; rw [eqv_ll r q]
    unfold PyData.eqv
    rw [eqv_ints n m]
    by_cases h1 : n = m <;> by_cases h2 : r = q <;> simp [h1, h2]
end Sw
namespace Sw
open PySem L2
def Cyc (n : Int) (xs r : List Int) : Prop := r ≠ [] ∧ ∀ (i : Nat) (x : Int), r[i]? = some x → 1 ≤ x ∧ x ≤ n ∧ r[(i + 1) % r.length]? = some (ld xs x)
structure Rnds (n : Int) (xs : List Int) (rs : List (List Int)) : Prop where
  cyc : ∀ r ∈ rs, Cyc n xs r
  nd : rs.flatten.Nodup
  rest : ∀ x, 1 ≤ x → x ≤ n → x ∉ rs.flatten → ld xs x = x
theorem itn_per {n : Int} {xs : List Int} (o : Ord n xs) {x : Int} (h1 : 1 ≤ x) (h2 : x ≤ n) {k : Nat} (h : k < per xs x) : itn (ld xs) ((k + 1) % per xs x) x = ld xs (itn (ld xs) k x) := by
  by_cases e : k + 1 < per xs x
  · rw [Nat.mod_eq_of_lt e]; rfl
  · have e : k + 1 = per xs x := by omega
    rw [e, Nat.mod_self]
    have := per_eq o h1 h2
    rw [← e] at this
    exact this.symm
theorem orb_cyc {n : Int} {xs : List Int} (o : Ord n xs) {x : Int} (h1 : 1 ≤ x) (h2 : x ≤ n) : Cyc n xs (orb xs x) := by
  refine ⟨List.ne_nil_of_mem (orb_self x), fun i y hy => ?_⟩
  have hi : i < per xs x := by rw [← orb_length xs x]; exact (List.getElem?_eq_some_iff.mp hy).1
  rw [orb_length]
  unfold orb at hy ⊢
  rw [List.getElem?_map, List.getElem?_range hi] at hy
  have hy : itn (ld xs) i x = y := by simpa using hy
  have r := itn_in o h1 h2 i
  rw [List.getElem?_map, List.getElem?_range (Nat.mod_lt _ (by omega))]
  refine ⟨by omega, by omega, ?_⟩
  show some (itn (ld xs) ((i + 1) % per xs x) x) = _
  rw [itn_per o h1 h2 hi, hy]
structure Part (n : Int) (xs : List Int) (rf rl : List (List Int)) : Prop where
  cf : ∀ r ∈ rf, Cyc n xs r
  cl : ∀ r ∈ rl, Cyc n xs r
  nd : (rf.flatten ++ rl.flatten).Nodup
  rest : ∀ x, 1 ≤ x → x ≤ n → x ∉ rf.flatten → x ∉ rl.flatten → ld xs x = x
theorem orb_nodup {n : Int} {xs : List Int} (o : Ord n xs) {x : Int} (h1 : 1 ≤ x) (h2 : x ≤ n) : (orb xs x).Nodup := by
  unfold orb
  rw [List.Nodup, List.pairwise_map]
  refine (List.Pairwise.and_mem.mp (List.pairwise_lt_range (n := per xs x))).imp ?_
  rintro i j ⟨hi, hj, hij⟩ e
  have hi := List.mem_range.mp hi
  have hj := List.mem_range.mp hj
  have e2 : itn (ld xs) (i + (j - i)) x = itn (ld xs) i (itn (ld xs) (j - i) x) := itn_add _ _ _ _
  rw [show i + (j - i) = j by omega, ← e] at e2
  have q := itn_in o h1 h2 (j - i)
  have := itn_inj o h1 h2 q.1 q.2 i e2
  exact per_ne (by omega) (by omega) this.symm
theorem rnd_nodup {n : Int} {xs : List Int} (o : Ord n xs) : (rndM n xs).flatten.Nodup := by
  unfold rndM
  rw [List.Nodup, List.pairwise_flatten]
  constructor
  · intro r hr
    obtain ⟨x, hx, rfl⟩ := List.mem_map.mp hr
    have hx := mem_ivl.mp (List.mem_filter.mp hx).1
    exact orb_nodup o hx.1 (by omega)
  · rw [List.pairwise_map]
    have nd : ((ivl 1 (n + 1)).filter (least xs)).Nodup := (ivl_nodup 1 (n + 1)).filter _
    refine (List.Pairwise.and_mem.mp nd).imp ?_
    rintro a b ⟨ha, hb, ne⟩ y hya z hzb e
    subst e
    have ha' := List.mem_filter.mp ha
    have hb' := List.mem_filter.mp hb
    have ia := mem_ivl.mp ha'.1
    have ib := mem_ivl.mp hb'.1
    have yb := orb_sym o ib.1 (by omega) hzb
    have ab : b ∈ orb xs a := orb_trans o ia.1 (by omega) hya yb
    have ba : a ∈ orb xs b := orb_sym o ia.1 (by omega) ab
    have l1 := ha'.2
    have l2 := hb'.2
    unfold least at l1 l2
    have e1 := of_decide_eq_true (List.all_eq_true.mp l1 b ab)
    have e2 := of_decide_eq_true (List.all_eq_true.mp l2 a ba)
    exact ne (by omega)
theorem rnd_all {n : Int} {xs : List Int} (o : Ord n xs) {x : Int} (h1 : 1 ≤ x) (h2 : x ≤ n) : x ∈ (rndM n xs).flatten := by
  obtain ⟨m, m1, m2, m3⟩ := low_ex o h1 h2
  have mi := orb_in o h1 h2 m1
  refine List.mem_flatten.mpr ⟨orb xs m, ?_, orb_sym o h1 h2 m1⟩
  unfold rndM
  exact List.mem_map.mpr ⟨m, List.mem_filter.mpr ⟨mem_ivl.mpr (by omega), m2⟩, rfl⟩
theorem rnd_cyc {n : Int} {xs : List Int} (o : Ord n xs) {r : List Int} (h : r ∈ rndM n xs) : Cyc n xs r := by
  unfold rndM at h
  obtain ⟨x, hx, rfl⟩ := List.mem_map.mp h
  have hx := mem_ivl.mp (List.mem_filter.mp hx).1
  exact orb_cyc o hx.1 (by omega)
theorem rnd_rnds {n : Int} {xs : List Int} (o : Ord n xs) : Rnds n xs (rndM n xs) := ⟨fun r h => rnd_cyc o h, rnd_nodup o, fun x h1 h2 h => absurd (rnd_all o h1 h2) h⟩
theorem nil_rnds (n : Int) : Rnds n (ivl 1 (n + 1)) [] := by
  refine ⟨fun r h => (by cases h), by simp, fun x h1 h2 _ => ?_⟩
  unfold ld
  rw [List.getD_eq_getElem?_getD, get_ivl (by omega)]
  show 1 + (((x - 1).toNat : Nat) : Int) = x
  omega
end Sw
namespace L2
open PySem PySem.Spec PyProof.Rows
mutual
inductive DT (H : Hp) (P : Addr → Prop) : V → PyData → Prop
  | non : DT H P .non .none
  | bl (b : Bool) : DT H P (.bl b) (.bool b)
  | int (i : Int) : DT H P (.int i) (.int i)
  | str (x : Str) : DT H P (.str x) (.str x)
  | lst {a : Addr} {vs : List V} {ds : List PyData} : H a = some (.lst vs) → P a → DTs H P vs ds → DT H P (.ref a) (.list ds)
  | tup {a : Addr} {vs : List V} {ds : List PyData} : H a = some (.tup vs) → P a → DTs H P vs ds → DT H P (.ref a) (.tuple ds)
inductive DTs (H : Hp) (P : Addr → Prop) : List V → List PyData → Prop
  | nil : DTs H P [] []
  | cons {v : V} {d : PyData} {vs : List V} {ds : List PyData} : DT H P v d → DTs H P vs ds → DTs H P (v :: vs) (d :: ds)
end
mutual
theorem DT.keep {H H' : Hp} {P : Addr → Prop} (k : Keep P H H') : ∀ {v : V} {d : PyData}, DT H P v d → DT H' P v d
  | _, _, .non => .non
  | _, _, .bl b => .bl b
  | _, _, .int i => .int i
  | _, _, .str x => .str x
  | _, _, .lst h p r => .lst (k _ _ p h) p (r.keep k)
  | _, _, .tup h p r => .tup (k _ _ p h) p (r.keep k)
theorem DTs.keep {H H' : Hp} {P : Addr → Prop} (k : Keep P H H') : ∀ {vs : List V} {ds : List PyData}, DTs H P vs ds → DTs H' P vs ds
  | _, _, .nil => .nil
  | _, _, .cons h r => .cons (h.keep k) (r.keep k)
end
mutual
theorem DT.dat {K : PySem.W.Frag} {H : Hp} {P : Addr → Prop} : ∀ {v : V} {d : PyData}, DT H P v d → Dat K H P v d
  | _, _, .non => .non
  | _, _, .bl b => .bl b
  | _, _, .int i => .int i
  | _, _, .str x => .str x
  | _, _, .lst h p r => .lst (SqL.of h) p r.dat
  | _, _, .tup h p r => .tup (SqT.of h) p r.dat
theorem DTs.dat {K : PySem.W.Frag} {H : Hp} {P : Addr → Prop} : ∀ {vs : List V} {ds : List PyData}, DTs H P vs ds → DatAll K H P vs ds
  | _, _, .nil => .nil
  | _, _, .cons h r => .cons h.dat r.dat
end
theorem DTs.length {H : Hp} {P : Addr → Prop} : ∀ {vs : List V} {ds : List PyData}, DTs H P vs ds → vs.length = ds.length
  | _, _, .nil => rfl
  | _, _, .cons h r => by rw [List.length_cons, List.length_cons, r.length]
theorem DTs.append {H : Hp} {P : Addr → Prop} : ∀ {vs ws : List V} {ds es : List PyData}, DTs H P vs ds → DTs H P ws es → DTs H P (vs ++ ws) (ds ++ es)
  | _, _, _, _, .nil, y => y
  | _, _, _, _, .cons h x, y => .cons h (x.append y)
theorem DTs.ints {H : Hp} {P : Addr → Prop} : ∀ (ns : List Int), DTs H P (ns.map V.int) (ns.map PyData.int)
  | [] => .nil
  | n :: r => .cons (.int n) (DTs.ints r)
def tyD : PyData → String
  | .none => "NoneType"
  | .bool _ => "bool"
  | .int _ => "int"
  | .str _ => "str"
  | .list _ => "list"
  | .tuple _ => "tuple"
  | .dict _ => "dict"
theorem DT.ty {K : PySem.W.Frag} {H : Hp} {P : Addr → Prop} {v : V} {d : PyData} (h : DT H P v d) : TyOf K H v (.type (tyD d)) := by
  cases h with
  | non => exact .non
  | bl b => exact .bl b
  | int i => exact .int i
  | str x => exact .str x
  | lst h p r => exact .lst h
  | tup h p r => exact .tup h
structure Fit (B : Nat) (d : PyData) : Prop where
  sh : d.showable = true
  nd : d.hasDict = false
  dp : d.depth ≤ 20
  ls : PyData.leavesShort 40 d = true
  wt : d.weight ≤ B
structure Fits (B k : Nat) (ds : List PyData) : Prop where
  sh : PyData.showableAll ds = true
  nd : PyData.hasDictAll ds = false
  dp : PyData.depthAll ds ≤ k
  ls : PyData.leavesShortAll 40 ds = true
  wt : PyData.weightAll ds ≤ B * ds.length
end L2
namespace L2
open PySem PySem.Spec PyProof.Rows
def Lone (h : Heap) (e : Addr) (b : Option Addr := none) : Prop := ∃ o vs c, h.get? e = some o ∧ o.data = .fields vs ∧ vs[2]? = some c ∧ (b = none → c = Value.none)
section
variable {M : Model} {A : Around} {E : Value → Shared → Prop} {s : Shared} {B : Heap} {env : Env} {outer : List Env} {L e : Addr} {cls a0 c : Value} {b : Option Addr}
abbrev tbObj (head : Value) (L : Addr) (pl : List Value) : Obj := { cls := .type "traceback", dict := none, data := .fields ([head, .ref L, .none, rawInt L, .none] ++ (if pl.isEmpty then List.replicate 6 Value.none else pl)).toArray }
theorem entry_lone {o : Obj} {vs : Array Value} {head : Value} {hadNext : Bool} {Q : Unit → Shared → Prop}
    (fr : A.frames = some (env :: outer)) (ff : s.heap.FunFrames B (env :: outer)) (ef : env.frame = some L) (eo : s.heap.get? e = some o) (kb : B.StaysIn s.heap) (en : B.get? e = none) (ed : o.data = .fields vs) (z0 : vs[0]? = some a0) (z2 : vs[2]? = some c) (zb : b = none → c = Value.none)
    (k : ∀ h', Heap.NotedW B (env :: outer) e o.cls a0 (rawInt L) s.heap h' → Lone h' e b → Q () { s with heap := h' }) :
    wpAny M A (do let a ← frameOf env; let pl ← entryPlaceOf L hadNext; let b ← EntryCells.newEntry head a .none (rawInt L) .none pl; setField (.ref e) 1 b) Q E s := by
  have n2 : 2 < vs.size := (Array.getElem?_eq_some_iff.mp z2).1
  have n1 : 1 < vs.size := by omega
  have eno : e ∉ (env :: outer).filterMap (·.frame) := fun hm => by
    obtain ⟨_, o', ho, hnf⟩ := ff.mem hm
    rw [eo] at ho
    cases ho
    exact hnf vs ed
  refine wpAny_bind (wpAny_frameOf_fun fr ff ef fun g hs => wpAny_bind (wpAny_entryPlaceOf fun pl hpl => ?_))
  unfold EntryCells.newEntry newFields
  refine wpAny_bind (wpAny_newObj_type ?_ (hpl.sizeOk5 _ _ _ _ _))
  have eo1 : g.get? e = some o := (hs.2.1 e eno).trans eo
  have kb1 : B.StaysIn g := fun b u hb => (hs.2.1 b fun hm => by rw [(ff.mem hm).1] at hb; cases hb).trans (kb b u hb)
  have eo2 := Heap.get?_push_of_some (h := g) (tbObj head L pl) eo1
  have nT : g.objs.size ≠ e := Nat.ne_of_gt (Heap.lt_size eo1)
  have d3 := Obj.data_mapFields ed (·.setIfInBounds 1 (Value.ref g.objs.size))
  have eo3 := Heap.get?_update_self (Obj.mapFields (·.setIfInBounds 1 (Value.ref g.objs.size))) eo2 (Obj.isFreed_of_fields d3)
  have tb3 := (Heap.get?_update_other (g.push (tbObj head L pl)) (Obj.mapFields (·.setIfInBounds 1 (Value.ref g.objs.size))) (Ne.symm nT)).trans (Heap.get?_push_size g rfl)
  have stay : ∀ b u, b ≠ e → g.get? b = some u → ((g.push (tbObj head L pl)).update e (Obj.mapFields (·.setIfInBounds 1 (Value.ref g.objs.size)))).get? b = some u := fun b u hbe hb =>
    (Heap.get?_update_other _ _ (Ne.symm hbe)).trans (Heap.get?_push_of_some _ hb)
  have noE : ∀ b u, s.heap.get? b = some u → (∀ ws, u.data ≠ .fields ws) → b ≠ e := fun b u hb hnf q => by
    rw [q, eo] at hb
    cases hb
    exact hnf vs ed
  refine wpAny_setField eo2 ed n1 (k _ ⟨fun b u hb => stay b u (fun q => by rw [q, en] at hb; cases hb) (kb1 b u hb), ff.of_keeps fun b u hb hnf => ?_, ?_, fun b u hb hnf => ?_⟩ ⟨_, _, c, eo3, d3, ?_, zb⟩)
  · obtain ⟨sl, hq⟩ := hs.2.2 b u hb
    exact ⟨_, stay b _ (noE b u hb hnf) hq, rfl⟩
  · refine ⟨_, _, g.objs.size, _, _, eo3, ⟨Obj.cls_mapFields _ _, ?_⟩, d3, by simp [n1], kb1.fresh, nT, tb3, rfl, ?_⟩
    · rw [Array.getElem?_setIfInBounds_ne (by decide)]; exact z0
    · rcases hpl with rfl | ⟨_, _, _, _, _, _, _, rfl⟩ <;> simp
  · obtain ⟨sl, hq⟩ := hs.2.2 b u hb
    exact ⟨sl, stay b _ (noE b u hb hnf) hq⟩
  · rw [Array.getElem?_setIfInBounds_ne (by decide)]; exact z2
theorem Lone.sees {h : Heap} (l : Lone h e b) (t : h.TracedW B e cls a0) : ∃ oe vs T oT ts c, (b = none → c = Value.none) ∧ h.get? e = some oe ∧ oe.cls = cls ∧ vs[0]? = some a0 ∧ vs[2]? = some c ∧ oe.data = .fields vs ∧ vs[1]? = some (.ref T) ∧ B.get? T = none ∧ T ≠ e ∧ h.get? T = some oT ∧ oT.data = .fields ts ∧ ts[3]? = some .none := by
  obtain ⟨o, vs, c, h1, h2, h3, hb⟩ := l
  obtain ⟨oe, ws, T, oT, ts, g1, ⟨g2, g3⟩, g4, g5, g6, g7, g8, g9, g10⟩ := t
  rw [h1] at g1
  cases g1
  rw [h2] at g4
  cases g4
  exact ⟨o, vs, T, oT, ts, c, hb, h1, g2, g3, h3, h2, g5, g6, g7, g8, g9, g10⟩
theorem note_lone {Q : Unit → Shared → Prop} (fr : A.frames = some (env :: outer)) (ef : env.frame = some L) (fl : Heap.FlyingW B (env :: outer) e cls a0 s.heap) (l : Lone s.heap e b)
    (k : ∀ h', Heap.HeldW B (env :: outer) e cls a0 L h' → s.heap.UpToSlots h' → Lone h' e b → Q () { s with heap := h' }) : wpAny M A (noteFrame (.ref e) env) Q E s := by
  obtain ⟨kb, en, ff, t⟩ := fl
  obtain ⟨oe, vs, T, oT, ts, c, hb, eo, rfl, z0, z2, ed, z1, tn, nT, et, dT, z3⟩ := l.sees t
  unfold noteFrame
  simp only [ef]
  refine wpAny_bind (wpAny_field eo ed z1 ?_)
  rw [if_pos (by simp)]
  refine wpAny_bind (wpAny_field et dT z3 ?_)
  rw [if_neg (by simp [rawInt])]
  refine wpAny_bind (wpAny_setField et dT (Array.getElem?_eq_some_iff.mp z3).1 ?_)
  have oth : ∀ b, b ≠ T → (s.heap.update T (Obj.mapFields (·.setIfInBounds 3 Value.none))).get? b = s.heap.get? b := fun b hb => Heap.get?_update_other _ _ (Ne.symm hb)
  have noT : ∀ b u, s.heap.get? b = some u → (∀ ws, u.data ≠ .fields ws) → b ≠ T := fun b u hb hnf q => by
    rw [q, et] at hb
    cases hb
    exact hnf ts dT
  refine entry_lone fr (ff.of_keeps fun b u hb hnf => ⟨u, (oth b (noT b u hb hnf)).trans hb, rfl⟩) ef ((oth e (Ne.symm nT)).trans eo) (fun b u hb => (oth b fun q => by rw [q, tn] at hb; cases hb).trans (kb b u hb)) en ed z0 z2 hb fun h' ⟨x1, x2, x3, x4⟩ l' => ?_
  exact k h' ⟨x1, en, x2, x3⟩ (fun b u hb hnf => x4 b u ((oth b (noT b u hb hnf)).trans hb) hnf) l'
theorem land_lone {fl : Value} {l : List Env} {Q : Unit → Shared → Prop} (kb : B.StaysIn s.heap) (en : B.get? e = none) (ff : s.heap.FunFrames B l) (t : s.heap.TracedAtW B e cls a0 fl) (lo : Lone s.heap e b)
    (k : ∀ h', Heap.FlyingW B l e cls a0 h' → s.heap.UpToSlots h' → Lone h' e b → Q () { s with heap := h' }) : wpAny M A (setFlight (.ref e) none) Q E s := by
  obtain ⟨o, vs, c, h1, h2, h3, hcb⟩ := lo
  obtain ⟨oe, ws, T, oT, ts, g1, g2, g4, g5, g6, g7, g8, g9, g10⟩ := t
  rw [h1] at g1
  cases g1
  rw [h2] at g4
  cases g4
  have sz : 3 < ts.size := (Array.getElem?_eq_some_iff.mp g10).1
  have oth : ∀ b, b ≠ T → (s.heap.update T (Obj.mapFields (·.setIfInBounds 3 ((none : Option Addr).elim Value.none fun f => rawInt f)))).get? b = s.heap.get? b := fun b hb => Heap.get?_update_other _ _ (Ne.symm hb)
  have noT : ∀ b u, s.heap.get? b = some u → (∀ ws, u.data ≠ .fields ws) → b ≠ T := fun b u hb hnf q => by
    rw [q, g8] at hb
    cases hb
    exact hnf ts g9
  have e' := (oth e (Ne.symm g7)).trans h1
  unfold setFlight
  refine wpAny_bind (wpAny_field h1 h2 g5 ?_)
  rw [if_pos (by simp)]
  refine wpAny_setField g8 g9 sz (k _ ⟨fun b u hb => (oth b fun q => by rw [q, g6] at hb; cases hb).trans (kb b u hb), en, ff.of_keeps fun b u hb hnf => ⟨u, (oth b (noT b u hb hnf)).trans hb, rfl⟩, ?_⟩ (fun b u hb hnf => ⟨u.slots, (oth b (noT b u hb hnf)).trans hb⟩) ⟨o, vs, c, e', h2, h3, hcb⟩)
  exact ⟨o, vs, T, _, _, e', g2, h2, g5, g6, g7, Heap.get?_update_self _ g8 (Obj.isFreed_of_fields (Obj.data_mapFields g9 _)), Obj.data_mapFields g9 _, by simp [sz]⟩
theorem leave_lone {Q : Unit → Shared → Prop} (fr : A.frames = some (env :: outer)) (ef : env.frame = some L) (fl : Heap.FlyingW B (env :: outer) e cls a0 s.heap) (l : Lone s.heap e b)
    (k : ∀ h', Heap.FlyingW B (env :: outer) e cls a0 h' → s.heap.UpToSlots h' → Lone h' e b → Q () { s with heap := h' }) : wpAny M A (leaving env (.ref e)) Q E s := by
  unfold leaving
  refine wpAny_bind (note_lone fr ef fl l fun g hh sm l' => ?_)
  obtain ⟨f1, f2, f3, f4⟩ := hh
  exact land_lone (s := { s with heap := g }) f1 f2 f3 f4 l' fun h' a1 a2 a3 => k h' a1 (sm.trans a2) a3
theorem leave_made {o : Obj} {vs : Array Value} {Q : Unit → Shared → Prop} (fr : A.frames = some (env :: outer)) (ff : s.heap.FunFrames B (env :: outer)) (ef : env.frame = some L) (eo : s.heap.get? e = some o) (kb : B.StaysIn s.heap) (en : B.get? e = none) (ed : o.data = .fields vs) (z0 : vs[0]? = some a0) (z1 : vs[1]? = some .none) (z2 : vs[2]? = some c) (zb : b = none → c = Value.none)
    (k : ∀ h', Heap.FlyingW B (env :: outer) e o.cls a0 h' → s.heap.UpToSlots h' → Lone h' e b → Q () { s with heap := h' }) : wpAny M A (leaving env (.ref e)) Q E s := by
  unfold leaving noteFrame
  simp only [ef]
  refine wpAny_bind (wpAny_bind (wpAny_field eo ed z1 ?_))
  rw [if_neg (by decide)]
  refine entry_lone fr ff ef eo kb en ed z0 z2 zb fun g hn l' => ?_
  obtain ⟨f1, f3, f4, sm⟩ := hn
  exact land_lone (s := { s with heap := g }) f1 en f3 f4 l' fun h' a1 a2 a3 => k h' a1 (Heap.UpToSlots.trans sm a2) a3
end
end L2
namespace L2
open PySem PySem.Spec PyProof.Rows
theorem ObjOk.here {P : Program} {w : World} {H : Hp} {h : Heap} {a : Addr} {o : HO} (x : ObjOk P w H h a o) : ∃ ob, h.get? a = some ob := by
  cases o with
  | lst xs => obtain ⟨_, _, _, _, e⟩ := x; exact ⟨_, e⟩
  | tup xs => obtain ⟨_, _, _, ob, e, _⟩ := x; exact ⟨_, e⟩
  | dK kvs => obtain ⟨_, _, _, _, o, _, _, e, _⟩ := x; exact ⟨_, e⟩
  | dT kvs => obtain ⟨_, _, _, _, o, _, _, e, _⟩ := x; exact ⟨_, e⟩
  | set S n => obtain ⟨o, _, _, _, e, _⟩ := x; exact ⟨_, e⟩
  | ins C dx fs => obtain ⟨_, _, _, e, _⟩ := x; exact ⟨_, e⟩
  | own y => obtain ⟨_, e⟩ := x; exact ⟨_, e⟩
  | xd fs => obtain ⟨_, ⟨_, _, _, e, _⟩, _⟩ := x; exact ⟨_, e⟩
  | rng lo hi => obtain ⟨_, _, _, e⟩ := x; exact ⟨_, e⟩
  | frz ob u => obtain ⟨e, _⟩ := x; exact ⟨_, e⟩
  | tbl ps => exact ⟨_, (show h.get? a = some _ from x)⟩
  | met f y => exact ⟨_, (show h.get? a = some _ from x)⟩
  | ext φ => obtain ⟨_, ⟨_, e⟩, _⟩ := x; exact ⟨_, e⟩
structure Fly (P : Program) (w : World) (fr : List Env) (H : Hp) (h : Heap) (e : Addr) (cls a0 : Value) (B : Heap) (H' : Hp) (h' : Heap) (bb : Option Addr := none) : Prop where
  un : Un (frs fr) [] H H' h h'
  hok : HOk P w H' h'
  fl : Heap.FlyingW B fr e cls a0 h'
  old : ∀ b o o', h.get? b = some o → b ∉ frs fr → h'.get? b = some o' → B.get? b = some o'
  trk : ∀ b u o', H' b = some u → h'.get? b = some o' → B.get? b = some o'
  frf : ∀ b ∈ frs fr, H' b = none
  lo : Lone h' e bb
section
variable {P : Program} {w : World} {fr : List Env} {H H' : Hp} {h h' h'' : Heap} {e : Addr} {cls a0 : Value} {B : Heap} {bb : Option Addr}
theorem Fly.move0 (fun_ : Un (frs fr) [] H H' h h') (fhok : HOk P w H' h') (ff : h'.FunFrames B fr) (fold : ∀ b o o', h.get? b = some o → b ∉ frs fr → h'.get? b = some o' → B.get? b = some o')
    (ftrk : ∀ b u o', H' b = some u → h'.get? b = some o' → B.get? b = some o') (ffrf : ∀ b ∈ frs fr, H' b = none) (fl : Heap.FlyingW B fr e cls a0 h'') (sm : h'.UpToSlots h'') (lo : Lone h'' e bb) : Fly P w fr H h e cls a0 B H' h'' bb where
  un := by
    refine ⟨fun b o q n hb hx => ?_, fun b o q n hb hx => ?_, fun_.free, fun b o q hx => ?_, fun_.tups, fun_.frzs, fun_.tbls⟩
    · have e1 := fun_.keep b o q n hb hx
      exact fl.1 b o (fold b o o q hb e1)
    · obtain ⟨sl, e1⟩ := fun_.slot b o q n hb hx
      obtain ⟨_, o1, e2, nf⟩ := ff.mem hb
      rw [e1] at e2; cases e2
      obtain ⟨sl', e3⟩ := sm b _ e1 nf
      exact ⟨sl', e3⟩
    · obtain ⟨o1, e1⟩ := fun_.there b o q hx
      by_cases hb : b ∈ frs fr
      · obtain ⟨_, o2, e2, nf⟩ := ff.mem hb
        rw [e1] at e2; cases e2
        obtain ⟨sl', e3⟩ := sm b _ e1 nf
        exact ⟨_, e3⟩
      · exact ⟨o1, fl.1 b o1 (fold b o o1 q hb e1)⟩
  hok := fun a o q => (fhok a o q).stay (fun b u hb z => by
      rcases hb with rfl | hb
      · exact fl.1 b u (ftrk b _ u q z)
      · exact fl.1 b u (ftrk b _ u hb z)) (fun _ z => z) fun _ _ z => z
  fl := fl
  old := fun b o o' q hb z => by
    obtain ⟨o1, e1⟩ := fun_.there b o q (by simp)
    have e2 := fold b o o1 q hb e1
    have e3 := fl.1 b o1 e2
    rw [z] at e3; cases e3
    exact e2
  trk := fun b u o' q z => by
    obtain ⟨o1, e1⟩ := (fhok b u q).here
    have e2 := ftrk b u o1 q e1
    have e3 := fl.1 b o1 e2
    rw [z] at e3; cases e3
    exact e2
  frf := ffrf
  lo := lo
theorem Fly.move (F : Fly P w fr H h e cls a0 B H' h' bb) (fl : Heap.FlyingW B fr e cls a0 h'') (sm : h'.UpToSlots h'') (lo : Lone h'' e bb) : Fly P w fr H h e cls a0 B H' h'' bb := Fly.move0 F.un F.hok F.fl.2.2.1 F.old F.trk F.frf fl sm lo
theorem Fly.out {X : Cx} {pins : List (Addr × Obj)} {σ : St} {s : Shared} (I : Inv X pins σ H s) (hst : X.stack = X.env :: X.outer) (hex : X.ex = []) (F : Fly P w X.stack H s.heap e cls a0 B H' h' bb) : Fly P w X.outer X.H₀ X.s₀.heap e cls a0 B H' h' bb := by
  have nx : ∀ b : Addr, b ∉ X.ex := fun b z => by rw [hex] at z; cases z
  have ns : ∀ b o, X.s₀.heap.get? b = some o → b ∉ frs X.outer → b ∉ frs X.stack := fun b o q hb z => by
    rcases List.mem_cons.mp (I.stkSub b z) with r | r
    · subst r
      exact absurd (Nat.lt_of_lt_of_le (Heap.lt_size q) I.ok.above) (Nat.lt_irrefl _)
    · exact hb r
  have so : ∀ b ∈ frs X.outer, b ∈ frs X.stack := fun b z => by
    rw [hst]
    unfold frs at z ⊢
    rw [List.filterMap_cons]
    split
    · exact z
    · exact List.mem_cons_of_mem _ z
  refine ⟨⟨fun b o q n hb hx => ?_, fun b o q n hb hx => ?_, fun b o q n hx => ?_, fun b o q hx => ?_, fun b xs q => F.un.tups b xs (I.base.tups b xs q), fun b o u q => F.un.frzs b o u (I.base.frzs b o u q), fun b ps q => ?_⟩, F.hok, ?_, fun b o o' q hb z => ?_, F.trk, fun b hb => F.frf b (so b hb), F.lo⟩
  · exact F.un.keep b o (I.base.keep b o q n hb (nx b)) (I.base.free b o q n (nx b)) (ns b o q hb) (by simp)
  · obtain ⟨sl, e1⟩ := I.base.slot b o q n hb (nx b)
    obtain ⟨sl', e2⟩ := F.un.any e1 (I.base.free b o q n (nx b)) (by simp)
    exact ⟨sl', e2⟩
  · obtain ⟨o1, e1⟩ := I.base.there b o q (nx b)
    exact F.un.free b o1 e1 (I.base.free b o q n (nx b)) (by simp)
  · obtain ⟨o1, e1⟩ := I.base.there b o q (nx b)
    exact F.un.there b o1 e1 (by simp)
  · obtain ⟨m1, e1⟩ := I.base.tbls b ps q
    obtain ⟨m2, e2⟩ := F.un.tbls b _ e1
    exact ⟨m1 ++ m2, by rw [e2, Array.append_assoc]⟩
  · have f := F.fl
    rw [hst] at f
    exact ⟨f.1, f.2.1, f.2.2.1.2.2, f.2.2.2⟩
  · obtain ⟨o1, e1⟩ := I.base.there b o q (nx b)
    exact F.old b o1 o' e1 (ns b o q hb) z
end
def CX1 (P : Program) (w : World) : CXT := fun fr H s E ev s' => ∃ (e : Addr) (cls a0 : Value) (B : Heap) (H' : Hp) (bb : Option Addr), ev = .ref e ∧ s'.os = s.os ∧ AllBare s'.gens ∧ Fly P w fr H s.heap e cls a0 B H' s'.heap bb ∧ E cls bb H'
section
variable {P : Program} {w : World} {K : PySem.W.Frag} {mg : Str → Option Value} {base : Heap} {N : List Str} {qual : Str} {scope : Scope} {f : Addr} {cdv : Value} {A : Around} {outer : List Env} {s : Shared} {H : Hp} {E : XK}
abbrev cx1 (P : Program) (w : World) (K : PySem.W.Frag) (mg : Str → Option Value) (base : Heap) (N : List Str) (qual : Str) (scope : Scope) (f : Addr) (cdv : Value) (A : Around) (outer : List Env) (s : Shared) (H : Hp) (E : XK) : Cx := cxOf (CX1 P w) P w K mg base N qual scope f cdv A outer s H E
theorem pass1 : Passes (CX1 P w) (cx1 P w K mg base N qual scope f cdv A outer s H E) E := by
  intro pins σ H₁ s₁ ev s' I h
  obtain ⟨e, cls, a0, B, H', bb, rfl, os, bare, F, q⟩ := h
  show wpAny _ _ (leaving _ (.ref e)) _ _ s'
  refine leave_lone (B := B) I.ok.frames rfl F.fl F.lo fun h'' fl sm lo => ?_
  exact ⟨e, cls, a0, B, H', bb, rfl, os.trans I.os, bare, Fly.out I rfl rfl (F.move fl sm lo), q⟩
theorem leaves1 {pins : List (Addr × Obj)} {σ : St} {H₁ : Hp} {s₁ : Shared} {h' : Heap} {e : Addr} {cls : Value} {args : List Value} (I : Inv (cx1 P w K mg base N qual scope f cdv A outer s H E) pins σ H₁ s₁)
    (M : Heap.MadeExcOf s₁.heap h' e cls args) (q : E cls none H₁) : (cx1 P w K mg base N qual scope f cdv A outer s H E).xe (.ref e) { s₁ with heap := h' } := by
  obtain ⟨t, he, htn, ht⟩ := M.there
  show wpAny _ _ (leaving _ (.ref e)) _ _ _
  have st := I.stack
  have ff := PySem.W.funFrames_hide (as := frs (cx1 P w K mg base N qual scope f cdv A outer s H E).stack) st fun env hm a ha => List.mem_filterMap.mpr ⟨env, hm, ha⟩
  have hen : (PySem.W.hideAll s₁.heap (frs (cx1 P w K mg base N qual scope f cdv A outer s H E).stack)).get? e = none := by
    cases z : (PySem.W.hideAll s₁.heap (frs (cx1 P w K mg base N qual scope f cdv A outer s H E).stack)).get? e with
    | none => rfl
    | some o => have := PySem.W.of_hideAll _ z; rw [M.new] at this; cases this
  refine leave_made (b := none) (B := PySem.W.hideAll s₁.heap (frs (cx1 P w K mg base N qual scope f cdv A outer s H E).stack)) (a0 := .ref t) I.ok.frames (ff.of_keeps fun b o hb _ => ⟨o, M.keeps b o hb, rfl⟩) rfl he (fun b o z => M.keeps b o (PySem.W.of_hideAll _ z)) hen rfl rfl rfl rfl (fun _ => rfl) fun h'' fl k4 lo => ?_
  refine ⟨e, cls, .ref t, PySem.W.hideAll s₁.heap (frs (cx1 P w K mg base N qual scope f cdv A outer s H E).stack), H₁, none, rfl, I.os, I.bare, Fly.out I rfl rfl (Fly.move0 (h' := h') (Un.kept M.keeps) (I.hok.kept M.keeps) (ff.of_keeps fun b o hb _ => ⟨o, M.keeps b o hb, rfl⟩) (fun b o o' z hb zz => ?_) (fun b u o' z zz => ?_) I.stkFree fl k4 lo), q⟩
  · have := M.keeps b o z
    rw [zz] at this; cases this
    exact PySem.W.hideAll_get _ z hb
  · obtain ⟨o1, e1⟩ := (I.hok b u z).here
    have := M.keeps b o1 e1
    rw [zz] at this; cases this
    exact PySem.W.hideAll_get _ e1 fun hb => by rw [I.stkFree b hb] at z; cases z
end
end L2
namespace L2
open PySem PySem.Spec PyProof.Rows
abbrev bmV : List Value := [.type "ValueError", .type "Exception", .type "BaseException", .type "object"]
abbrev ExcC (K : PySem.W.Frag) (C : Addr) : Prop := PySem.W.excIn K C bmV "ValueError.__new__" = true
theorem own_in {K : PySem.W.Frag} {h : Heap} {mg : Str → Option Value} {x : Str} {C : Addr} {bmB : List Value} {newId : String} (X : K.In h) (hm : mg x = some (.ref C)) (q : PySem.W.excIn K C bmB newId = true) : OwnCls x C bmB newId mg h := by
  refine ⟨hm, ?_⟩
  unfold PySem.W.excIn at q
  split at q
  · rename_i dd cd sl ho
    split at q
    · rename_i C' bm k0 k1 k2 k3 n k5 hm hs
      simp only [Bool.and_eq_true, beq_iff_eq, Bool.not_eq_true'] at q
      obtain ⟨⟨⟨⟨⟨rfl, rfl⟩, hdel⟩, ht⟩, hok⟩, hni⟩ := q
      obtain ⟨nm, bs, mro, ns, qn, hd, sn, sub, ab, col, del⟩ := cd
      dsimp only at hm hdel hok hni
      subst hm hdel
      have hsl : sl = #[k0, k1, k2, k3, some (.builtin n), k5] := by
        obtain ⟨l⟩ := sl
        simp only at hs
        rw [hs]
      subst hsl
      exact ⟨bm, ns, nm, qn, bs, hd, sn, sub, ab, col, dd, k0, k1, k2, k3, k5, _, X _ _ ho, .of_isNs (PySem.W.isNs_of_in X hok), PySem.W.nsMap_none_of_in X hok hni, PySem.W.tail_of_in X ht⟩
    · cases q
  · cases q
def tRaise (E : XK) (cls : Value) (ta : TA) : TS := fun _ σ H => ta σ H fun vs H1 => vs.length ≤ sizeLine ∧ E cls none H1
section
variable {X : Cx} {E : XK} {C : Addr} {x : Str} {np cpos pos : Pos} {e₀ : Expr} {rest : List Expr} {ta : TA}
def Lvs (X : Cx) (E : XK) : Prop := ∀ (pins : List (Addr × Obj)) (σ : St) (H : Hp) (s : Shared) (h' : Heap) (e : Addr) (cls : Value) (args : List Value), Inv X pins σ H s → Heap.MadeExcOf s.heap h' e cls args → E cls none H → X.xe (.ref e) { s with heap := h' }
theorem ps_raise (L : Lvs X E) (O : ExcC X.K C) (hc : X.calm = true) (hg : Gl X x) (hm : X.mg x = some (.ref C)) (ha : PA X (e₀ :: rest) ta) (hdb : (x == ("__debug__" : Str)) = false := by decide)
    (he : starEach (e₀ :: rest) X.env = (false, eval e₀ X.env) :: starEach rest X.env := by rfl) (hpl : (backTo cpos (starEach rest X.env)).any (·.1) = false := by rfl) :
    PS X (.Raise (some (.Call (.Name x np) (e₀ :: rest) [] cpos)) none pos) (tRaise E (.ref C) ta) := by
  intro pins s σ H D I h
  obtain ⟨tl, N, nm, q, bs, hdct, sn, sub, ab, col, dd, k0, k1, k2, k3, k5, mN, hC, hN, hni, T⟩ := (own_in I.mod.kin hm O).obj
  refine wpAny_Raise_call_subT (C := C) (nm := nm) (q := q) (N := N) (bs := bs) (bm := tl) (hdct := hdct) (sn := sn) (sub := sub) (ab := ab) (col := col) (dd := dd) (k0 := k0) (k1 := k1) (k2 := k2) (k3 := k3) (k5 := k5)
    PySem.F.excBase_ValueError (mN := mN) (T.hasType (by decide)) (I.ok.hd hc) (by rw [he]; show (false || (backTo cpos (starEach rest X.env)).any (·.1)) = false; rw [hpl]; rfl) hni (ld_glob I hg hm ⟨rfl, ?_⟩ hdb)
  have hq := ha cpos pins s σ H _ I h
  rw [he] at hq ⊢
  refine Calls.evalArgs_plain (wpAny_mono hq (fun us s₂ h₂ => ?_) fun _ _ y => y)
  obtain ⟨vs, H2, I2, r, z, ez⟩ := h₂
  refine ⟨rfl, by rw [← r.length]; exact z, I2.bk _ _ hC, hN.keeps I2.bk, T.keeps I2.bk, fun h' e M => L pins σ H2 s₂ h' e _ _ I2 M ez⟩
end
section
variable {P : Program} {w : World} {K : PySem.W.Frag} {mg : Str → Option Value} {base : Heap} {N : List Str} {qual : Str} {scope : Scope} {f : Addr} {cdv : Value} {A : Around} {outer : List Env} {s : Shared} {H : Hp} {E : XK}
theorem lvs1 : Lvs (cx1 P w K mg base N qual scope f cdv A outer s H E) E := fun _ _ _ _ _ _ _ _ I M q => leaves1 I M q
theorem own1 : PassesOwn (model P w) (cx1 P w K mg base N qual scope f cdv A outer s H E).A (cx1 P w K mg base N qual scope f cdv A outer s H E).env (cx1 P w K mg base N qual scope f cdv A outer s H E).xe := PassesOwn.leaving
theorem Fun.okX {x qual : Str} {st : Stmt} {f : Addr} {fd : FuncData} {N ps : List Str} {k : Nat} {sp : Sp} (F : Fun K x qual st f fd) (S : FnScope N ps (defScope st)) (len : ∀ vs H Q E, sp vs H Q E → vs.length = ps.length)
    (hbody : ∀ (cdv : Value) (A : Around) (outer : List Env) (s : Shared) (H : Hp) (vs : List V) (Q : VK) (E : XK), Room k (A.deeper (envOfC qual (defScope st) s.heap.objs.size f cdv)) → sp vs H Q E →
      ∃ t, PSs (cx1 P w K mg base N qual (defScope st) f cdv A outer s H E) (defBody st) t ∧ t { nx := fun _ H' => Q .non H', rt := Q } (start N vs) H) : FnOk P w K mg base (CX1 P w) (k + 1) f fd ps sp := by
  obtain ⟨oc, od, kV, doc, pm, an, cdv, ct, osl, rfl, lk, hcd⟩ := F.ex
  exact fn_of lk hcd S len fun A outer s H vs Q E hr hsp => hbody cdv A outer s H vs Q E hr hsp
end
end L2
namespace L2
open PySem PySem.Spec PyProof.Rows PySem.W PySem.Builtin PySem.Builtin.ObjectAttr PySem.Builtin.Getset_descriptor
structure ExcI (K : Frag) (C : Addr) : Prop where
  ga : findIn K (.ref C) "__getattribute__" = some (some (.builtin "BaseException.__getattribute__"))
  gt : findIn K (.ref C) "__getattr__" = some none
  fd : findIn K (.ref C) "__class__" = some (some (.builtin "object.__class__"))
  sp : specialIn K (.builtin "object.__class__") "__get__" = some (some (.builtin "getset_descriptor.__get__"))
  tk : takesIn K (.builtin "object.__class__") = some true
  mo : mroIn K C (.type "object") = some true
  mb : mroIn K C (.type "BaseException") = some true
  cl : (clsIn K C).isSome = true
def EAt (h : Heap) (x C : Addr) (b : Option Addr := none) : Prop := ∃ ox, h.get? x = some ox ∧ ox.cls = .ref C ∧ ∃ vs c, ox.data = .fields vs ∧ vs[2]? = some c ∧ (b = none → c = Value.none)
theorem EAt.type {M : Model} {h : Heap} {x C : Addr} {bb : Option Addr} (I : EAt h x C bb) : Looks M h (typeOf (.ref x)) (.ref C) := by
  obtain ⟨ox, h1, h2, _⟩ := I
  exact h2 ▸ (Looks.ld h1).andThen .now
section
variable {prog : Program} {w : World} {A : Around} {E : Value → Shared → Prop} {s : Shared} {K : Frag} {x C : Addr}
theorem exc_find {M : Model} {h : Heap} (X : K.In h) (c : ExcI K C) : Looks M h (Builtin.ObjectAttr.find (.ref x) (.ref C) "__class__") (.bind (.builtin "getset_descriptor.__get__") (.builtin "object.__class__")) := by
  refine (looks_findIn X c.fd).andThen ((looks_specialIn X c.sp).andThen ?_)
  exact (show Looks M h (Builtin.ObjectAttr.dataDescriptor? (some (.builtin "object.__class__")) (some (.builtin "getset_descriptor.__get__"))) (some (.builtin "getset_descriptor.__get__", .builtin "object.__class__")) from (looks_takesIn X c.tk).andThen .now).andThen (Looks.tag .now)
theorem exc_class_get {bb : Option Addr} {R : Result → Shared → Prop} {tp : Value} (X : K.In s.heap) (I : EAt s.heap x C bb) (hm : mroIn K C (.type "object") = some true)
    (h : R (.ok (.ret (.ref C))) s) : codeAny (model prog w) A (.call (.builtin "getset_descriptor.__get__") ⟨[.builtin "object.__class__", .ref x, tp], []⟩) R s := by
  obtain ⟨hh, g, dr, t, os⟩ := s
  have L0 := I.type (M := model prog w)
  have L1 := looks_mroIn (M := model prog w) X hm
  refine codeAny_call_builtin KF.slot_gs.plain KF.entry_gs (KF.slot_gs.check _ _ _ _ _ _ _ _ KF.type_class (KF.args_gs _ _ _) ?_)
  unfold Builtin.«getset_descriptor.__get__» descrGet
  rw [dga_obj]
  refine wpAny_bind (wpAny_pure ?_)
  unfold descrGetter descrCheckInstance descrNameAndClass isInstance
  simp only [KF.owner_class]
  repeat lk
  refine ⟨Code.quiet_builtin _ (by decide +kernel), codeAny_builtin KF.entry_class ?_⟩
  unfold Builtin.«object.__class__» shownTypeOf
  repeat lk
  exact h
theorem exc_ga_check {bb : Option Addr} {M : Model} {nameV : Value} {Q : Unit → Shared → Prop} (c : ExcI K C) (X : K.In s.heap) (I : EAt s.heap x C bb) (hq : Q () s) : wpAny M A (checkBuiltinCall "BaseException.__getattribute__" ⟨[.ref x, nameV], []⟩) Q E s := by
  obtain ⟨h, g, d, t, os⟩ := s
  have hk : builtinKind "BaseException.__getattribute__" = some .slot := by decide +kernel
  have hsplit : splitId "BaseException.__getattribute__" = some ("BaseException", "__getattribute__") := by decide +kernel
  have L0 : Looks M h (isInstance (.ref x) (.type "BaseException")) true := I.type.andThen (looks_mroIn X c.mb)
  have ha := F.args_bexc_ga (.ref x) nameV
  simp only [checkBuiltinCall, hk, hsplit]
  refine wpAny_bind (L0.at ?_)
  repeat (any_goals (first | assumption | wp_step))
theorem exc_class_call {bb : Option Addr} {tk : Tok} {R : Result → Shared → Prop} (c : ExcI K C) (X : K.In s.heap) (I : EAt s.heap x C bb) (h : R (.ok (.ret (.ref C))) s) :
    codeAny (model prog w) A (.call (.builtin "BaseException.__getattribute__") ⟨[.ref x, .str "__class__" tk], []⟩) R s := by
  refine codeAny_call_builtin F.attrBase_ValueError.ga.plain F.entry_bexc_ga (exc_ga_check c X I ?_)
  have L0 := I.type (M := model prog w)
  have L1 := exc_find (x := x) (M := model prog w) X c
  obtain ⟨hh, gg, d, t, os⟩ := s
  unfold Builtin.«object.__getattribute__»
  repeat (any_goals (first | assumption | with_reducible refine wpAny_bind (L0.at ?_) | with_reducible refine wpAny_bind (L1.at ?_) | wp_step))
  exact exc_class_get X I c.mo (wpAny_pure h)
theorem exc_class {bb : Option Addr} {Q : Option Value → Shared → Prop} (c : ExcI K C) (X : K.In s.heap) (I : EAt s.heap x C bb) (h : Q (some (.ref C)) { s with toks := s.toks + 1 }) : wpAny (model prog w) A (getAttr? (.ref x) "__class__") Q E s := by
  obtain ⟨hh, g, d, t, os⟩ := s
  have L0 := I.type (M := model prog w)
  have L1 := looks_findIn (M := model prog w) X c.ga
  have L2 := looks_findIn (M := model prog w) X c.gt
  have f3 := F.attrBase_ValueError.ga.bind (.ref x)
  have hx2 : (Value.builtin "BaseException.__getattribute__" == Value.builtin "object.__getattribute__") = false := by decide +kernel
  have hx1 : (onTheHeap (Value.ref C) && Value.builtin "BaseException.__getattribute__" == Value.builtin "object.__getattribute__") = false := by rw [hx2]; rfl
  unfold getAttr? getAttrBy? getAttrBy
  refine wpAny_bind (wpAny_mkText (wpAny_bind (wpAny_attempt (wpAny_holding (wpAny_bind (L0.at (wpAny_bind (L1.at ?_))))))))
  dsimp only
  rw [hx1, if_neg Bool.false_ne_true]
  unfold getAttrByItsOwn hookBefore
  rw [if_pos (show onTheHeap (Value.ref C) = true from rfl)]
  refine wpAny_bind (L2.at ?_)
  refine wpAny_bind (wpAny_attempt (wpAny_holding ?_))
  unfold callGetattribute boundAndCalled
  rw [Bool.false_and, if_neg Bool.false_ne_true]
  refine wpAny_bind (wpAny_of_eq f3 ?_)
  refine wpAny_call (exc_class_call (s := ⟨hh, g, d, t + 1, os⟩) c X I ?_)
  exact handed_on rfl (wpAny_pure h)
theorem kitx_exc {bb : Option Addr} (c : ExcI K C) : KitX K (.ref x) (.ref C) (fun h => EAt h x C bb) where
  ty := fun _ _ _ I => I.type
  it := fun _ _ X _ => by
    obtain ⟨cdD, hcD⟩ := Option.isSome_iff_exists.mp c.cl
    unfold clsIn at hcD
    split at hcD
    · rename_i c' d' cd' sl' ho
      intro A' Q' E' s' k q
      unfold isType loadHead
      exact wpAny_bind (wpAny_loadPart (k _ _ (X _ _ ho)) (wpAny_pure q))
    · cases hcD
  ne := fun h tp dd its n sl X htp => by
    obtain ⟨cdD, hcD⟩ := Option.isSome_iff_exists.mp c.cl
    refine Bool.eq_false_iff.mpr fun q => ?_
    have e : C = tp := Value.ref.inj (beq_iff_eq.mp q)
    subst e
    unfold clsIn at hcD
    split at hcD
    · rename_i c' d' cd' sl' ho
      have z := (X _ _ ho).symm.trans htp
      cases z
    · cases hcD
  ca := fun X I k => exc_class c X I k
end
abbrev HO.exc (e C : Addr) (bb : Option Addr := none) : HO := .ext fun h => EAt h e C bb
theorem EAt.ok {P : Program} {w : World} {H : Hp} {e C : Addr} {h : Heap} {bb : Option Addr} (x : EAt h e C bb) : ObjOk P w H h e (.exc e C bb) := by
  obtain ⟨ox, h1, h2, _⟩ := id x
  refine ⟨x, ⟨ox, h1⟩, fun g1 g2 p k => ?_⟩
  obtain ⟨oy, a1, a2⟩ := p
  exact ⟨oy, k _ a1, a2⟩
def rIsiX (K : Frag) : List V → Hp → VK → Prop := fun xs H Q => ∃ (e C : Addr) (c : V) (cv : Value) (b : Bool), xs = [.ref e, c] ∧ H e = some (.exc e C) ∧ ExcI K C ∧ (∀ u, RelV c u → u = cv) ∧ kitOne K (.ref C) cv = some b ∧ Q (.bl b) H
theorem call_isiX {X : Cx} {K : Frag} (hK : X.K = K) : CallR X (.builtin "isinstance") (rIsiX K) := by
  subst hK
  intro pins s σ H xs us Q I r h
  obtain ⟨e, C, c, cv, b, rfl, he, ci, hc, hb, q⟩ := h
  match us, r with
  | [u1, u2], .cons r1 (.cons r2 .nil) =>
    obtain rfl : u1 = .ref e := r1
    obtain rfl := hc _ r2
    obtain ⟨x, _, _⟩ := I.hok e _ he
    exact kia_one (kitx_exc ci) I.kIn x hb (fun z => nomatch z) fun tk => ⟨.bl b, H, I.tok tk, rfl, q⟩
def rIsiXW (K : Frag) : List V → Hp → VK → Prop := fun xs H Q => ∃ (e C : Addr) (bb : Option Addr) (c : V) (cv : Value) (b : Bool), xs = [.ref e, c] ∧ H e = some (.exc e C bb) ∧ ExcI K C ∧ (∀ u, RelV c u → u = cv) ∧ kitOne K (.ref C) cv = some b ∧ Q (.bl b) H
theorem call_isiXW {X : Cx} {K : Frag} (hK : X.K = K) : CallR X (.builtin "isinstance") (rIsiXW K) := by
  subst hK
  intro pins s σ H xs us Q I r h
  obtain ⟨e, C, bb, c, cv, b, rfl, he, ci, hc, hb, q⟩ := h
  match us, r with
  | [u1, u2], .cons r1 (.cons r2 .nil) =>
    obtain rfl : u1 = .ref e := r1
    obtain rfl := hc _ r2
    obtain ⟨x, _, _⟩ := I.hok e _ he
    exact kia_one (kitx_exc ci) I.kIn x hb (fun z => nomatch z) fun tk => ⟨.bl b, H, I.tok tk, rfl, q⟩
end L2
namespace L2
open PySem PySem.Spec PyProof.Rows PySem.W
structure ExcM (K : Frag) (C D : Addr) (b : Bool) : Prop where
  ty : typeIn K (.ref D) = some (.type "type")
  cd : (clsIn K D).isSome = true
  mb : mroIn K D (.type "BaseException") = some true
  mc : mroIn K C (.ref D) = some b
section
variable {M : Model} {A : Around} {E : Value → Shared → Prop} {s : Shared} {K : Frag} {e C D : Addr} {b : Bool}
theorem isType_in {h : Heap} (X : K.In h) (c : (clsIn K D).isSome = true) : Looks M h (isType (.ref D)) true := by
  obtain ⟨cdD, hcD⟩ := Option.isSome_iff_exists.mp c
  unfold clsIn at hcD
  split at hcD
  · rename_i c' d' cd' sl' ho
    intro A' Q' E' s' k q
    unfold isType loadHead
    exact wpAny_bind (wpAny_loadPart (k _ _ (X _ _ ho)) (wpAny_pure q))
  · cases hcD
theorem exc_matches {bb : Option Addr} {Q : Bool → Shared → Prop} (m : ExcM K C D b) (X : K.In s.heap) (I : EAt s.heap e C bb) (hq : Q b s) : wpAny M A (excMatches (.ref e) (.ref D)) Q E s := by
  obtain ⟨h, g, d, t, os⟩ := s
  have L1 : Looks M h (isInstance (.ref D) (.type "tuple")) false := (looks_typeIn X m.ty).andThen (Looks.of_pure tc_notTuple)
  have L2 := isType_in (M := M) X m.cd
  have L3 := looks_mroIn (M := M) X m.mb
  have L4 := I.type (M := M)
  have L5 := looks_mroIn (M := M) X m.mc
  have L6 : Looks M h (isExcClass (.ref D)) true := L2.andThen L3
  unfold excMatches
  refine wpAny_bind (L1.at ?_)
  rw [if_neg Bool.false_ne_true]
  refine wpAny_bind (wpAny_pure ?_)
  simp only [List.forIn_cons, List.forIn_nil]
  refine wpAny_bind (wpAny_bind (wpAny_bind (L6.at ?_)))
  simp only [Bool.not_true, Bool.false_eq_true, if_false]
  refine wpAny_pure (wpAny_pure (wpAny_bind (L4.at ?_)))
  refine wpAny_bind (wpAny_bind (wpAny_bind (L5.at ?_)))
  cases b
  · exact wpAny_pure (wpAny_pure (wpAny_pure hq))
  · exact wpAny_pure (wpAny_pure (wpAny_pure hq))
end
def Held (X : Cx) (pins : List (Addr × Obj)) (σ : St) (H : Hp) (s : Shared) (e : Addr) (cls : Value) (bb : Option Addr := none) : Prop :=
  ∃ (H₁ : Hp) (s₁ : Shared) (B : Heap) (a0 : Value), Inv X pins σ H₁ s₁ ∧ s.os = s₁.os ∧ AllBare s.gens ∧ Fly X.prog X.w X.stack H₁ s₁.heap e cls a0 B H s.heap bb
section
variable {X : Cx} {pins : List (Addr × Obj)} {σ : St} {H : Hp} {s : Shared} {e : Addr} {cls : Value} {bb : Option Addr}
theorem Held.inv (h : Held X pins σ H s e cls bb) : Inv X pins σ H s := by
  obtain ⟨H₁, s₁, B, a0, I, os, bare, F⟩ := h
  exact I.call' (ch := []) os F.un F.hok bare fun b z => absurd z (by simp)
theorem Held.eat {C : Addr} (h : Held X pins σ H s e (.ref C) bb) : EAt s.heap e C bb := by
  obtain ⟨H₁, s₁, B, a0, I, os, bare, F⟩ := h
  obtain ⟨o, h1, h2⟩ := F.fl.there
  obtain ⟨o', vs, c, g1, g2, g3, g4⟩ := F.lo
  rw [h1] at g1
  cases g1
  exact ⟨o, h1, h2, vs, c, g2, g3, g4⟩
theorem Held.free (h : Held X pins σ H s e cls bb) : H e = none := by
  obtain ⟨H₁, s₁, B, a0, I, os, bare, F⟩ := h
  cases q : H e with
  | none => rfl
  | some u =>
    obtain ⟨o, ho⟩ := (F.hok e u q).here
    have := F.trk e u o q ho
    rw [F.fl.2.1] at this; cases this
theorem Held.lands {M : Model} {A : Around} {E : Value → Shared → Prop} {Q : Unit → Shared → Prop} (h : Held X pins σ H s e cls bb) (k : ∀ h', Held X pins σ H { s with heap := h' } e cls bb → Q () { s with heap := h' }) : wpAny M A (setFlight (.ref e) none) Q E s := by
  obtain ⟨H₁, s₁, B, a0, I, os, bare, F⟩ := h
  exact land_lone F.fl.1 F.fl.2.1 F.fl.2.2.1 F.fl.2.2.2.at F.lo fun h' fl sm lo => k h' ⟨H₁, s₁, B, a0, I, os, bare, F.move fl sm lo⟩
theorem Held.track {C : Addr} (h : Held X pins σ H s e (.ref C) bb) : Inv X pins σ (upd H e (.exc e C bb)) s := by
  have hf := h.free
  have hx := h.eat
  obtain ⟨H₁, s₁, B, a0, I, os, bare, F⟩ := h
  have new : s₁.heap.get? e = none := by
    cases q : s₁.heap.get? e with
    | none => rfl
    | some o =>
      obtain ⟨o', ho'⟩ := F.un.there e o q (by simp)
      by_cases hb : e ∈ frs X.stack
      · obtain ⟨_, o2, e2, nf⟩ := F.fl.2.2.1.mem hb
        obtain ⟨oe, vs, T, oT, ts, he, _, hd, _⟩ := F.fl.2.2.2
        rw [he] at e2; cases e2
        exact absurd hd (nf vs)
      · have := F.old e o o' q hb ho'
        rw [F.fl.2.1] at this; cases this
  have ne : ∀ b o, s₁.heap.get? b = some o → b ≠ e := fun b o q z => by rw [z, new] at q; cases q
  have nt : ∀ b u, H b = some u → b ≠ e := fun b u q z => by rw [z, hf] at q; cases q
  refine I.call' (ch := []) os ⟨F.un.keep, F.un.slot, fun b o q n hx => ?_, F.un.there, fun b xs q => ?_, fun b o u q => ?_, fun b ps q => ?_⟩ (fun b u q => ?_) bare fun b z => absurd z (by simp)
  · rw [upd_ne (ne b o q)]; exact F.un.free b o q n hx
  · have := F.un.tups b xs q
    rw [upd_ne (nt b _ this)]; exact this
  · have := F.un.frzs b o u q
    rw [upd_ne (nt b _ this)]; exact this
  · obtain ⟨m, e1⟩ := F.un.tbls b ps q
    exact ⟨m, by rw [upd_ne (nt b _ e1)]; exact e1⟩
  · by_cases hb : b = e
    · subst hb
      rw [upd_same] at q; cases q
      exact hx.ok
    · rw [upd_ne hb] at q
      exact (F.hok b u q).stay (fun _ _ _ z => z) (fun c z => by rw [upd_ne (nt c _ z)]; exact z) fun c xs z => by rw [upd_ne (nt c _ z)]; exact z
end
abbrev Xh (X : Cx) (e : Addr) : Cx := { X with A := X.A.mark (some (.ref e)), calm := false, xe := fun _ _ => False }
section
variable {X : Cx} {pins : List (Addr × Obj)} {σ : St} {H : Hp} {s : Shared} {e : Addr} {D : Ends}
theorem Inv.toH (I : Inv X pins σ H s) (e : Addr) : Inv (Xh X e) pins σ H s :=
  ⟨⟨I.ok.mod, I.ok.kind, I.ok.glob, I.ok.blt, I.ok.above, I.ok.inj, I.ok.has, I.ok.cab, (fun h => Bool.noConfusion h), I.ok.frames, I.ok.stk, I.ok.exf, I.ok.bs, I.ok.bsz, I.ok.noex, I.ok.exfs, I.ok.funs, I.ok.frf⟩, I.os, I.bare, I.base, I.loc, I.cell, I.free, I.freeC, I.pin, I.hok, I.len⟩
theorem Inv.ofH (I : Inv (Xh X e) pins σ H s) (ok : X.Ok) : Inv X pins σ H s := ⟨ok, I.os, I.bare, I.base, I.loc, I.cell, I.free, I.freeC, I.pin, I.hok, I.len⟩
theorem SP.ofH {f : Flow} {s' : Shared} (h : SP (Xh X e) pins D f s') (ok : X.Ok) : SP X pins D f s' := by
  cases f with
  | next => obtain ⟨σ', H', I, q⟩ := h; exact ⟨σ', H', I.ofH ok, q⟩
  | brk => obtain ⟨σ', H', I, q⟩ := h; exact ⟨σ', H', I.ofH ok, q⟩
  | cont => obtain ⟨σ', H', I, q⟩ := h; exact ⟨σ', H', I.ofH ok, q⟩
  | ret u => obtain ⟨v, σ', H', I, r, q⟩ := h; exact ⟨v, σ', H', I.ofH ok, r, q⟩
theorem gone_ok {M : Model} {A : Around} {E : Value → Shared → Prop} {i : Nat} {x : Str} {pos : Pos} {Q : Unit → Shared → Prop} (I : Inv X pins σ H s) (hN : X.N.Nodup) (hi : X.N[i]? = some x) (hk : X.env.scope.names.lookup x = some .local)
    (h : ∀ s', Inv X pins (σ.set i none) H s' → Q () s') : wpAny M A (do bindName X.env x .none; unbindBehindTheSuite X.env x pos) Q E s := by
  obtain ⟨m, hn, hl⟩ := id I.loc
  have hcls : (X.env.scope.kind == .class || (X.env.scope.kind == .module && X.env.locals != X.env.globals)) = false := by rw [I.ok.kind]; rfl
  have hiσ : i < σ.length := by rw [I.len]; exact (List.getElem?_eq_some_iff.mp hi).1
  have cne := I.cne
  obtain ⟨oL, _, _, hoL, _⟩ := id hn
  refine wpAny_nameGoes_keeps hk hn hcls fun h' v hn' hs => ?_
  refine h _ ⟨I.ok, I.os, I.bare, ⟨fun b o e n hb hx => ?_, fun b o e n hb hx => ?_, I.base.free, fun b o e hx => ?_, I.base.tups, I.base.frzs, I.base.tbls⟩, ⟨_, hn', fun j y v' e1 e2 e3 => ?_⟩, fun y c e => ?_, I.free, I.freeC, fun p hp => ?_, fun b ob e => ?_, by simpa using I.len⟩
  · exact (hs.2 b (Nat.ne_of_lt (Nat.lt_of_lt_of_le (Heap.lt_size e) I.ok.above))).trans (I.base.keep b o e n hb hx)
  · obtain ⟨sl, e1⟩ := I.base.slot b o e n hb hx
    exact ⟨sl, (hs.2 b (Nat.ne_of_lt (Nat.lt_of_lt_of_le (Heap.lt_size e) I.ok.above))).trans e1⟩
  · obtain ⟨o', e1⟩ := I.base.there b o e hx
    exact ⟨o', (hs.2 b (Nat.ne_of_lt (Nat.lt_of_lt_of_le (Heap.lt_size e) I.ok.above))).trans e1⟩
  · by_cases hj : j = i
    · subst hj
      rw [List.getElem?_set_self hiσ] at e2
      cases e2
    · rw [List.getElem?_set_ne (Ne.symm hj)] at e2
      obtain ⟨u', r', q⟩ := hl j y v' e1 e2 e3
      refine ⟨u', r', ?_⟩
      rcases q with ⟨k, e⟩ | ⟨k, c, e, z⟩
      · refine .inl ⟨k, ?_⟩
        have : y ≠ x := fun e => hj (nodup_ix hN e1 (e ▸ hi))
        simp [this, e]
      · exact .inr ⟨k, c, e, z.sameBut hs (cne y c e)⟩
  · obtain ⟨w', z⟩ := I.cell y c e
    exact ⟨w', z.sameBut hs (cne y c e)⟩
  · obtain ⟨e, n, ne, nf, d⟩ := I.pin p hp
    exact ⟨(hs.2 p.1 ne).trans e, n, ne, nf, d⟩
  · refine (I.hok b ob e).stay (fun c w' hc q => (hs.2 c ?_).trans q) (fun _ q => q) fun _ _ q => q
    rintro rfl
    rcases hc with rfl | hc
    · rw [I.free] at e; cases e
    · rw [I.free] at hc; cases hc
end
abbrev TH := Ends → St → Value → Addr → Hp → Prop
def PH (X : Cx) (hs : List ExceptHandler) (th : TH) : Prop :=
  ∀ (pins : List (Addr × Obj)) (s : Shared) (σ : St) (H : Hp) (D : Ends) (e : Addr) (cls : Value), Held X pins σ H s e cls → th D σ cls e H → wpAny (model X.prog X.w) X.A (handleBy (.ref e) X.env hs) (SP X pins D) X.xe s
def thNil : TH := fun _ _ _ _ _ => False
def tHd (K : Frag) (D : Addr) (ts : TS) (th : TH) : TH := fun Dn σ cls e H => ∃ C b, cls = .ref C ∧ ExcM K C D b ∧ if b = true then ts Dn σ H else th Dn σ cls e H
section
variable {X : Cx} {hs : List ExceptHandler} {th : TH} {ts : TS} {D : Addr} {x n : Str} {np pos : Pos} {b₀ : Stmt} {suite : List Stmt} {i : Nat}
theorem ph_nil : PH X [] thNil := fun _ _ _ _ _ _ _ _ h => h.elim
end
def xeT (X : Cx) (pins : List (Addr × Obj)) (Es : St → XK) : Value → Shared → Prop := fun ev s' => ∃ (σ : St) (H₁ : Hp) (s₁ : Shared), Inv X pins σ H₁ s₁ ∧ CX1 X.prog X.w X.stack H₁ s₁ (Es σ) ev s'
abbrev Xt (X : Cx) (pins : List (Addr × Obj)) (Es : St → XK) : Cx := { X with pn := X.pn ++ pins, xe := xeT X pins Es }
def tTry (tb : (St → XK) → TS) (th : TH) : TS := fun D σ H => tb (fun σ' cls bb H' => match bb with | none => ∀ e, H' e = none → th D σ' cls e H' | some _ => False) D σ H
def tCallT (sp : Sp) (Es : St → XK) (t : TA) : TE := fun σ H Q => t σ H fun vs H1 => sp vs H1 Q (Es σ)
section
variable {X : Cx} {pins : List (Addr × Obj)} {Es : St → XK} {σ : St} {H : Hp} {s : Shared}
theorem Inv.toT (I : Inv X pins σ H s) : Inv (Xt X pins Es) [] σ H s :=
  ⟨⟨I.ok.mod, I.ok.kind, I.ok.glob, I.ok.blt, I.ok.above, I.ok.inj, I.ok.has, I.ok.cab, I.ok.hd, I.ok.frames, I.ok.stk, I.ok.exf, I.ok.bs, I.ok.bsz, I.ok.noex, I.ok.exfs, I.ok.funs, I.ok.frf⟩, I.os, I.bare, I.base, I.loc, I.cell, I.free, I.freeC, fun p hp => I.pin p (by simpa using hp), I.hok, I.len⟩
theorem Inv.ofT {ps' : List (Addr × Obj)} (I : Inv (Xt X pins Es) ps' σ H s) : Inv X pins σ H s :=
  ⟨⟨I.ok.mod, I.ok.kind, I.ok.glob, I.ok.blt, I.ok.above, I.ok.inj, I.ok.has, I.ok.cab, I.ok.hd, I.ok.frames, I.ok.stk, I.ok.exf, I.ok.bs, I.ok.bsz, I.ok.noex, I.ok.exfs, I.ok.funs, I.ok.frf⟩, I.os, I.bare, I.base, I.loc, I.cell, I.free, I.freeC, fun p hp => I.pin p (List.mem_append_left _ hp), I.hok, I.len⟩
theorem SP.ofT {D : Ends} {f : Flow} {s' : Shared} (h : SP (Xt X pins Es) [] D f s') : SP X pins D f s' := by
  cases f with
  | next => obtain ⟨σ', H', I, q⟩ := h; exact ⟨σ', H', I.ofT, q⟩
  | brk => obtain ⟨σ', H', I, q⟩ := h; exact ⟨σ', H', I.ofT, q⟩
  | cont => obtain ⟨σ', H', I, q⟩ := h; exact ⟨σ', H', I.ofT, q⟩
  | ret u => obtain ⟨v, σ', H', I, r, q⟩ := h; exact ⟨v, σ', H', I.ofT, r, q⟩
theorem ps_try {body : List Stmt} {h₀ : ExceptHandler} {hs : List ExceptHandler} {pos : Pos} {tb : (St → XK) → TS} {th : TH} (hb : ∀ pins Es, PSs (Xt X pins Es) body (tb Es)) (hh : PH X (h₀ :: hs) th)
    (hst : X.stack = X.env :: X.outer := by rfl) (hfr : X.env.frame = some X.env.locals := by rfl) : PS X (.Try body (h₀ :: hs) [] [] pos) (tTry tb th) := by
  intro pins s σ H D I h
  refine wpAny_Try_except (wpAny_mono (hb pins _ [] s σ H D I.toT h) (fun f s₁ z => ?_) fun ev s₁ z => ?_)
  · have z := z.ofT
    cases f with
    | next => exact wpAny_execs_nil z
    | brk => exact z
    | cont => exact z
    | ret u => exact z
  · obtain ⟨σ', H₁, s₁', I', e, cls, a0, B, H', bb, rfl, os, bare, F, q⟩ := z
    cases bb with
    | some _ => exact False.elim q
    | none =>
    have ff := I'.ok.frames
    have fl := F.fl
    rw [hst] at ff fl
    refine note_lone ff hfr fl F.lo fun h₄ held sm lo => ?_
    refine land_lone (s := { s₁ with heap := h₄ }) held.1 held.2.1 held.2.2.1 held.2.2.2 lo fun h₅ fl5 sm5 lo5 => ?_
    have hd : Held X pins σ' H' { s₁ with heap := h₅ } e cls := ⟨H₁, s₁', B, a0, I', os, bare, F.move (by rw [hst]; exact fl5) (sm.trans sm5) lo5⟩
    exact hh pins _ σ' H' D e cls hd (q e hd.free)
theorem pe_callT {CXk : Nat} {f : Addr} {fd : FuncData} {ps : List Str} {sp : Sp} {x : Str} {e : Expr} {es : List Expr} {p pos : Pos} {t : TA} (F : FnOk X.prog X.w X.K X.mg X.base (CX1 X.prog X.w) CXk f fd ps sp) (hr : Room CXk X.A) (hg : Gl X x) (hm : X.mg x = some (.ref f)) (hk : PySem.W.keepIn X.K (.ref f) = true) (hb : Binds X.K fd ps [])
    (ha : PA (Xt X pins Es) (e :: es) t) (hdb : (x == ("__debug__" : Str)) = false := by decide) (he : starEach (e :: es) X.env = (false, eval e X.env) :: starEach es X.env := by rfl) (hpl : (backTo pos (starEach es X.env)).any (·.1) = false := by rfl) :
    PE (Xt X pins Es) (.Call (.Name x p) (e :: es) [] pos) (tCallT sp Es t) := by
  intro pins' s σ H Q I h
  refine wpAny_Call_Name_kw (ld_glob I hg hm ?_ hdb)
  refine PySem.W.callWith_K (h₀ := X.base) I.ok.mod.kin hk (thn (ha pos pins' s σ H _ I h) fun us s1 ⟨vs, H1, I1, r, q⟩ => ⟨I1.kIn, ?_⟩) he hpl
  have hl : us.length = ps.length := by rw [← r.length]; exact F.len _ _ _ _ q
  have bb := hb s1 us I1.kIn (by rw [List.append_nil]; exact hl)
  rw [List.append_nil] at bb
  refine wpAny_call (codeAny_mono (F.run X.A X.stack s1 H1 ⟨us, []⟩ us vs Q (Es σ) hr I1.env0 bb r q) fun r s' hq => ?_)
  cases r with
  | error ev => exact ⟨σ, H1, s1, I1.ofT, hq⟩
  | ok fl =>
    cases fl with
    | ret u => exact I1.after hq
    | next => exact False.elim hq
    | brk => exact False.elim hq
    | cont => exact False.elim hq
end
end L2
namespace L2
open PySem PySem.Spec PyProof.Rows
structure RoomH (k : Nat) (A : Around) : Prop where
  gd : A.guards = some []
  dp : A.depth + 3 * k + 5 < recursionLimit
  un : A.units + 16 * k + 200 < cLine
theorem Room.mark {k : Nat} {A : Around} (r : Room k A) (e : Addr) : RoomH k (A.mark (some (.ref e))) := ⟨r.gd, r.dp, r.un⟩
theorem RoomH.mono {j k : Nat} {A : Around} (r : RoomH k A) (h : j ≤ k) : RoomH j A := ⟨r.gd, by have := r.dp; omega, by have := r.un; omega⟩
theorem RoomH.deeper {k : Nat} {A : Around} (r : RoomH (k + 1) A) (env : Env) : RoomH k (A.deeper env) :=
  ⟨r.gd, by have := r.dp; show A.depth + 1 + 3 * k + 5 < _; omega, by have := r.un; show A.units + 3 + 16 * k + 200 < _; omega⟩
theorem RoomH.depth {k : Nat} {A : Around} (r : RoomH k A) : A.depth < recursionLimit := by have := r.dp; omega
structure FnOkH (P : Program) (w : World) (K : PySem.W.Frag) (mg : Str → Option Value) (base : Heap) (k : Nat) (f : Addr) (fd : FuncData) (ps : List Str) (sp : Sp) : Prop where
  len : ∀ vs H Q E, sp vs H Q E → vs.length = ps.length
  run : ∀ (A : Around) (outer : List Env) (s : Shared) (H : Hp) (args : Args) (us : List Value) (vs : List V) (Q : VK) (E : XK), RoomH k A → Env0 P w K mg base A outer s H → BindsTo s fd args (ps.zip us) → Vals vs us → sp vs H Q E →
    codeAny (model P w) A (.call (.ref f) args) (CR CX0 outer P w H s Q E) s
section
variable {P : Program} {w : World} {K : PySem.W.Frag} {mg : Str → Option Value} {base : Heap} {N ps : List Str} {qual : Str} {scope : Scope} {f : Addr} {cdv : Value} {A : Around} {outer : List Env} {s : Shared} {H : Hp} {E : XK}
abbrev cxH (P : Program) (w : World) (K : PySem.W.Frag) (mg : Str → Option Value) (base : Heap) (N : List Str) (qual : Str) (scope : Scope) (f : Addr) (cdv : Value) (A : Around) (outer : List Env) (s : Shared) (H : Hp) : Cx :=
  { cxOf CX0 P w K mg base N qual scope f cdv A outer s H E0 with calm := false, xe := fun _ _ => False }
theorem inv_startH {s1 : Shared} {us : List Value} {vs : List V}
    (S : FnScope N ps scope) (e0 : Env0 P w K mg base A outer s H) (hl : vs.length = ps.length) (r : Vals vs us)
    (x : InCallC s s.heap.objs.size (bindL (envOfC qual scope s.heap.objs.size f cdv).kindOf (ps.zip us) fun _ => none) (cellsFrom (s.heap.objs.size + 1) scope.names []) (bindC (envOfC qual scope s.heap.objs.size f cdv).kindOf (ps.zip us) fun _ => none) s1) :
    Inv (cxH P w K mg base N qual scope f cdv A outer s H) [] (start N vs) H s1 := by
  have e1 : Env0 P w K mg base { A with handled := none } outer s H := ⟨e0.frames, e0.mod, e0.bs, e0.bsz, e0.funs, e0.frf, e0.hok, e0.bare⟩
  have I := inv_start (CX := CX0) (E := E0) (A := { A with handled := none }) (qual := qual) S rfl e1 hl r x
  exact ⟨⟨I.ok.mod, I.ok.kind, I.ok.glob, I.ok.blt, I.ok.above, I.ok.inj, I.ok.has, I.ok.cab, (fun h => Bool.noConfusion h), I.ok.frames, I.ok.stk, I.ok.exf, I.ok.bs, I.ok.bsz, I.ok.noex, I.ok.exfs, I.ok.funs, I.ok.frf⟩, I.os, I.bare, I.base, I.loc, I.cell, I.free, I.freeC, I.pin, I.hok, I.len⟩
theorem Fun.okH {x : Str} {st : Stmt} {fd : FuncData} {k : Nat} {sp : Sp} (F : Fun K x qual st f fd) (S : FnScope N ps (defScope st)) (len : ∀ vs H Q E, sp vs H Q E → vs.length = ps.length)
    (hbody : ∀ (cdv : Value) (A : Around) (outer : List Env) (s : Shared) (H : Hp) (vs : List V) (Q : VK) (E : XK), RoomH k (A.deeper (envOfC qual (defScope st) s.heap.objs.size f cdv)) → sp vs H Q E →
      ∃ t, PSs (cxH P w K mg base N qual (defScope st) f cdv A outer s H) (defBody st) t ∧ t { nx := fun _ H' => Q .non H', rt := Q } (start N vs) H) : FnOkH P w K mg base (k + 1) f fd ps sp := by
  obtain ⟨oc, od, kV, doc, pm, an, cdv, ct, osl, rfl, lk, hcd⟩ := F.ex
  refine ⟨len, fun A outer s H args us vs Q E hr e0 hb r hsp => ?_⟩
  have hl := len _ _ _ _ hsp
  have KX : K.In s.heap := e0.mod.kin.keeps fun b o e => (e0.bs b o e).1
  have lim : s.heap.NoLimit := e0.mod.nolimit.keeps fun b o e => (e0.bs b o e).1
  have hkind : ∀ y ∈ ps.zip us, (defScope st).names.lookup y.1 = some .local ∨ ((defScope st).names.lookup y.1 = some .cell ∧ ((cellsFrom (s.heap.objs.size + 1) (defScope st).names []).lookup y.1).isSome = true) := fun ⟨n, v⟩ hy => by
    rcases S.par n (List.of_mem_zip hy).1 with q | q
    · exact .inl q
    · exact .inr ⟨q, PySem.W.cellsFrom_some _ _ _ (.inl q)⟩
  refine codeAny_call_function hr.depth (KX _ _ lk) rfl S.co S.gen rfl (PySem.W.codeRec_of KX hcd) (hb _ _ _ _ ?_)
  refine wpAny_newFunctionEnv_cells S.kind hkind fun env he s1 x => ?_
  subst he
  refine ⟨lim.keeps x.toInCall.keep, codeAny_func ?_⟩
  obtain ⟨t, ht, hq⟩ := hbody cdv A outer s H vs Q E (hr.deeper _) hsp
  have I : Inv (cxH P w K mg base N qual (defScope st) f cdv A outer s H) [] (start N vs) H s1 := inv_startH S e0 hl r x
  refine wpAny_mono (ht [] s1 (start N vs) H _ I hq) (fun fl s' hs => ?_) fun e s' hs => False.elim hs
  have fin : ∀ {σ' : St} {H' : Hp} {v : V} {u : Value}, Inv (cxH P w K mg base N qual (defScope st) f cdv A outer s H) [] σ' H' s' → RelV v u → Q v H' → CE outer P w H s Q u s' :=
    fun {σ' H' v u} J rv q => ⟨v, H', J.os, J.bare, J.base, J.hok, rv, q⟩
  cases fl with
  | ret u =>
    obtain ⟨v, σ', H', J, rv, q⟩ := hs
    exact fin J rv q
  | next =>
    obtain ⟨σ', H', J, q⟩ := hs
    exact fin (v := V.non) (u := Value.none) J rfl q
  | brk =>
    obtain ⟨_, _, _, q⟩ := hs
    exact False.elim q
  | cont =>
    obtain ⟨_, _, _, q⟩ := hs
    exact False.elim q
end
structure FnAtH (P : Program) (w : World) (K : PySem.W.Frag) (mg : Str → Option Value) (base : Heap) (x : Str) (k : Nat) (ps : List Str) (sp : Sp) : Prop where
  ex : ∃ (f : Addr) (fd : FuncData), FnOkH P w K mg base k f fd ps sp ∧ mg x = some (.ref f) ∧ PySem.W.keepIn K (.ref f) = true ∧ Binds K fd ps []
structure FnAtX (P : Program) (w : World) (K : PySem.W.Frag) (mg : Str → Option Value) (base : Heap) (x : Str) (k : Nat) (ps : List Str) (sp : Sp) : Prop where
  ex : ∃ (f : Addr) (fd : FuncData), FnOk P w K mg base (CX1 P w) k f fd ps sp ∧ mg x = some (.ref f) ∧ PySem.W.keepIn K (.ref f) = true ∧ Binds K fd ps []
section
variable {X : Cx} {x : Str} {k : Nat} {ps : List Str} {sp : Sp} {e : Expr} {es : List Expr} {t : TA} {p pos : Pos}
theorem pe_callH (F : FnAtH X.prog X.w X.K X.mg X.base x k ps sp) (hr : RoomH k X.A) (hg : Gl X x) (ha : PA X (e :: es) t) (hdb : (x == ("__debug__" : Str)) = false := by decide +kernel) (he : starEach (e :: es) X.env = (false, eval e X.env) :: starEach es X.env := by rfl) (hpl : (backTo pos (starEach es X.env)).any (·.1) = false := by rfl) :
    PE X (.Call (.Name x p) (e :: es) [] pos) (tCall sp [] E0 t) := by
  obtain ⟨f, fd, F, hm, hk, hb⟩ := F.ex
  intro pins s σ H Q I h
  refine wpAny_Call_Name_kw (ld_glob I hg hm ?_ hdb)
  refine PySem.W.callWith_K (h₀ := X.base) I.ok.mod.kin hk (thn (ha pos pins s σ H _ I h) fun us s1 ⟨vs, H1, I1, r, q⟩ => ⟨I1.kIn, ?_⟩) he hpl
  have q : sp (vs ++ []) H1 Q E0 := q
  rw [List.append_nil] at q
  have hl : us.length = ps.length := by rw [← r.length]; exact F.len _ _ _ _ q
  have bb := hb s1 us I1.kIn (by rw [List.append_nil]; exact hl)
  rw [List.append_nil] at bb
  refine wpAny_call (codeAny_mono (F.run X.A X.stack s1 H1 ⟨us, []⟩ us vs Q E0 hr I1.env0 bb r q) fun r s' hq => ?_)
  cases r with
  | error ev => exact False.elim hq
  | ok fl =>
    cases fl with
    | ret u => exact I1.after hq
    | next => exact False.elim hq
    | brk => exact False.elim hq
    | cont => exact False.elim hq
theorem pe_callX1 {E : XK} (F : FnAtX X.prog X.w X.K X.mg X.base x k ps sp) (hx : Passes (CX1 X.prog X.w) X E) (hr : Room k X.A) (hg : Gl X x) (ha : PA X (e :: es) t) (hdb : (x == ("__debug__" : Str)) = false := by decide +kernel) (he : starEach (e :: es) X.env = (false, eval e X.env) :: starEach es X.env := by rfl) (hpl : (backTo pos (starEach es X.env)).any (·.1) = false := by rfl) :
    PE X (.Call (.Name x p) (e :: es) [] pos) (tCall sp [] E t) := by
  obtain ⟨f, fd, F, hm, hk, hb⟩ := F.ex
  exact pe_call F hr hg hm hk hb .nil hx ha hdb he hpl
theorem pe_callXT {pins : List (Addr × Obj)} {Es : St → XK} (F : FnAtX X.prog X.w X.K X.mg X.base x k ps sp) (hr : Room k X.A) (hg : Gl X x) (ha : PA (Xt X pins Es) (e :: es) t) (hdb : (x == ("__debug__" : Str)) = false := by decide +kernel) (he : starEach (e :: es) X.env = (false, eval e X.env) :: starEach es X.env := by rfl) (hpl : (backTo pos (starEach es X.env)).any (·.1) = false := by rfl) :
    PE (Xt X pins Es) (.Call (.Name x p) (e :: es) [] pos) (tCallT sp Es t) := by
  obtain ⟨f, fd, F, hm, hk, hb⟩ := F.ex
  exact pe_callT F hr hg hm hk hb ha hdb he hpl
end
end L2
namespace L2
open PySem PySem.Spec PyProof.Rows PySem.SeqAt
theorem pe_cls {X : Cx} {x : Str} {C : Addr} {pos : Pos} (hg : Gl X x) (hm : X.mg x = some (.ref C)) (hd : (x == ("__debug__" : Str)) = false := by decide) : PE X (.Name x pos) (tC (.ref C)) := pe_glob (v := .ref C) hg hm rfl hd
section
variable {X : Cx} {K : PySem.W.Frag}
def rCountB (K : PySem.W.Frag) : V → List V → Hp → VK → Prop := fun x vs H Q => ∃ (l : Addr) (bs : List Bool) (b : Bool), x = .ref l ∧ vs = [.bl b] ∧ H l = some (.lst (bs.map V.bl)) ∧ Q (.int (bs.count b : Nat)) H
theorem mt_countB (hK : X.K = K) : MtR X "list.count" (rCountB K) := by
  subst hK
  intro pins s σ H x vs v us Q I rx rv h
  obtain ⟨l, bs, b, rfl, rfl, hH, q⟩ := h
  cases rx
  obtain ⟨u, rfl, ru⟩ := rv.one
  cases (show u = Value.bool b from ru)
  obtain ⟨z, its, n, r, hl, e⟩ := I.lstM hH
  have eq := vals_bools r
  subst eq
  refine call_meets F.slot_list_count ⟨_, e, rfl⟩ F.entry_list_count (F.args_list_count_2 _ _) (list_countAt l _ n none #[] (.bool b) (fun y => y == .bool b)) ⟨e, fun y hy => ?_, ?_⟩
  · obtain ⟨c, _, rfl⟩ := List.mem_map.mp (Array.mem_def.mp hy)
    have : ((Value.bool c == Value.bool b) : Bool) = (c == b) := by cases c <;> cases b <;> rfl
    rw [this]
    exact EqAt.bool_bool c b
  · refine ⟨.int (bs.count b : Nat), H, I.tok _, ⟨s.toks, ?_⟩, q⟩
    have : ∀ l : List Bool, (l.map Value.bool).countP (fun y => y == .bool b) = l.count b := fun l => by
      rw [List.countP_map, List.count]
      congr 1
      funext c
      cases c <;> cases b <;> rfl
    simp only [List.toList_toArray]
    rw [this]
end
end L2
namespace L2
open PySem PySem.Spec PyProof.Rows PySem.SeqAt
theorem st_con {c k p es env} : starEach (.Constant c k p :: es) env = (false, eval (.Constant c k p) env) :: starEach es env := rfl
theorem st_name {x p es env} : starEach (.Name x p :: es) env = (false, eval (.Name x p) env) :: starEach es env := rfl
theorem st_bin {a o b p es env} : starEach (.BinOp a o b p :: es) env = (false, eval (.BinOp a o b p) env) :: starEach es env := rfl
theorem st_call {f a k p es env} : starEach (.Call f a k p :: es) env = (false, eval (.Call f a k p) env) :: starEach es env := rfl
theorem st_list {a p es env} : starEach (.List a p :: es) env = (false, eval (.List a p) env) :: starEach es env := rfl
theorem st_tup {a x p es env} : starEach (.Tuple a x p :: es) env = (false, eval (.Tuple a x p) env) :: starEach es env := rfl
def conV : Expr → Option V
  | .Constant (.int i) _ _ => some (.int i)
  | .Constant (.str s) _ _ => some (.str s)
  | _ => none
def consV : List Expr → Option (List V)
  | [] => some []
  | e :: es => match conV e, consV es with
    | some v, some vs => some (v :: vs)
    | _, _ => none
def tConsts (vs : List V) : TA := fun _ H Q => Q vs H
theorem pa_consts {X : Cx} : ∀ (es : List Expr) (vs : List V), consV es = some vs → PA X es (tConsts vs)
  | [], vs, h => by cases h; exact pa_nil
  | e :: es, vs, h => by
    unfold consV at h
    cases h1 : conV e with
    | none => rw [h1] at h; cases h
    | some v =>
      cases h2 : consV es with
      | none => rw [h1, h2] at h; cases h
      | some ws =>
        rw [h1, h2] at h
        cases h
        have ih := pa_consts (X := X) es ws h2
        unfold conV at h1
        split at h1
        · cases h1
          exact pa_cons pe_int ih st_con
        · cases h1
          exact pa_cons pe_str ih st_con
        · cases h1
end L2
namespace Sw
open PySem L2
def top (i : Nat) : Stmt := PySem.Challenge.pw_swapstars_k71_no_orders_written.main.body.getD i (.Pass ⟨0, 0, 0, 0⟩)
theorem b01 (b : Bool) : -(2 ^ 64) < (if b = true then (1 : Int) else 0) ∧ (if b = true then (1 : Int) else 0) < 2 ^ 64 ∧ 0 ≤ (if b = true then (1 : Int) else 0) := by cases b <;> decide
structure Purse (H : Hp) (p : Addr) (c : Nat) : Prop where
  ex : ∃ (a b d : Int), H p = some (.lst [.int a, .int b, .int d]) ∧ 0 ≤ a ∧ 0 ≤ b ∧ b < 2147483647 ∧ 0 ≤ d ∧ d ≤ c ∧ c ≤ 100000
def spPurse (K : PySem.W.Frag) : Sp := fun vs H Q _ => ∃ (a : Addr) (ns : List Int) (i : Int), vs = [.ref a, .int i] ∧ SqL K H a (ns.map V.int) ∧ 0 ≤ i ∧ i ≤ 1000 ∧ ∀ p H', H p = none → Purse H' p 0 → Same H H' → Q (.ref p) H'
def spTake : Sp := fun vs H Q _ => ∃ (p : Addr) (c : Nat) (m : Int), vs = [.ref p, .int m] ∧ Purse H p c ∧ c < 100000 ∧ 0 < m ∧ m < 2 ^ 200 ∧ ∀ r H', 0 ≤ r → r < m → Purse H' p (c + 1) → SameX p H H' → Q (.int r) H'
section
variable {P : Program} {w : World} {K : PySem.W.Frag} {mg : Str → Option Value} {base : Heap}
theorem sc__law_take : FnScope ["_law_purse_here", "_law_many", "_law_turn", "_law_one", "_law_other_here", "_law_digit"] ["_law_purse_here", "_law_many"] (defScope (top 35)) := ⟨rfl, rfl, rfl, by decide +kernel, rfl, by decide +kernel, by decide +kernel⟩
theorem ok_take {f : Addr} {fd : FuncData} (F : Fun K "_law_take" "_law_take" (top 35) f fd) : FnOk P w K mg base CX0 1 f fd ["_law_purse_here", "_law_many"] spTake := by
  refine F.ok sc__law_take (fun vs H Q E h => ?_) (fun cdv A outer s H vs Q E hr h => ?_)
  · obtain ⟨p, c, m, rfl, _⟩ := h
    rfl
  · obtain ⟨p, c, m, rfl, ⟨a, b, d, hp, ha, hb, hb2, hd, hdc, hc0⟩, hc, hm, hm2, k⟩ := h
    refine ⟨_, (pss_cons (ps_if (pt_cmpR op_gt (pe_ix (ix_listK (K := K) rfl) (pv 0) pe_int (fun _ _ => rfl)) pe_int (nomark _)) (pss_cons (ps_set (i := 5) sc__law_take.nd rfl (Or.inl rfl) (pe_op op_mod (pe_ix (ix_listK (K := K) rfl) (pv 0) pe_int (fun _ _ => rfl)) (pv 1)))
      (pss_cons (ps_asg (pe_op op_fdivL (pe_ix (ix_listK (K := K) rfl) (pv 0) pe_int (fun _ _ => rfl)) (pv 1)) (pg_sub (pv 0) pe_int set_list))
      (pss_one (ps_ret (pv 5))))) pss_nil)
      (pss_cons (ps_asg (pe_op op_add (pe_ix (ix_listK (K := K) rfl) (pv 0) pe_int (fun _ _ => rfl)) pe_int) (pg_sub (pv 0) pe_int set_list))
      (pss_cons (ps_set (i := 2) sc__law_take.nd rfl (Or.inl rfl) (pe_ix (ix_listK (K := K) rfl) (pv 0) pe_int (fun _ _ => rfl)))
      (pss_cons (ps_set (i := 3) sc__law_take.nd rfl (Or.inl rfl) (pe_op op_mod (pe_op op_pow (pe_op op_add (pe_op op_add (pe_ix (ix_listK (K := K) rfl) (pv 0) pe_int (fun _ _ => rfl)) (pe_op op_mul (pe_op op_mul pe_int (pv 2)) (pv 2))) pe_int) pe_int) pe_int))
      (pss_cons (ps_set (i := 4) sc__law_take.nd rfl (Or.inl rfl) (pe_op op_mod (pe_op op_pow (pe_op op_add (pe_op op_mul (pv 3) (pe_op op_add (pe_op op_mul pe_int (pv 2)) pe_int)) (pv 2)) pe_int) pe_int))
      (pss_one (ps_ret (pe_op op_mod (pe_op op_fdivL (pe_op op_add (pe_op op_mul (pv 3) pe_int) (pv 4)) pe_int) (pv 1))))))))), ?_⟩
    refine ⟨_, rfl, p, _, _, _, rfl, rfl, SqL.of hp, rfl, _, _, rfl, rfl, _, rfl, ?_⟩
    refine ite2 (fun _ => ?_) (fun _ => ?_)
    · refine ⟨_, rfl, p, _, _, _, rfl, rfl, SqL.of hp, rfl, _, rfl, _, _, rfl, rfl, hm, ?_⟩
      refine ⟨_, rfl, p, _, _, _, rfl, rfl, SqL.of hp, rfl, _, rfl, _, _, rfl, rfl, ⟨hm, hm2⟩, _, rfl, p, _, _, 0, rfl, rfl, hp, rfl, ?_⟩
      refine ⟨_, rfl, ?_⟩
      exact k _ _ (Int.emod_nonneg _ (by omega)) (Int.emod_lt_of_pos _ hm) ⟨_, _, _, upd_same, Int.ediv_nonneg ha (by omega), hb, hb2, hd, by omega, by omega⟩ SameX.upd
    · refine ⟨_, rfl, p, _, _, _, rfl, rfl, SqL.of hp, rfl, _, _, rfl, rfl, _, rfl, p, _, _, 2, rfl, rfl, hp, rfl, ?_⟩
      have h1 : upd H p (.lst [.int a, .int b, .int (d + 1)]) p = some (.lst [.int a, .int b, .int (d + 1)]) := upd_same
      refine ⟨_, rfl, p, _, _, _, rfl, rfl, SqL.of h1, rfl, ?_⟩
      have posM : (0 : Int) < 2147483647 := by decide
      have posN : (0 : Int) < 998244353 := by decide
      have t0 : 0 ≤ d + 1 := by omega
      have t1 : d + 1 ≤ 200000 := by omega
      have t2 : 0 ≤ 48271 * (d + 1) * (d + 1) := Int.mul_nonneg (by omega) t0
      have t3 : 48271 * (d + 1) * (d + 1) ≤ 48271 * 200000 * 200000 := Int.mul_le_mul (by omega) t1 t0 (by omega)
      refine ⟨_, rfl, p, _, _, _, rfl, rfl, SqL.of h1, rfl, _, rfl, _, _, rfl, rfl, .inl ⟨by omega, by omega⟩, _, rfl, _, _, rfl, rfl, .inr ⟨by omega, by omega⟩, _, _, rfl, rfl, _, _, rfl, rfl, _, _, rfl, rfl, ⟨by omega, by omega, by omega⟩, _, _, rfl, rfl, posM, ?_⟩
      have o0 : 0 ≤ ((b + 48271 * (d + 1) * (d + 1) + 1) ^ Int.toNat 5 % 2147483647) := Int.emod_nonneg _ (by decide)
      have o1 : ((b + 48271 * (d + 1) * (d + 1) + 1) ^ Int.toNat 5 % 2147483647) < 2147483647 := Int.emod_lt_of_pos _ (by decide)
      have u0 : 0 ≤ ((b + 48271 * (d + 1) * (d + 1) + 1) ^ Int.toNat 5 % 2147483647) * (2 * (d + 1) + 30011) := Int.mul_nonneg o0 (by omega)
      have u1 : ((b + 48271 * (d + 1) * (d + 1) + 1) ^ Int.toNat 5 % 2147483647) * (2 * (d + 1) + 30011) ≤ 2147483647 * 430011 := Int.mul_le_mul (by omega) (by omega) (by omega) (by omega)
      refine ⟨_, rfl, _, rfl, _, _, rfl, rfl, .inl ⟨by omega, by omega⟩, _, _, rfl, rfl, _, _, rfl, rfl, .inl ⟨by omega, by omega⟩, _, rfl, _, _, rfl, rfl, _, _, rfl, rfl, ⟨by omega, by omega, by omega⟩, _, _, rfl, rfl, posN, ?_⟩
      refine ⟨_, rfl, _, _, rfl, rfl, .inl ⟨by omega, by omega⟩, _, rfl, _, _, rfl, rfl, _, _, rfl, rfl, ⟨by decide, by decide⟩, _, rfl, _, _, rfl, rfl, hm, ?_⟩
      exact k _ _ (Int.emod_nonneg _ (by omega)) (Int.emod_lt_of_pos _ hm) ⟨_, _, _, h1, ha, hb, hb2, t0, by omega, by omega⟩ SameX.upd
structure TPurse (mg : Str → Option Value) : Prop where
  b_len : mg "len" = none
  b_abs : mg "abs" = none
  b_int : mg "int" = none
theorem sc__law_purse : FnScope ["_law_script", "_law_at", "_law_cell", "_law_far"] ["_law_script", "_law_at"] (defScope (top 34)) := ⟨rfl, rfl, rfl, by decide +kernel, rfl, by decide +kernel, by decide +kernel⟩
theorem ok_purse {f : Addr} {fd : FuncData} (F : Fun K "_law_purse" "_law_purse" (top 34) f fd) (T : TPurse mg) : FnOk P w K mg base CX0 1 f fd ["_law_script", "_law_at"] (spPurse K) := by
  refine F.ok sc__law_purse (fun vs H Q E h => ?_) (fun cdv A outer s H vs Q E hr h => ?_)
  · obtain ⟨a, ns, i, rfl, _⟩ := h
    rfl
  · obtain ⟨a, ns, i, rfl, hs, hi, hi2, k⟩ := h
    refine ⟨_, (pss_cons (ps_set (i := 2) sc__law_purse.nd rfl (Or.inl rfl) pe_int)
      (pss_cons (ps_if (pt_cmpR op_lt (pv 1) (pe_callB (call_lenK (K := K) rfl) rfl T.b_len (by decide +kernel) (pa_cons (pv 0) pa_nil)) (nomark _)) (pss_one (ps_set (i := 2) sc__law_purse.nd rfl (Or.inl rfl) (pe_ix (ix_listK (K := K) rfl) (pv 0) (pv 1) (fun _ _ => rfl)))) pss_nil)
      (pss_cons (ps_set (i := 3) sc__law_purse.nd rfl (Or.inl rfl) (pe_callB call_abs rfl T.b_abs (by decide +kernel) (pa_cons (pv 2) pa_nil)))
      (pss_one (ps_ret (pe_lst (@pa_cons _ _ _ _ _ (pe_op op_mul (pv 3) (pe_callTy call_int1 rfl T.b_int (by decide +kernel) (pa_cons (pe_cmpR op_ge (pv 3) (pe_op op_pow pe_int pe_int) (nomark _)) pa_nil))) (@pa_cons _ _ _ _ _ (pe_op op_mod (pe_op op_add (pe_op op_add (pe_op op_mod (pv 2) pe_int) (pe_op op_mul pe_int (pv 1))) pe_int) pe_int) (@pa_cons _ _ _ _ _ pe_int pa_nil st_con) st_bin) st_bin))))))), ?_⟩
    have posM : (0 : Int) < 2147483647 := by decide
    -- cell = 0; if at < len(script): cell = script[at]
    refine ⟨_, rfl, _, rfl, a, _, rfl, .inl hs, _, _, rfl, rfl, _, rfl, ?_⟩
    refine ite2 (fun hlt => ?_) (fun _ => ?_)
    · have hlt : i < ((ns.map V.int).length : Int) := of_decide_eq_true hlt
      rw [List.length_map] at hlt
      have hx : ∃ x, ns[i.toNat]? = some x := by
        rw [List.getElem?_eq_getElem (by omega)]
        exact ⟨_, rfl⟩
      obtain ⟨x, hx⟩ := hx
      have ha : atI (ns.map V.int) i = some (V.int x) := by
        have e : ((i.toNat : Nat) : Int) = i := Int.toNat_of_nonneg hi
        rw [← e]
        exact atI_nat (by rw [List.getElem?_map, hx]; rfl)
      refine ⟨_, rfl, _, rfl, a, _, _, _, rfl, rfl, hs, ha, ?_⟩
      refine ⟨_, rfl, x, rfl, ?_⟩
      refine ⟨_, rfl, _, rfl, _, _, rfl, rfl, ⟨by decide, by decide, by decide⟩, _, _, rfl, rfl, .inr ⟨_, rfl, _, _, rfl, rfl, .inr ⟨?b1, ?b2⟩, _, rfl, _, _, rfl, rfl, posM, _, rfl, _, _, rfl, rfl, .inl ⟨by decide, by decide⟩, _, _, rfl, rfl, _, _, rfl, rfl, _, _, rfl, rfl, posM, (by show 3 ≤ sizeLine; decide), fun p hp => ?_⟩⟩
      (case b1 => exact (b01 _).1)
      (case b2 => exact (b01 _).2.1)
      refine k p _ hp ⟨⟨_, _, _, upd_same, ?_, Int.emod_nonneg _ (by decide), Int.emod_lt_of_pos _ (by decide), Int.le_refl _, by decide, by decide⟩⟩ (Same.new hp)
      refine Int.mul_nonneg ?_ ?_
      · split <;> omega
      · exact (b01 _).2.2
    · refine ⟨_, rfl, 0, rfl, ?_⟩
      refine ⟨_, rfl, _, rfl, _, _, rfl, rfl, ⟨by decide, by decide, by decide⟩, _, _, rfl, rfl, .inr ⟨_, rfl, _, _, rfl, rfl, .inr ⟨?b1, ?b2⟩, _, rfl, _, _, rfl, rfl, posM, _, rfl, _, _, rfl, rfl, .inl ⟨by decide, by decide⟩, _, _, rfl, rfl, _, _, rfl, rfl, _, _, rfl, rfl, posM, (by show 3 ≤ sizeLine; decide), fun p hp => ?_⟩⟩
      (case b1 => exact (b01 _).1)
      (case b2 => exact (b01 _).2.1)
      refine k p _ hp ⟨⟨_, _, _, upd_same, ?_, Int.emod_nonneg _ (by decide), Int.emod_lt_of_pos _ (by decide), Int.le_refl _, by decide, by decide⟩⟩ (Same.new hp)
      refine Int.mul_nonneg ?_ ?_
      · split <;> omega
      · exact (b01 _).2.2
end
end Sw
namespace L2
open PySem
theorem call_list_ofK {X : Cx} {K : PySem.W.Frag} (h : X.K = K) : CallR X (.type "list") (fun xs H Q => ∃ p ys, xs = [.ref p] ∧ (SqL K H p ys ∨ SqT K H p ys) ∧ ∀ l, H l = none → Q (.ref l) (upd H l (.lst ys))) := by subst h; exact call_list_of
theorem call_tuple_ofK {X : Cx} {K : PySem.W.Frag} (h : X.K = K) : CallR X (.type "tuple") (fun xs H Q => ∃ p ys, xs = [.ref p] ∧ ((SqL K H p ys ∧ ∀ l, H l = none → Q (.ref l) (upd H l (.tup ys))) ∨ (SqT K H p ys ∧ Q (.ref p) H))) := by subst h; exact call_tuple_of
end L2
namespace Sw
open PySem L2
def spPlain : Sp := fun vs H Q _ => ∃ (n : Int), vs = [.int n] ∧ 0 ≤ n ∧ n ≤ 1000 ∧ ∀ t H', H t = none → H' t = some (.tup ((ivl 1 (n + 1)).map V.int)) → Same H H' → Q (.ref t) H'
structure T1 (mg : Str → Option Value) (K : PySem.W.Frag) : Prop extends TPurse mg where
  b_all : mg "all" = none
  b_isinstance : mg "isinstance" = none
  b_bool : mg "bool" = none
  b_tuple : mg "tuple" = none
  b_list : mg "list" = none
  b_range : mg "range" = none
  k_ib : PySem.W.kitOne K (.type "int") (.type "bool") = some false
theorem take_succ_map {α β : Type} (f : α → β) {l : List α} {i : Nat} {x : α} (h : l[i]? = some x) : (l.take (i + 1)).map f = (l.take i).map f ++ [f x] := by
  rw [List.take_succ, h, List.map_append]; rfl
theorem Purse.mono {H : Hp} {p : Addr} {c c' : Nat} (h : Purse H p c) (a : c ≤ c') (b : c' ≤ 100000) : Purse H p c' := by
  obtain ⟨x, y, z, e, h1, h2, h3, h4, h5, h6⟩ := h.ex
  exact ⟨x, y, z, e, h1, h2, h3, h4, by omega, b⟩
theorem Purse.keep {H H' : Hp} {p : Addr} {c : Nat} (h : Purse H p c) (k : Same H H') : Purse H' p c := by
  obtain ⟨x, y, z, e, r⟩ := h.ex
  exact ⟨x, y, z, k _ _ e, r⟩
theorem Purse.at {H : Hp} {p : Addr} {c : Nat} (h : Purse H p c) : ∃ xs, H p = some (.lst xs) := by
  obtain ⟨x, y, z, e, r⟩ := h.ex
  exact ⟨_, e⟩
theorem Purse.upd {H : Hp} {p q : Addr} {c : Nat} {o : HO} (h : Purse H p c) (n : p ≠ q) : Purse (L2.upd H q o) p c := by
  obtain ⟨x, y, z, e, r⟩ := h.ex
  exact ⟨x, y, z, by rw [upd_ne n]; exact e, r⟩
theorem Purse.ne {H : Hp} {p q : Addr} {c : Nat} (h : Purse H p c) (n : H q = none) : p ≠ q := by
  obtain ⟨xs, e⟩ := h.at
  exact ne_of_none e n
theorem SameX.put {p l : Addr} {H H' : Hp} {o : HO} (s : SameX p H H') (h : H l = none) : SameX p H (upd H' l o) := fun b o' hb e => by
  rw [upd_ne (ne_of_none e h)]
  exact s b o' hb e
theorem free_of {p l : Addr} {H H' : Hp} (s : SameX p H H') (n : p ≠ l) (h : H' l = none) : H l = none := by
  cases e : H l with
  | none => rfl
  | some o => rw [s l o n.symm e] at h; cases h
theorem eraseIdx_map {ls : List Int} : ∀ {k : Nat}, (ls.map V.int).eraseIdx k = (ls.eraseIdx k).map V.int := by
  induction ls with
  | nil => intro k; rfl
  | cons a t ih =>
    intro k
    cases k with
    | zero => rfl
    | succ k =>
      rw [List.map_cons, List.eraseIdx_cons_succ, List.eraseIdx_cons_succ, List.map_cons, ih]
theorem mem_int {ns : List Int} {i : Nat} {x : V} (h : (ns.map V.int)[i]? = some x) : ∃ z, x = .int z ∧ ns[i]? = some z := by
  rw [List.getElem?_map] at h
  cases e : ns[i]? with
  | none => rw [e] at h; cases h
  | some z => rw [e] at h; exact ⟨z, (Option.some.inj h).symm, rfl⟩
theorem at_int {ns : List Int} {i : Int} {z : Int} (h0 : 0 ≤ i) (h : ns[i.toNat]? = some z) : atI (ns.map V.int) i = some (V.int z) := by
  have e : ((i.toNat : Nat) : Int) = i := Int.toNat_of_nonneg h0
  rw [← e]
  exact atI_nat (by rw [List.getElem?_map, h]; rfl)
theorem get_lt {ns : List Int} {k : Nat} (h : k < ns.length) : ∃ z, ns[k]? = some z := ⟨_, List.getElem?_eq_getElem h⟩
theorem ixN_lt {n : Nat} {i : Int} (h0 : 0 ≤ i) (h : i < n) : ixN n i = some i.toNat := by
  unfold ixN
  rw [if_pos h0, if_pos h]
theorem map_get {ns : List Int} {k : Nat} {z : Int} (h : ns[k]? = some z) : (ns.map V.int)[k]? = some (V.int z) := by rw [List.getElem?_map, h]; rfl
def spOrder : Sp := fun vs H Q _ => ∃ (p : Addr) (c : Nat) (n : Int), vs = [.ref p, .int n] ∧ Purse H p c ∧ c ≤ 90000 ∧ 1 ≤ n ∧ n ≤ 100 ∧
  ∀ t xs H', H t = none → H' t = some (.tup (xs.map V.int)) → Ord n xs → Purse H' p (c + 300) → SameX p H H' → Q (.ref t) H'
inductive Lsts (H : Hp) : List V → List (List Int) → Prop
  | nil : Lsts H [] []
  | cons {a : Addr} {ns : List Int} {vs : List V} {r : List (List Int)} : H a = some (.lst (ns.map V.int)) → Lsts H vs r → Lsts H (.ref a :: vs) (ns :: r)
theorem Lsts.length {H : Hp} : ∀ {vs : List V} {r : List (List Int)}, Lsts H vs r → vs.length = r.length
  | _, _, .nil => rfl
  | _, _, .cons _ x => by rw [List.length_cons, List.length_cons, x.length]
theorem Lsts.keep {H H' : Hp} (k : Same H H') : ∀ {vs : List V} {r : List (List Int)}, Lsts H vs r → Lsts H' vs r
  | _, _, .nil => .nil
  | _, _, .cons h x => .cons (k _ _ h) (x.keep k)
theorem Lsts.append {H : Hp} : ∀ {vs ws : List V} {r q : List (List Int)}, Lsts H vs r → Lsts H ws q → Lsts H (vs ++ ws) (r ++ q)
  | _, _, _, _, .nil, y => y
  | _, _, _, _, .cons h x, y => .cons h (x.append y)
theorem Lsts.snoc {H : Hp} {vs : List V} {r : List (List Int)} {a : Addr} {ns : List Int} (x : Lsts H vs r) (h : H a = some (.lst (ns.map V.int))) : Lsts H (vs ++ [.ref a]) (r ++ [ns]) := x.append (.cons h .nil)
theorem Lsts.get {H : Hp} : ∀ {vs : List V} {r : List (List Int)} {i : Nat} {x : V}, Lsts H vs r → vs[i]? = some x → ∃ a ns, x = .ref a ∧ H a = some (.lst (ns.map V.int)) ∧ r[i]? = some ns
  | _, _, _, _, .nil, e => by simp at e
  | _, _, 0, _, .cons h x, e => by simp at e; subst e; exact ⟨_, _, rfl, h, rfl⟩
  | _, _, i + 1, _, .cons h x, e => by
    obtain ⟨t, a, e1, e2, e3⟩ := x.get (i := i) (by simpa using e)
    exact ⟨t, a, e1, e2, by simpa using e3⟩
theorem Lsts.mem {H : Hp} {vs : List V} {r : List (List Int)} (x : Lsts H vs r) {a : Addr} (h : V.ref a ∈ vs) : ∃ ns, H a = some (.lst ns) := by
  obtain ⟨i, hi, e⟩ := List.mem_iff_getElem.mp h
  obtain ⟨b, ns, e1, e2, _⟩ := x.get (i := i) (by rw [List.getElem?_eq_getElem hi, e])
  cases e1
  exact ⟨_, e2⟩
theorem Lsts.off {H : Hp} {a : Addr} {o : HO} : ∀ {vs : List V} {r : List (List Int)}, Lsts H vs r → V.ref a ∉ vs → Lsts (upd H a o) vs r
  | _, _, .nil, _ => .nil
  | _, _, .cons (a := b) h x, n => by
    refine .cons ?_ (x.off fun z => n (List.mem_cons_of_mem _ z))
    rw [upd_ne (by intro z; subst z; exact n List.mem_cons_self)]
    exact h
def Fresh (H : Hp) (vs : List V) : Prop := vs.Nodup ∧ ∀ v ∈ vs, ∃ a, v = .ref a ∧ H a = none
theorem Fresh.nil {H : Hp} : Fresh H [] := ⟨List.nodup_nil, fun v h => by cases h⟩
theorem Fresh.snoc {H H' : Hp} {vs : List V} {r : List (List Int)} {a : Addr} (f : Fresh H vs) (x : Lsts H' vs r) (h' : H' a = none) (h : H a = none) : Fresh H (vs ++ [.ref a]) := by
  refine ⟨List.nodup_append.mpr ⟨f.1, by simp, ?_⟩, fun v hv => ?_⟩
  · intro y hy z hz e
    rw [List.mem_singleton.mp hz] at e
    subst e
    obtain ⟨ns, e⟩ := x.mem hy
    rw [h'] at e
    cases e
  · rcases List.mem_append.mp hv with z | z
    · exact f.2 v z
    · exact ⟨a, List.mem_singleton.mp z, h⟩
theorem Fresh.sub {H : Hp} {vs ws : List V} (f : Fresh H vs) (s : ws.Sublist vs) : Fresh H ws := ⟨f.1.sublist s, fun v h => f.2 v (s.subset h)⟩
def spRf : Sp := fun vs H Q _ => ∃ (t : Addr) (n x : Int) (xs : List Int), vs = [.ref t, .int x] ∧ H t = some (.tup (xs.map V.int)) ∧ Ord n xs ∧ n ≤ 1000 ∧ 1 ≤ x ∧ x ≤ n ∧ ∀ l H', H l = none → H' l = some (.lst ((orb xs x).map V.int)) → Same H H' → Q (.ref l) H'
def spRounds : Sp := fun vs H Q _ => ∃ (t : Addr) (n : Int) (xs : List Int), vs = [.ref t] ∧ H t = some (.tup (xs.map V.int)) ∧ Ord n xs ∧ n ≤ 1000 ∧ ∀ l ws H', H l = none → H' l = some (.lst ws) → Lsts H' ws (rndM n xs) → Fresh H ws → V.ref l ∉ ws → Same H H' → Q (.ref l) H'
theorem iteP {A B : Prop} {b : Bool} (h : b = true) (x : A) : if b = true then A else B := by rw [if_pos h]; exact x
theorem iteE {A B : Prop} {b : Bool} (h : b = false) (x : B) : if b = true then A else B := by rw [h, if_neg Bool.false_ne_true]; exact x
theorem Lsts.dat {K : PySem.W.Frag} {H : Hp} : ∀ {vs : List V} {r : List (List Int)}, Lsts H vs r → DatAll K H (fun _ => True) vs (r.map fun p => .list (p.map PyData.int))
  | _, _, .nil => .nil
  | _, _, .cons h x => .cons (.lst (SqL.of h) True.intro (ints_dat _)) x.dat
theorem eqLL {K : PySem.W.Frag} {H : Hp} {l m : Addr} {vs ws : List V} {r q : List (List Int)} {Q : VK} (h1 : H l = some (.lst vs)) (x1 : Lsts H vs r) (h2 : H m = some (.lst ws)) (x2 : Lsts H ws q) (hq : Q (.bl (!decide (r = q))) H) : rNeD K (.ref l) (.ref m) H Q := by
  refine ⟨fun _ => True, .list (r.map fun p => PyData.list (p.map PyData.int)), .list (q.map fun p => PyData.list (p.map PyData.int)), .lst (SqL.of h1) True.intro x1.dat, .lst (SqL.of h2) True.intro x2.dat, ?_, ?_, ?_, ?_⟩
  · unfold PyData.canLay0; exact lay_ll r
  · unfold PyData.canLay0; exact lay_ll q
  · unfold PyData.depth; have := depth_ll r; omega
  · have e : PyData.eqv (.list (r.map fun p => PyData.list (p.map PyData.int))) (.list (q.map fun p => PyData.list (p.map PyData.int))) = decide (r = q) := by unfold PyData.eqv; exact eqv_ll r q
    rw [e]; exact hq
theorem Lsts.set {H : Hp} : ∀ {vs : List V} {r : List (List Int)} {i : Nat} {a : Addr} {ns : List Int}, Lsts H vs r → vs.Nodup → vs[i]? = some (.ref a) → Lsts (upd H a (.lst (ns.map V.int))) vs (r.set i ns)
  | _, _, _, _, _, .nil, _, h => by simp at h
  | _, _, 0, a, ns, .cons (a := b) (vs := vs) h x, nd, e => by
    have e : b = a := by simpa using e
    subst e
    rw [List.nodup_cons] at nd
    rw [List.set_cons_zero]
    refine .cons upd_same (x.off nd.1)
  | _, _, i + 1, a, ns, .cons (a := b) (vs := vs) h x, nd, e => by
    rw [List.nodup_cons] at nd
    rw [List.set_cons_succ]
    have e : vs[i]? = some (.ref a) := by simpa using e
    refine .cons ?_ (x.set nd.2 e)
    rw [upd_ne (by intro z; subst z; exact nd.1 (List.mem_of_getElem? e))]
    exact h
theorem Lsts.stay {H H' : Hp} : ∀ {vs : List V} {r : List (List Int)}, Lsts H vs r → (∀ {b : Addr} {zs : List V}, V.ref b ∈ vs → H b = some (.lst zs) → H' b = some (.lst zs)) → Lsts H' vs r
  | _, _, .nil, _ => .nil
  | _, _, .cons h x, k => .cons (k List.mem_cons_self h) (x.stay fun hb e => k (List.mem_cons_of_mem _ hb) e)
theorem Lsts.eraseIdx {H : Hp} : ∀ {vs : List V} {r : List (List Int)} (k : Nat), Lsts H vs r → Lsts H (vs.eraseIdx k) (r.eraseIdx k)
  | _, _, _, .nil => .nil
  | _, _, 0, .cons h x => x
  | _, _, k + 1, .cons h x => .cons h (x.eraseIdx k)
def spIw : Sp := fun vs H Q _ => ∃ x : Int, vs = [.int x] ∧ Q (.bl true) H
def spBt : Sp := fun vs H Q _ => ∃ x lo hi : Int, vs = [.int x, .int lo, .int hi] ∧ Q (.bl (decide (lo ≤ x ∧ x ≤ hi))) H
def spMade : Sp := fun vs H Q _ => ∃ (n : Int) (l : Addr) (ws : List V) (rs : List (List Int)) (xs : List Int), vs = [.int n, .ref l] ∧ 0 ≤ n ∧ n ≤ 1000 ∧ H l = some (.lst ws) ∧ Lsts H ws rs ∧ ws.length ≤ 1000 ∧ (∀ r ∈ rs, r.length ≤ 1000) ∧ xs.length = n.toNat ∧ Rnds n xs rs ∧ ∀ t H', H t = none → H' t = some (.tup (xs.map V.int)) → Same H H' → Q (.ref t) H'
def spLaw (K : PySem.W.Frag) : Sp := fun vs H Q _ => ∃ (a : Addr) (ns : List Int), vs = [.ref a] ∧ SqL K H a (ns.map V.int) ∧ ns.length ≤ 63 ∧ ∀ H', Q (.bl true) H'
theorem Same.of {p : Addr} {H0 H H' : Hp} (a : Same H0 H) (n : H0 p = none) (b : SameX p H H') : Same H0 H' := fun c o e => b c o (ne_of_none e n) (a c o e)
theorem add_at {x y z : Int} {H : Hp} {Q : VK} (h : x + y = z) (q : Q (.int z) H) : rI0 (fun i j => .int (i + j)) (.int x) (.int y) H Q := by subst h; exact ⟨_, _, rfl, rfl, q⟩
theorem Same.put {l : Addr} {H H' : Hp} {o : HO} (s : Same H H') (h : H l = none) : Same H (upd H' l o) := fun b o' e => by
  rw [upd_ne (ne_of_none e h)]
  exact s b o' e
end Sw
namespace Sw
open PySem L2
def isw : PyData → Bool
  | .int _ => true
  | _ => false
def btw (lo hi : Int) : PyData → Bool
  | .int i => decide (lo ≤ i ∧ i ≤ hi)
  | _ => false
def spIwD : Sp := fun vs H Q _ => ∃ (v : V) (P : Addr → Prop) (d : PyData), vs = [v] ∧ DT H P v d ∧ Q (.bl (isw d)) H
def spBtD : Sp := fun vs H Q _ => ∃ (v : V) (P : Addr → Prop) (d : PyData) (lo hi : Int), vs = [v, .int lo, .int hi] ∧ DT H P v d ∧ Q (.bl (btw lo hi d)) H
structure TD (P : Program) (w : World) (K : PySem.W.Frag) (mg : Str → Option Value) (base : Heap) : Prop extends T1 mg K where
  f_is_whole : FnAt P w K mg base "is_whole" 1 ["thing"] spIwD
structure TD2 (P : Program) (w : World) (K : PySem.W.Frag) (mg : Str → Option Value) (base : Heap) : Prop extends T1 mg K where
  f_is_between : FnAt P w K mg base "is_between" 2 ["thing", "low", "high"] spBtD
end Sw
namespace L2
open PySem PySem.Spec PyProof.Rows PySem.SeqAt
inductive TxtEs (pr : Params) : List DictEntry → List (Str × Str) → Prop
  | nil : TxtEs pr [] []
  | cons {x y : Str} {t u : Tok} {es : List DictEntry} {ps : List (Str × Str)} : TxtEs pr es ps → TxtEs pr ({ hash := PyData.keyHash pr x, key := .str x t, val := .str y u } :: es) ((x, y) :: ps)
structure KTxt (K : PySem.W.Frag) (pr : Params) (a : Addr) (ps : List (Str × Str)) : Prop where
  sys : (a == sysModules) = false
  nd : (ps.map (·.1)).Nodup
  ex : ∃ (es : List DictEntry) (ep : Nat), K.lookup a = some { cls := .type "dict", data := .dict es.toArray ep } ∧ TxtEs pr es ps
end L2
namespace L2
open PySem PySem.Spec PyProof.Rows
section
variable {X : Cx} {K : PySem.W.Frag}
def rTxt0 (f : Str → Bool) : V → List V → Hp → VK → Prop := fun x vs H Q => ∃ z, x = .str z ∧ vs = [] ∧ Q (.bl (f z)) H
theorem mt_isascii : MtR X "str.isascii" (rTxt0 Txt.isascii) := by
  intro pins s σ H x vs v us Q I rx rv h
  obtain ⟨z, rfl, rfl, q⟩ := h
  obtain ⟨t, rfl⟩ := rx
  cases rv
  exact SC.isascii ⟨.bl _, H, I, rfl, q⟩
theorem mt_isdigit : MtR X "str.isdigit" (rTxt0 Txt.isdigit) := by
  intro pins s σ H x vs v us Q I rx rv h
  obtain ⟨z, rfl, rfl, q⟩ := h
  obtain ⟨t, rfl⟩ := rx
  cases rv
  exact SC.isdigit ⟨.bl _, H, I, rfl, q⟩
def rStarts : V → List V → Hp → VK → Prop := fun x vs H Q => ∃ z y, x = .str z ∧ vs = [.str y] ∧ Q (.bl (Txt.startswith z y)) H
theorem mt_starts : MtR X "str.startswith" rStarts := by
  intro pins s σ H x vs v us Q I rx rv h
  obtain ⟨z, y, rfl, rfl, q⟩ := h
  obtain ⟨t, rfl⟩ := rx
  obtain ⟨u, rfl, t', rfl⟩ := rv.one
  exact SC.startswith ⟨.bl _, H, I, rfl, q⟩
theorem vals_strs : ∀ {ts : List Str} {us : List Value}, Vals (ts.map V.str) us → ∃ l : List (Str × Tok), us = strValues l ∧ l.map (·.1) = ts
  | [], _, .nil => ⟨[], rfl, rfl⟩
  | x :: r, _, .cons h t => by
    obtain ⟨tk, rfl⟩ := h
    obtain ⟨l, e1, e2⟩ := vals_strs t
    exact ⟨(x, tk) :: l, by rw [e1]; rfl, by rw [List.map_cons, e2]⟩
theorem strs_vals : ∀ (l : List (Str × Tok)), Vals ((l.map (·.1)).map V.str) (strValues l)
  | [] => .nil
  | (x, t) :: l => .cons ⟨t, rfl⟩ (strs_vals l)
def rJoin (K : PySem.W.Frag) : V → List V → Hp → VK → Prop := fun x vs H Q => ∃ (z : Str) (p : Addr) (ts : List Str), x = .str z ∧ vs = [.ref p] ∧ SqL K H p (ts.map V.str) ∧ JoinOk z ts = true ∧ Q (.str (Str.join z ts)) H
theorem mt_join (hK : X.K = K) : MtR X "str.join" (rJoin K) := by
  subst hK
  intro pins s σ H x vs v us Q I rx rv h
  obtain ⟨z, p, ts, rfl, rfl, hp, hj, q⟩ := h
  obtain ⟨t, rfl⟩ := rx
  obtain ⟨u, rfl, ru⟩ := rv.one
  cases ru
  obtain ⟨its, r, pl, _⟩ := I.list hp
  obtain ⟨l, rfl, e⟩ := vals_strs r
  refine SC.join pl.isList e hj fun t' k => ⟨.str _, H, I.tok _, ⟨t', rfl⟩, ?_⟩
  rw [show Txt.join z ts = Str.join z ts from StrLaws.glued_eq_join z ts]
  exact q
theorem parts_few (x y : Str) : (Builtin.Str.partsBetween x (Builtin.Str.occurrences x y 0 x.length (x.length + 1)) y.length).length ≤ x.length + 2 := by
  have h := StrLaws.occ_length_le x y 0 x.length (x.length + 1)
  unfold Builtin.Str.partsBetween
  rw [List.length_map, List.length_zip, List.length_cons, List.length_map, List.length_append, List.length_singleton]
  omega
def rSplit : V → List V → Hp → VK → Prop := fun x vs H Q => ∃ (z y : Str), x = .str z ∧ vs = [.str y] ∧ (y.length == 0) = false ∧ z.length ≤ 1000000 ∧ ∀ l, H l = none → Q (.ref l) (upd H l (.lst ((Txt.split z y).map V.str)))
theorem mt_split : MtR X "str.split" rSplit := by
  intro pins s σ H x vs v us Q I rx rv h
  obtain ⟨z, y, rfl, rfl, hy, hz, q⟩ := h
  obtain ⟨t, rfl⟩ := rx
  obtain ⟨u, rfl, t', rfl⟩ := rv.one
  have big : (10000000 : Nat) ≤ sizeLine := by decide
  have one : 1 ≤ sizeLine := by decide
  have key : ∀ (l : List (Str × Tok)) (tk : Nat), l.map (·.1) = Txt.split z y → l.length ≤ sizeLine → EP X pins σ Q (.ref s.heap.objs.size) { s with toks := tk, heap := s.heap.push { cls := .type "list", data := .seq (strValues l).toArray } } := fun l tk e hl => by
    have v := strs_vals l
    rw [e] at v
    have vl := v.length
    refine ⟨.ref s.heap.objs.size, _, I.laid (o := .lst ((Txt.split z y).map V.str)) (fun b o e => Heap.get?_push_of_some _ e) (Nat.le_refl _) ⟨?_, strValues l, 0, v, Heap.get?_push_size _ rfl⟩, rfl, q _ (I.hok.fresh (Nat.le_refl _))⟩
    rw [vl]
    unfold strValues
    rw [List.length_map]
    exact hl
  cases h1 : (decide (z.length < y.length) || decide (Builtin.Str.strKind z < Builtin.Str.strKind y)) with
  | true =>
    refine call_meets F.slot_str_split (typeIs_str _ _ _) F.entry_str_split (F.args_str_split_2 _ _) (meets_str_split_cannot_occur z y t t' h1) ?_
    exact key [(z, t)] s.toks (by unfold Txt.split; rw [if_pos h1]; rfl) one
  | false =>
    cases hf : (Builtin.Str.occurrences z y 0 z.length (z.length + 1)).isEmpty with
    | true =>
      refine call_meets F.slot_str_split (typeIs_str _ _ _) F.entry_str_split (F.args_str_split_2 _ _) (meets_str_split_not_found z y t t' h1 hy hf) ?_
      exact key [(z, t)] s.toks (by unfold Txt.split; rw [if_neg (by rw [h1]; exact Bool.false_ne_true), if_pos hf]; rfl) one
    | false =>
      have few := parts_few z y
      refine call_meets F.slot_str_split (typeIs_str _ _ _) F.entry_str_split (F.args_str_split_2 _ _) (meets_str_split_sep z y t t' h1 hy hf (by omega) (by omega)) ?_
      have k := key (numbered s.toks (Builtin.Str.partsBetween z (Builtin.Str.occurrences z y 0 z.length (z.length + 1)) y.length)) (s.toks + (Builtin.Str.partsBetween z (Builtin.Str.occurrences z y 0 z.length (z.length + 1)) y.length).length)
        ((numbered_texts _ _).trans (by unfold Txt.split; rw [if_neg (by rw [h1]; exact Bool.false_ne_true), if_neg (by rw [hf]; exact Bool.false_ne_true)])) (by
          have := congrArg List.length (numbered_texts s.toks (Builtin.Str.partsBetween z (Builtin.Str.occurrences z y 0 z.length (z.length + 1)) y.length))
          rw [List.length_map] at this
          omega)
      rw [← strsFrom_eq] at k
      exact k
def rIntT : List V → Hp → VK → Prop := fun xs H Q => ∃ z n, xs = [.str z] ∧ PySem.intText? z = some n ∧ z.length ≤ 640 ∧ Q (.int n) H
theorem call_int_text : CallR X (.type "int") rIntT := by
  intro pins s σ H xs us Q I r h
  obtain ⟨z, n, rfl, hn, hl, q⟩ := h
  obtain ⟨u, rfl, t, rfl⟩ := vals1 r
  exact PySem.W.KIN.call_text hn hl ⟨.int n, H, I.tok _, ⟨_, rfl⟩, q⟩
end
end L2
namespace Sw
open PySem L2
inductive Mvs (H : Hp) : List V → List (Int × Str) → Prop
  | nil : Mvs H [] []
  | cons {t : Addr} {k : Int} {x : Str} {vs : List V} {r : List (Int × Str)} : H t = some (.tup [.int k, .str x]) → Mvs H vs r → Mvs H (.ref t :: vs) ((k, x) :: r)
theorem Mvs.length {H : Hp} : ∀ {vs : List V} {r : List (Int × Str)}, Mvs H vs r → vs.length = r.length
  | _, _, .nil => rfl
  | _, _, .cons _ x => by rw [List.length_cons, List.length_cons, x.length]
theorem Mvs.append {H : Hp} : ∀ {vs ws : List V} {r q : List (Int × Str)}, Mvs H vs r → Mvs H ws q → Mvs H (vs ++ ws) (r ++ q)
  | _, _, _, _, .nil, y => y
  | _, _, _, _, .cons h x, y => .cons h (x.append y)
end Sw
namespace Sw
open PySem L2
def signs (x : Str) : List Nat := x.cps.toList
theorem signs_ext {x y : Str} (h : signs x = signs y) : x = y := Str.ext' (Array.toList_inj.mp h)
theorem signs_app (x y : Str) : signs (x ++ y) = signs x ++ signs y := by
  show (x.cps ++ y.cps).toList = _
  rw [Array.toList_append]; rfl
theorem signs_len (x : Str) : (signs x).length = x.length := Array.length_toList
def glue (c : Nat) : List (List Nat) → List Nat
  | [] => []
  | [x] => x
  | x :: y :: r => x ++ c :: glue c (y :: r)
theorem signs_join (c : Nat) : ∀ ts : List Str, signs (Str.join ⟨#[c]⟩ ts) = glue c (ts.map signs)
  | [] => rfl
  | [x] => rfl
  | x :: y :: r => by
    show signs (x ++ (⟨#[c]⟩ : Str) ++ Str.join ⟨#[c]⟩ (y :: r)) = signs x ++ c :: glue c ((y :: r).map signs)
    rw [signs_app, signs_app, signs_join c (y :: r), List.append_assoc]
    rfl
theorem cut_one {c : Nat} : ∀ {p q r s : List Nat}, c ∉ p → c ∉ q → p ++ c :: r = q ++ c :: s → p = q ∧ r = s
  | [], [], r, s, _, _, h => by
    injection h with _ h
    exact ⟨rfl, h⟩
  | [], b :: q, r, s, _, hq, h => by
    injection h with h _
    exact absurd List.mem_cons_self (h ▸ hq)
  | a :: p, [], r, s, hp, _, h => by
    injection h with h _
    exact absurd List.mem_cons_self (h ▸ hp)
  | a :: p, b :: q, r, s, hp, hq, h => by
    injection h with h1 h2
    obtain ⟨e1, e2⟩ := cut_one (fun z => hp (List.mem_cons_of_mem _ z)) (fun z => hq (List.mem_cons_of_mem _ z)) h2
    exact ⟨by rw [h1, e1], e2⟩
theorem glue_inj {c : Nat} : ∀ {ps qs : List (List Nat)}, ps ≠ [] → qs ≠ [] → (∀ p ∈ ps, c ∉ p) → (∀ q ∈ qs, c ∉ q) → glue c ps = glue c qs → ps = qs
  | [], _, h, _, _, _, _ => absurd rfl h
  | _, [], _, h, _, _, _ => absurd rfl h
  | [x], [y], _, _, _, _, h => by rw [show x = y from h]
  | [x], y :: z :: r, _, _, h1, _, h => by
    have h : x = y ++ c :: glue c (z :: r) := h
    exact absurd (by rw [h]; exact List.mem_append_right _ List.mem_cons_self) (h1 x List.mem_cons_self)
  | x :: z :: r, [y], _, _, _, h2, h => by
    have h : x ++ c :: glue c (z :: r) = y := h
    exact absurd (by rw [← h]; exact List.mem_append_right _ List.mem_cons_self) (h2 y List.mem_cons_self)
  | x :: y :: r, z :: w :: s, _, _, h1, h2, h => by
    obtain ⟨e1, e2⟩ := cut_one (h1 x List.mem_cons_self) (h2 z List.mem_cons_self) (show x ++ c :: glue c (y :: r) = z ++ c :: glue c (w :: s) from h)
    rw [e1, glue_inj (by simp) (by simp) (fun p hp => h1 p (List.mem_cons_of_mem _ hp)) (fun p hp => h2 p (List.mem_cons_of_mem _ hp)) e2]
theorem split_ne (x y : Str) : Txt.split x y ≠ [] := by
  unfold Txt.split
  split
  · simp
  · split
    · simp
    · rw [StrLaws.partsBetween_eq]
      obtain ⟨p, r, e⟩ := StrLaws.partsFrom_ne x y.length 0 (Builtin.Str.occurrences x y 0 x.length (x.length + 1))
      rw [e]; simp
theorem map_signs_inj : ∀ {a b : List Str}, a.map signs = b.map signs → a = b
  | [], [], _ => rfl
  | [], _ :: _, h => by simp at h
  | _ :: _, [], h => by simp at h
  | x :: a, y :: b, h => by
    rw [List.map_cons, List.map_cons] at h
    injection h with h1 h2
    rw [signs_ext h1, map_signs_inj h2]
theorem split_glued {c : Nat} {ts : List Str} (ne : ts ≠ []) (free : ∀ p ∈ ts, c ∉ signs p) : Txt.split (Str.join ⟨#[c]⟩ ts) ⟨#[c]⟩ = ts := by
  have e := StrLaws.join_split (Str.join ⟨#[c]⟩ ts) ⟨#[c]⟩
  have f := StrLaws.split_free (Str.join ⟨#[c]⟩ ts) c
  have e2 : glue c ((Txt.split (Str.join ⟨#[c]⟩ ts) ⟨#[c]⟩).map signs) = glue c (ts.map signs) := by
    rw [← signs_join, ← signs_join, e]
  refine map_signs_inj (glue_inj (by simpa using split_ne _ _) (by simpa using ne) ?_ ?_ e2)
  · intro p hp
    obtain ⟨q, hq, rfl⟩ := List.mem_map.mp hp
    exact f q hq
  · intro p hp
    obtain ⟨q, hq, rfl⟩ := List.mem_map.mp hp
    exact free q hq
def numT (i : Int) : Str := Str.ofString (toString i)
theorem num_signs (m : Nat) : signs (numT (m : Int)) = (Nat.toDigits 10 m).map Char.toNat := PySem.W.KIN.signs_num m
theorem num_digit {i : Int} (h : 0 ≤ i) : ∀ c ∈ signs (numT i), 48 ≤ c ∧ c ≤ 57 := by
  obtain ⟨m, rfl⟩ := Int.eq_ofNat_of_zero_le h
  intro c hc
  rw [num_signs] at hc
  obtain ⟨ch, hch, e⟩ := List.mem_map.mp hc
  rw [← e]
  exact PyProof.Rows.digit_range (Nat.isDigit_of_mem_toDigits (by decide) (by decide) hch)
theorem num_free {i : Int} (h : 0 ≤ i) {c : Nat} (hc : c < 48 ∨ 57 < c) : c ∉ signs (numT i) := fun z => by
  have := num_digit h c z
  omega
theorem num_pos {i : Int} (h : 0 ≤ i) : 0 < (numT i).length := by
  obtain ⟨m, rfl⟩ := Int.eq_ofNat_of_zero_le h
  rw [← signs_len, num_signs, List.length_map]
  exact PySem.toDigits_len_ge 10 m
theorem num_ascii {i : Int} (h : 0 ≤ i) : Txt.isascii (numT i) = true := by
  unfold Txt.isascii
  rw [Array.all_eq_true']
  intro c hc
  have := num_digit h c (by simpa [signs] using hc)
  exact decide_eq_true (by omega)
theorem dig_yes : ∀ c, 48 ≤ c → c ≤ 57 → Unicode.isDigit c = true := by
  intro c h1 h2
  have : c = 48 ∨ c = 49 ∨ c = 50 ∨ c = 51 ∨ c = 52 ∨ c = 53 ∨ c = 54 ∨ c = 55 ∨ c = 56 ∨ c = 57 := by omega
  rcases this with rfl | rfl | rfl | rfl | rfl | rfl | rfl | rfl | rfl | rfl <;> decide +kernel
theorem num_isdigit {i : Int} (h : 0 ≤ i) : Txt.isdigit (numT i) = true := by
  unfold Txt.isdigit
  rw [Bool.and_eq_true]
  refine ⟨decide_eq_true (num_pos h), ?_⟩
  rw [Array.all_eq_true']
  intro c hc
  have := num_digit h c (by simpa [signs] using hc)
  exact dig_yes c this.1 this.2
theorem num_len {i : Int} (h : 0 ≤ i) (h9 : i < 10 ^ 9) : (numT i).length ≤ 9 := PyProof.Rows.toString_length_le h (by decide) h9
theorem num_int {i : Int} (h : 0 ≤ i) (h9 : i < 10 ^ 10) : PySem.intText? (numT i) = some i := PySem.W.KIN.num_reads h h9
theorem head_dig (m : Nat) (hm : 0 < m) : ∃ d r, (Nat.toDigits 10 m).map Char.toNat = d :: r ∧ d ≠ 48 := by
  induction m using Nat.strongRecOn with
  | _ m ih =>
    by_cases h : m < 10
    · rw [Nat.toDigits_of_lt_base h]
      have : m = 1 ∨ m = 2 ∨ m = 3 ∨ m = 4 ∨ m = 5 ∨ m = 6 ∨ m = 7 ∨ m = 8 ∨ m = 9 := by omega
      rcases this with rfl | rfl | rfl | rfl | rfl | rfl | rfl | rfl | rfl <;> exact ⟨_, _, rfl, by decide⟩
    · have hm : m % 10 < 10 := Nat.mod_lt m (by decide)
      have t : Nat.toDigits 10 (m / 10) ++ Nat.toDigits 10 (m % 10) = Nat.toDigits 10 (10 * (m / 10) + m % 10) := Nat.toDigits_append_toDigits (by decide) (by omega) hm
      rw [Nat.div_add_mod] at t
      obtain ⟨d, r, e, hd⟩ := ih (m / 10) (by omega) (by omega)
      rw [← t, List.map_append, e]
      exact ⟨d, _, rfl, hd⟩
theorem starts_iff (x : Str) (c : Nat) : Txt.startswith x ⟨#[c]⟩ = true ↔ ∃ r, signs x = c :: r := by
  have h := StrLaws.subAt_one x c 0
  unfold Txt.startswith
  rw [Bool.and_eq_true, decide_eq_true_eq]
  rw [h]
  show (signs x)[0]? = some c ↔ _
  cases e : signs x with
  | nil => simp
  | cons a r => simp [eq_comm]
theorem num_nought {i : Int} (h : 0 < i) : Txt.startswith (numT i) ⟨#[48]⟩ = false := by
  rw [Bool.eq_false_iff]
  intro z
  obtain ⟨r, e⟩ := (starts_iff _ _).mp z
  obtain ⟨m, rfl⟩ := Int.eq_ofNat_of_zero_le (Int.le_of_lt h)
  obtain ⟨d, r', e', hd⟩ := head_dig m (by omega)
  rw [num_signs, e'] at e
  injection e with e _
  exact hd e
theorem joinOk_small {z : Str} {ts : List Str} {B : Nat} (hz : z.length ≤ 10) (hB : ∀ y ∈ ts, y.length ≤ B) (hb : B ≤ 10000) (h : ts.length ≤ 100) : JoinOk z ts = true := by
  unfold JoinOk
  rw [Bool.not_eq_true']
  refine StrLaws.joinFits hB ?_
  have h1 : ts.length * B ≤ 100 * 10000 := Nat.mul_le_mul h hb
  have h2 : ts.length * z.length ≤ 100 * 10 := Nat.mul_le_mul h hz
  omega
end Sw
namespace Sw
open PySem L2
theorem small_log {i : Int} (h0 : 0 ≤ i) (h9 : i < 10 ^ 9) : i.natAbs.log2 < 1920 := by
  by_cases hz : i.natAbs = 0
  · rw [hz]; decide
  · rw [Nat.log2_lt hz]
    have h1 : i.natAbs < 2 ^ 30 := by omega
    exact Nat.lt_of_lt_of_le h1 (Nat.pow_le_pow_right (by decide) (by decide))
def spNumT : Sp := fun vs H Q _ => ∃ (i : Int), vs = [.str (numT i)] ∧ 0 ≤ i ∧ i < 10 ^ 9 ∧ Q (.int i) H
def spChkT : Sp := fun vs H Q _ => ∃ (x : Str), vs = [.str x] ∧ Q .non H
structure TTx (mg : Str → Option Value) (K : PySem.W.Frag) (u : Value) : Prop extends T1 mg K where
  b_str : mg "str" = none
  g_MOST_FIGURES : mg "MOST_FIGURES" = some u
  r_MOST_FIGURES : RelV (.int 9) u
section
variable {P : Program} {w : World} {K : PySem.W.Frag} {mg : Str → Option Value} {base : Heap} {u : Value}
theorem sc_read_number : FnScope ["word"] ["word"] (defScope (top 29)) := ⟨rfl, rfl, rfl, by decide +kernel, rfl, by decide +kernel, by decide +kernel⟩
theorem ok_num {f : Addr} {fd : FuncData} (F : Fun K "read_number" "read_number" (top 29) f fd) (T : TTx mg K u) : FnOk P w K mg base CX0 1 f fd ["word"] spNumT := by
  refine F.ok sc_read_number (fun vs H Q E h => ?_) (fun cdv A outer s H vs Q E hr h => ?_)
  · obtain ⟨i, rfl, _⟩ := h
    rfl
  · obtain ⟨i, rfl, i0, i9, k⟩ := h
    refine ⟨_, (pss_cons (ps_if (PW.pt (pw_or (pt_not (pt_val (pe_bm0K (K := K) rfl PySem.F.plainAttrs_str PySem.F.slot_str_isascii PySem.F.type_str_isascii mt_isascii (pv 0)))) (pw_or (pt_not (pt_val (pe_bm0K (K := K) rfl PySem.F.plainAttrs_str PySem.F.slot_str_isdigit PySem.F.type_str_isdigit mt_isdigit (pv 0)))) (pw_or1 (pt_cmpR op_gt (pe_callB call_len_str rfl T.b_len (by decide +kernel) (pa_cons (pv 0) pa_nil)) (pe_glob rfl T.g_MOST_FIGURES T.r_MOST_FIGURES) (nomark _)))))) (pss_one ps_never) pss_nil)
      (pss_cons (ps_if (PW.pt (pw_and (pt_cmpR op_ne (pv 0) pe_str (nomark _)) (pw_and1 (pt_val (pe_bmK (K := K) rfl PySem.F.plainAttrs_str PySem.F.slot_str_startswith PySem.F.type_str_startswith mt_starts (pv 0) (pa_cons pe_str pa_nil)))))) (pss_one ps_never) pss_nil)
      (pss_one (ps_ret (pe_callTy call_int_text rfl T.b_int (by decide +kernel) (pa_cons (pv 0) pa_nil)))))), ?_⟩
    have big : (10000000 : Nat) ≤ sizeLine := by decide
    have nl := num_len i0 i9
    refine ⟨_, rfl, rfl, _, rfl, rfl, _, rfl, iteE (by rw [num_ascii i0]; rfl) ?_⟩
    refine ⟨_, rfl, rfl, _, rfl, rfl, _, rfl, iteE (by rw [num_isdigit i0]; rfl) ?_⟩
    refine ⟨_, rfl, _, rfl, by omega, _, _, rfl, rfl, _, rfl, iteE (decide_eq_false (by omega)) ?_⟩
    refine ⟨_, rfl, rfl, _, rfl, ?_⟩
    have fin : tRet (tCB rIntT (tCons (tVar 0) tNil)) { nx := fun x H' => Q V.non H', rt := Q } (L2.start [Str.ofString "word"] [V.str (numT i)]) H := ⟨_, rfl, _, i, rfl, num_int i0 (by omega), by omega, k⟩
    by_cases hz : i = 0
    · subst hz
      refine iteE (by decide +kernel) ?_
      exact fin
    · have nz : Txt.startswith (numT i) (Str.ofString "0") = false := num_nought (by omega)
      refine ite2 (fun _ => ?_) (fun _ => ?_)
      · exact ⟨_, rfl, rfl, _, _, rfl, rfl, _, rfl, iteE nz fin⟩
      · exact fin
theorem sc_check_text : FnScope ["thing"] ["thing"] (defScope (top 28)) := ⟨rfl, rfl, rfl, by decide +kernel, rfl, by decide +kernel, by decide +kernel⟩
theorem ok_chkT {f : Addr} {fd : FuncData} (F : Fun K "check_text" "check_text" (top 28) f fd) (T : TTx mg K u) : FnOk P w K mg base CX0 1 f fd ["thing"] spChkT := by
  refine F.ok sc_check_text (fun vs H Q E h => ?_) (fun cdv A outer s H vs Q E hr h => ?_)
  · obtain ⟨x, rfl, _⟩ := h
    rfl
  · obtain ⟨x, rfl, k⟩ := h
    refine ⟨_, (pss_one (ps_if (pt_not (pt_val (pe_callB (call_isiK (K := K) rfl) rfl T.b_isinstance (by decide +kernel) (pa_cons (pv 0) (pa_cons (pe_bltn (v := .ty "str") rfl T.b_str (by decide +kernel) rfl) pa_nil))))) (pss_one ps_never) pss_nil)), ?_⟩
    refine ⟨_, rfl, _, _, "str", _, rfl, TyOf.str x, kit_self _ _, true, rfl, iteF ?_⟩
    exact k
end
end Sw
namespace L2
open PySem PySem.Spec PyProof.Rows
section
variable {X : Cx} {K : PySem.W.Frag}
def rSlS : V → Option Int → Option Int → Hp → VK → Prop := fun x lo hi H Q => ∃ z, x = .str z ∧ z.length ≤ sizeLine ∧ Q (.str (Txt.slice z lo hi)) H
theorem sl_str : SlR X rSlS := by
  intro pins s σ H x v vl vu lo hi sl Q I rx hs pl pu h
  obtain ⟨z, rfl, hz, q⟩ := h
  obtain ⟨t, rfl⟩ := rx
  refine ⟨"str", _, F.slot_str_getitem.lookup, typeIs_str _ _ _, ?_⟩
  have fin : ∀ lo hi, Q (.str (Txt.slice z lo hi)) H → (Txt.slice z lo hi).length ≤ sizeLine ∧ ∀ t' k, EP X pins σ Q (.str (Txt.slice z lo hi) t') { s with toks := k } := fun lo hi q => ⟨Nat.le_trans (Txt.slice_le z lo hi) hz, fun t' k => ⟨.str _, H, I.tok _, ⟨_, rfl⟩, q⟩⟩
  cases pl with
  | none =>
    cases pu with
    | none => exact wpAny_getItem_str_slice (l := none) (u := none) (st := none) hs rfl (post_val_or_str (fin none none q))
    | int j uj => exact wpAny_getItem_str_slice (l := none) (u := some (j, uj)) (st := none) hs rfl (post_val_or_str (fin none (some j) q))
  | int i ui =>
    cases pu with
    | none => exact wpAny_getItem_str_slice (l := some (i, ui)) (u := none) (st := none) hs rfl (post_val_or_str (fin (some i) none q))
    | int j uj => exact wpAny_getItem_str_slice (l := some (i, ui)) (u := some (j, uj)) (st := none) hs rfl (post_val_or_str (fin (some i) (some j) q))
theorem slice_inner {x : Str} (h : 2 ≤ x.length) : Txt.slice x (some 1) (some (-1)) = ⟨((x.cps.toList.drop 1).take (x.length - 2)).toArray⟩ := by
  show StrLaws.sliceText x (some 1) (some (-1)) = _
  rw [StrLaws.sliceText_neg_hi x (some 1) (by decide) (by omega)]
  have := StrLaws.sliceText_nat x (a := 1) (b := x.length - 1) (by omega) (by omega)
  rw [show ((-1 : Int) + x.length) = ((x.length - 1 : Nat) : Int) by omega]
  rw [show x.length - 1 - 1 = x.length - 2 by omega] at this
  exact this
def rSum (K : PySem.W.Frag) : List V → Hp → VK → Prop := fun xs H Q => ∃ (p : Addr) (ns : List Int), xs = [.ref p] ∧ SqL K H p (ns.map V.int) ∧ Q (.int ns.sum) H
theorem call_sum (hK : X.K = K) (hc : X.calm = true) : CallR X (.builtin "sum") (rSum K) := by
  subst hK
  intro pins s σ H xs us Q I r h
  obtain ⟨p, ns, rfl, hp, q⟩ := h
  obtain ⟨u, rfl, ru⟩ := vals1 r
  cases ru
  obtain ⟨its, rv, pl, _⟩ := I.list hp
  have hi := ints_are rv
  obtain ⟨zs, hx⟩ := hi.allInts.items
  have hl : s.heap.IsList p (intItems zs) := hx ▸ pl.isList
  refine sum_intListG (I.ok.hd hc) hl fun h' tk t' hk => ?_
  have e1 : ns = zs.toList.map (·.1) := by
    rw [← nums_intItems, ← hx]
    exact (show numsOf its.toArray.toList = ns from hi.numsOf).symm
  have e2 : preSum (numAt zs) zs.size = ns.sum := by
    rw [preSum_eq, List.take_of_length_le (by simp), e1]
  rw [e2]
  exact ⟨.int _, H, I.kept hk, ⟨_, rfl⟩, q⟩
end
end L2
namespace Sw
open PySem L2
def thT (r : List Int) : Str := Str.join (Str.ofString " ") (r.map numT)
def rdT (r : List Int) : Str := Str.ofString "(" ++ thT r ++ Str.ofString ")"
def ordT (rs : List (List Int)) : Str := Str.join (Str.ofString "") (rs.map rdT)
theorem signs_cat : ∀ ts : List Str, signs (Str.join (Str.ofString "") ts) = (ts.map signs).flatten
  | [] => rfl
  | [x] => by show signs x = (signs x :: []).flatten; simp
  | x :: y :: r => by
    show signs (x ++ Str.ofString "" ++ Str.join (Str.ofString "") (y :: r)) = (signs x :: (y :: r).map signs).flatten
    rw [signs_app, signs_app, signs_cat (y :: r), List.flatten_cons]
    rw [show signs (Str.ofString "") = [] by decide +kernel, List.append_nil]
def glue2 (c d : Nat) : List (List Nat) → List Nat
  | [] => []
  | [x] => x
  | x :: y :: r => x ++ c :: d :: glue2 c d (y :: r)
theorem signs_join2 (c d : Nat) : ∀ ts : List Str, signs (Str.join ⟨#[c, d]⟩ ts) = glue2 c d (ts.map signs)
  | [] => rfl
  | [x] => rfl
  | x :: y :: r => by
    show signs (x ++ (⟨#[c, d]⟩ : Str) ++ Str.join ⟨#[c, d]⟩ (y :: r)) = signs x ++ c :: d :: glue2 c d ((y :: r).map signs)
    rw [signs_app, signs_app, signs_join2 c d (y :: r), List.append_assoc]
    rfl
theorem glue2_inj {c d : Nat} : ∀ {ps qs : List (List Nat)}, ps ≠ [] → qs ≠ [] → (∀ p ∈ ps, c ∉ p) → (∀ q ∈ qs, c ∉ q) → glue2 c d ps = glue2 c d qs → ps = qs
  | [], _, h, _, _, _, _ => absurd rfl h
  | _, [], _, h, _, _, _ => absurd rfl h
  | [x], [y], _, _, _, _, h => by rw [show x = y from h]
  | [x], y :: z :: r, _, _, h1, _, h => by
    have h : x = y ++ c :: d :: glue2 c d (z :: r) := h
    exact absurd (by rw [h]; exact List.mem_append_right _ List.mem_cons_self) (h1 x List.mem_cons_self)
  | x :: z :: r, [y], _, _, _, h2, h => by
    have h : x ++ c :: d :: glue2 c d (z :: r) = y := h
    exact absurd (by rw [← h]; exact List.mem_append_right _ List.mem_cons_self) (h2 y List.mem_cons_self)
  | x :: y :: r, z :: w :: s, _, _, h1, h2, h => by
    obtain ⟨e1, e2⟩ := cut_one (h1 x List.mem_cons_self) (h2 z List.mem_cons_self) (show x ++ c :: (d :: glue2 c d (y :: r)) = z ++ c :: (d :: glue2 c d (w :: s)) from h)
    injection e2 with _ e2
    rw [e1, glue2_inj (by simp) (by simp) (fun p hp => h1 p (List.mem_cons_of_mem _ hp)) (fun p hp => h2 p (List.mem_cons_of_mem _ hp)) e2]
theorem glue2_next {c d : Nat} : ∀ {ts : List (List Nat)}, (∀ t ∈ ts, c ∉ t) → ∀ k, (glue2 c d ts)[k]? = some c → c ≠ d → (glue2 c d ts)[k + 1]? = some d
  | [], _, k, h, _ => by simp [glue2] at h
  | [x], hf, k, h, _ => absurd (List.mem_of_getElem? (show x[k]? = some c from h)) (hf x List.mem_cons_self)
  | x :: y :: r, hf, k, h, hcd => by
    have h : (x ++ c :: d :: glue2 c d (y :: r))[k]? = some c := h
    show (x ++ c :: d :: glue2 c d (y :: r))[k + 1]? = some d
    by_cases h1 : k < x.length
    · rw [List.getElem?_append_left h1] at h
      exact absurd (List.mem_of_getElem? h) (hf x List.mem_cons_self)
    · rw [List.getElem?_append_right (by omega)] at h ⊢
      rcases Nat.lt_or_ge k (x.length + 2) with h2 | h2
      · rcases Nat.lt_or_ge k (x.length + 1) with h3 | h3
        · rw [show k + 1 - x.length = 1 by omega]; rfl
        · rw [show k - x.length = 1 by omega] at h
          have h : some d = some c := h
          exact absurd (Option.some.inj h).symm hcd
      · obtain ⟨j, hj⟩ : ∃ j, k - x.length = j + 2 := ⟨k - x.length - 2, by omega⟩
        rw [hj] at h
        rw [show k + 1 - x.length = (j + 1) + 2 by omega]
        exact glue2_next (fun t ht => hf t (List.mem_cons_of_mem _ ht)) j h hcd
theorem part_none {x y : Str} {c a b : Nat} (hb : b ≤ x.length) (hf : ∀ k, (signs x)[k]? = some c → StrLaws.At x y x.length k) (hn : ∀ k, a ≤ k → k < b → ¬ StrLaws.At x y x.length k) : c ∉ signs (Builtin.Str.strSub x a b) := by
  intro hm
  unfold signs at hm
  rw [StrLaws.strSub_toList] at hm
  obtain ⟨j, hj⟩ := List.getElem?_of_mem hm
  have hlt : j < b - a := by
    have h1 := (List.getElem?_eq_some_iff.mp hj).1
    rw [List.length_take] at h1
    omega
  rw [List.getElem?_take_of_lt hlt, List.getElem?_drop] at hj
  exact hn (a + j) (by omega) (by omega) (hf _ hj)
theorem parts_none {x y : Str} {c : Nat} (hf : ∀ k, (signs x)[k]? = some c → StrLaws.At x y x.length k) : ∀ (cuts : List Nat) (a f : Nat), StrLaws.ChainG x y x.length a cuts f → (∀ k, f ≤ k → ¬ StrLaws.At x y x.length k) → ∀ p ∈ StrLaws.partsFrom x y.length a cuts, c ∉ signs p
  | [], a, f, h, hn, p, hp => by
    have e : f = a := h
    subst e
    rw [List.mem_singleton.mp hp]
    exact part_none (Nat.le_refl _) hf fun k h1 _ => hn k h1
  | d :: r, a, f, h, hn, p, hp => by
    rcases List.mem_cons.mp hp with rfl | hp'
    · exact part_none (by have := h.2.1.1; omega) hf h.2.2.1
    · exact parts_none hf r _ f h.2.2.2 hn p hp'
theorem split_none {x y : Str} {c : Nat} (hw : 1 ≤ y.length) (hy : Builtin.Str.strKind y = 1) (hf : ∀ k, (signs x)[k]? = some c → StrLaws.At x y x.length k) : ∀ p ∈ Txt.split x y, c ∉ signs p := by
  obtain ⟨f, hG, hn⟩ := StrLaws.occ_tight x y hw
  have whole : (∀ k, ¬ StrLaws.At x y x.length k) → c ∉ signs x := fun h hm => by
    obtain ⟨j, hj⟩ := List.getElem?_of_mem hm
    exact h j (hf j hj)
  unfold Txt.split
  split
  · rename_i hc
    intro p hp
    rw [List.mem_singleton.mp hp]
    refine whole fun k hA => ?_
    rw [Bool.or_eq_true, decide_eq_true_eq, decide_eq_true_eq] at hc
    rcases hc with h | h
    · have := hA.1; omega
    · rw [hy] at h
      unfold Builtin.Str.strKind at h
      split at h
      · omega
      · split at h <;> omega
  · split
    · rename_i he
      intro p hp
      rw [List.mem_singleton.mp hp]
      rw [List.isEmpty_iff.mp he] at hG
      have e : f = 0 := hG
      exact whole fun k => hn k (by omega)
    · rw [StrLaws.partsBetween_eq]
      exact parts_none hf _ 0 f hG hn
theorem split_glued2 {ts : List Str} (ne : ts ≠ []) (free : ∀ p ∈ ts, 41 ∉ signs p) : Txt.split (Str.join ⟨#[41, 40]⟩ ts) ⟨#[41, 40]⟩ = ts := by
  have e := StrLaws.join_split (Str.join ⟨#[41, 40]⟩ ts) ⟨#[41, 40]⟩
  have fr : ∀ q ∈ ts.map signs, 41 ∉ q := fun p hp => by
    obtain ⟨q, hq, rfl⟩ := List.mem_map.mp hp
    exact free q hq
  have f := split_none (x := Str.join ⟨#[41, 40]⟩ ts) (y := ⟨#[41, 40]⟩) (c := 41) (by decide) (by decide +kernel) fun k hk => by
    rw [signs_join2] at hk
    have hk2 := glue2_next fr k hk (by decide)
    rw [← signs_join2] at hk hk2
    have l2 := (List.getElem?_eq_some_iff.mp hk2).1
    rw [signs_len] at l2
    refine ⟨by show k + 2 ≤ _; omega, ?_⟩
    rw [StrLaws.subAt_eq]
    show (((signs (Str.join ⟨#[41, 40]⟩ ts)).drop k).take 2 == [41, 40]) = true
    have d1 : (signs (Str.join ⟨#[41, 40]⟩ ts)).drop k = 41 :: (signs (Str.join ⟨#[41, 40]⟩ ts)).drop (k + 1) := by
      obtain ⟨h1, h2⟩ := List.getElem?_eq_some_iff.mp hk
      rw [List.drop_eq_getElem_cons h1, h2]
    have d2 : (signs (Str.join ⟨#[41, 40]⟩ ts)).drop (k + 1) = 40 :: (signs (Str.join ⟨#[41, 40]⟩ ts)).drop (k + 2) := by
      obtain ⟨h1, h2⟩ := List.getElem?_eq_some_iff.mp hk2
      rw [List.drop_eq_getElem_cons h1, h2]
    rw [d1, d2]
    rfl
  have e2 : glue2 41 40 ((Txt.split (Str.join ⟨#[41, 40]⟩ ts) ⟨#[41, 40]⟩).map signs) = glue2 41 40 (ts.map signs) := by
    rw [← signs_join2, ← signs_join2, e]
  refine map_signs_inj (glue2_inj (by simpa using split_ne _ _) (by simpa using ne) ?_ fr e2)
  intro p hp
  obtain ⟨q, hq, rfl⟩ := List.mem_map.mp hp
  exact f q hq
theorem wrap_glue : ∀ {ts : List (List Nat)}, ts ≠ [] → (ts.map fun t => 40 :: (t ++ [41])).flatten = 40 :: (glue2 41 40 ts ++ [41])
  | [], h => absurd rfl h
  | [x], _ => by simp [glue2]
  | x :: y :: r, _ => by
    rw [List.map_cons, List.flatten_cons, wrap_glue (ts := y :: r) (by simp)]
    show 40 :: (x ++ [41]) ++ 40 :: (glue2 41 40 (y :: r) ++ [41]) = 40 :: (x ++ 41 :: 40 :: glue2 41 40 (y :: r) ++ [41])
    simp
theorem signs_rd (r : List Int) : signs (rdT r) = 40 :: (signs (thT r) ++ [41]) := by
  unfold rdT
  rw [signs_app, signs_app]
  rw [show signs (Str.ofString "(") = [40] by decide +kernel, show signs (Str.ofString ")") = [41] by decide +kernel]
  rfl
theorem signs_ord {rs : List (List Int)} (h : rs ≠ []) : signs (ordT rs) = 40 :: (glue2 41 40 ((rs.map thT).map signs) ++ [41]) := by
  unfold ordT
  rw [signs_cat, List.map_map]
  rw [show (signs ∘ rdT) = (fun r => 40 :: (signs (thT r) ++ [41])) from funext signs_rd]
  rw [← wrap_glue (by simpa using h), List.map_map, List.map_map]
  rfl
theorem inner_ord {rs : List (List Int)} (h : rs ≠ []) : Txt.slice (ordT rs) (some 1) (some (-1)) = Str.join ⟨#[41, 40]⟩ (rs.map thT) := by
  have e := signs_ord h
  have l : (ordT rs).length = (glue2 41 40 ((rs.map thT).map signs)).length + 2 := by rw [← signs_len, e]; simp
  rw [slice_inner (by omega)]
  apply signs_ext
  show (((signs (ordT rs)).drop 1).take ((ordT rs).length - 2)).toArray.toList = _
  rw [signs_join2, e, l]
  simp
theorem th_free {r : List Int} (h : ∀ x ∈ r, 0 ≤ x) : ∀ c ∈ signs (thT r), c = 32 ∨ (48 ≤ c ∧ c ≤ 57) := by
  unfold thT
  rw [show (Str.ofString " ") = (⟨#[32]⟩ : Str) from rfl, signs_join]
  induction r with
  | nil => intro c hc; simp [glue] at hc
  | cons x r ih =>
    intro c hc
    cases r with
    | nil => exact .inr (num_digit (h x List.mem_cons_self) c hc)
    | cons y r =>
      have hc : c ∈ signs (numT x) ++ 32 :: glue 32 (((y :: r).map numT).map signs) := hc
      rcases List.mem_append.mp hc with hc | hc
      · exact .inr (num_digit (h x List.mem_cons_self) c hc)
      · rcases List.mem_cons.mp hc with rfl | hc
        · exact .inl rfl
        · exact ih (fun z hz => h z (List.mem_cons_of_mem _ hz)) c hc
theorem ord_split {rs : List (List Int)} (h : rs ≠ []) (hp : ∀ r ∈ rs, ∀ x ∈ r, 0 ≤ x) : Txt.split (Txt.slice (ordT rs) (some 1) (some (-1))) (Str.ofString ")(") = rs.map thT := by
  rw [inner_ord h]
  refine split_glued2 (by simpa using h) fun p hpm => ?_
  obtain ⟨r, hr, rfl⟩ := List.mem_map.mp hpm
  intro z
  have := th_free (hp r hr) 41 z
  omega
theorem th_split {r : List Int} (h : r ≠ []) (hp : ∀ x ∈ r, 0 ≤ x) : Txt.split (thT r) (Str.ofString " ") = r.map numT := by
  refine split_glued (c := 32) (by simpa using h) fun p hpm => ?_
  obtain ⟨x, hx, rfl⟩ := List.mem_map.mp hpm
  exact num_free (hp x hx) (by omega)
theorem thT_len {r : List Int} (hp : ∀ x ∈ r, 0 ≤ x ∧ x < 10 ^ 9) : (thT r).length ≤ r.length * 10 := by
  have h1 := StrLaws.join_length_le (Str.ofString " ") (r.map numT)
  have h2 := StrLaws.sumLen_le (B := 9) (r.map numT) (fun y hy => by
    obtain ⟨x, hx, rfl⟩ := List.mem_map.mp hy
    exact num_len (hp x hx).1 (hp x hx).2)
  rw [List.length_map] at h1 h2
  have h3 : (Str.ofString " ").length = 1 := by decide +kernel
  rw [h3] at h1
  unfold thT
  omega
theorem len_in_flat {rs : List (List Int)} {r : List Int} (h : r ∈ rs) : r.length ≤ rs.flatten.length := by
  induction rs with
  | nil => cases h
  | cons a rs ih =>
    rw [List.flatten_cons, List.length_append]
    rcases List.mem_cons.mp h with rfl | h
    · omega
    · have := ih h; omega
theorem few_in_flat {rs : List (List Int)} (h : ∀ r ∈ rs, r ≠ []) : rs.length ≤ rs.flatten.length := by
  induction rs with
  | nil => exact Nat.le_refl _
  | cons a rs ih =>
    rw [List.flatten_cons, List.length_append, List.length_cons]
    have := ih fun r hr => h r (List.mem_cons_of_mem _ hr)
    have := List.length_pos_iff.mpr (h a List.mem_cons_self)
    omega
theorem rnd_facts {n : Int} {xs : List Int} (o : Ord n xs) : (rndM n xs).flatten.length = n.toNat ∧ (∀ r ∈ rndM n xs, r ≠ [] ∧ r.length ≤ n.toNat ∧ ∀ x ∈ r, 1 ≤ x ∧ x ≤ n) ∧ (rndM n xs).length ≤ n.toNat := by
  have c : ∀ r ∈ rndM n xs, r ≠ [] ∧ ∀ x ∈ r, 1 ≤ x ∧ x ≤ n := fun r hr => by
    obtain ⟨c1, c2⟩ := rnd_cyc o hr
    refine ⟨c1, fun x hx => ?_⟩
    obtain ⟨i, hi⟩ := List.getElem?_of_mem hx
    obtain ⟨a, b, _⟩ := c2 i x hi
    exact ⟨a, b⟩
  have fl : (rndM n xs).flatten.length = n.toNat := by
    have pm : (rndM n xs).flatten.Perm (ivl 1 (n + 1)) := by
      refine (List.perm_ext_iff_of_nodup (rnd_nodup o) (ivl_nodup _ _)).mpr fun x => ?_
      rw [mem_ivl]
      constructor
      · intro h
        obtain ⟨r, hr, hx⟩ := List.mem_flatten.mp h
        have := (c r hr).2 x hx
        omega
      · intro h
        exact rnd_all o (by omega) (by omega)
    rw [pm.length_eq, ivl_length]
    congr 1
    omega
  refine ⟨fl, fun r hr => ⟨(c r hr).1, ?_, (c r hr).2⟩, ?_⟩
  · rw [← fl]; exact len_in_flat hr
  · rw [← fl]; exact few_in_flat fun r hr => (c r hr).1
end Sw
namespace Sw
open PySem L2
def spShowTh : Sp := fun vs H Q _ => ∃ (l : Addr) (r : List Int), vs = [.ref l] ∧ H l = some (.lst (r.map V.int)) ∧ r.length ≤ 20 ∧ (∀ x ∈ r, 0 ≤ x ∧ x < 10 ^ 9) ∧ ∀ H', Same H H' → Q (.str (thT r)) H'
def spShowOrd : Sp := fun vs H Q _ => ∃ (t : Addr) (n : Int) (xs : List Int), vs = [.ref t] ∧ H t = some (.tup (xs.map V.int)) ∧ Ord n xs ∧ n ≤ 12 ∧ ∀ H', Same H H' → Q (.str (ordT (rndM n xs))) H'
def spReadTh : Sp := fun vs H Q _ => ∃ (r : List Int), vs = [.str (thT r)] ∧ r ≠ [] ∧ r.length ≤ 20 ∧ (∀ x ∈ r, 0 ≤ x ∧ x < 10 ^ 9) ∧ ∀ l H', H l = none → H' l = some (.lst (r.map V.int)) → Same H H' → Q (.ref l) H'
def spMany : Sp := fun vs H Q _ => ∃ (l : Addr) (ws : List V) (rs : List (List Int)), vs = [.ref l] ∧ H l = some (.lst ws) ∧ Lsts H ws rs ∧ rs.flatten.length ≤ 12 ∧ ws.length ≤ 1000 ∧ ∀ H', Same H H' → Q (.int (rs.flatten.length : Int)) H'
structure TSo (P : Program) (w : World) (K : PySem.W.Frag) (mg : Str → Option Value) (base : Heap) : Prop extends T1 mg K where
  b_str : mg "str" = none
  f_show_things : FnAt P w K mg base "show_things" 1 ["things"] spShowTh
  f_rounds : FnAt P w K mg base "rounds" 3 ["order"] spRounds
structure TRt (P : Program) (w : World) (K : PySem.W.Frag) (mg : Str → Option Value) (base : Heap) : Prop extends T1 mg K where
  f_read_number : FnAt P w K mg base "read_number" 1 ["word"] spNumT
structure TMa (mg : Str → Option Value) (K : PySem.W.Frag) (u : Value) : Prop extends T1 mg K where
  b_sum : mg "sum" = none
  g_MOST_THINGS : mg "MOST_THINGS" = some u
  r_MOST_THINGS : RelV (.int 12) u
structure TRo (P : Program) (w : World) (K : PySem.W.Frag) (mg : Str → Option Value) (base : Heap) (C : Addr) : Prop extends T1 mg K where
  c_NoRounds : mg "NoRounds" = some (.ref C)
  f_check_text : FnAt P w K mg base "check_text" 1 ["thing"] spChkT
  f_read_things : FnAt P w K mg base "read_things" 2 ["text"] spReadTh
  f_many_things : FnAt P w K mg base "many_things" 1 ["lists"] spMany
  f_made : FnAt P w K mg base "made" 4 ["n", "lists"] spMade
  f_show_order : FnAt P w K mg base "show_order" 4 ["order"] spShowOrd
section
variable {P : Program} {w : World} {K : PySem.W.Frag} {mg : Str → Option Value} {base : Heap} {u : Value} {C : Addr}
theorem sc_show_things : FnScope ["things"] ["things"] (defScope (top 26)) := ⟨rfl, rfl, rfl, by decide +kernel, rfl, by decide +kernel, by decide +kernel⟩
theorem ok_showth {f : Addr} {fd : FuncData} (F : Fun K "show_things" "show_things" (top 26) f fd) (T : TTx mg K u) : FnOk P w K mg base CX0 1 f fd ["things"] spShowTh := by
  refine F.ok sc_show_things (fun vs H Q E h => ?_) (fun cdv A outer s H vs Q E hr h => ?_)
  · obtain ⟨l, r, rfl, _⟩ := h
    rfl
  · obtain ⟨l, r, rfl, hl, h20, hs, k⟩ := h
    refine ⟨_, (pss_one (ps_ret (pe_bmK (K := K) rfl PySem.F.plainAttrs_str PySem.F.slot_str_join PySem.F.type_str_join (mt_join (K := K) rfl) pe_str (pa_cons (pe_comp (N := (["thing"] : List Str)) (ix := ([none] : List (Option Nat))) (comp_ok rfl rfl) rfl (pi_listK (K := K) rfl (pv 0)) (fun _ _ _ _ => (pg_name (i := 0) (show List.Nodup (["thing"] : List Str) from by decide +kernel) rfl (Or.inl rfl))) (fun _ _ _ _ => pif_nil) (fun _ _ _ _ => (pe_callTy call_str_int rfl T.b_str (by decide +kernel) (pa_cons (pv 0) pa_nil)))) pa_nil)))), ?_⟩
    refine ⟨rfl, _, rfl, l, rfl, ⟨_, SqL.of hl⟩, compL (K := K) (a := l) (xs := r.map V.int) (k := 0) (fun i ys σ' H' => ys = ((r.take i).map numT).map V.str ∧ (∃ v0, σ' = [v0]) ∧ H' = H) (by rw [List.length_map]; omega) ⟨rfl, ⟨none, rfl⟩, rfl⟩ (fun i ys σ' H' _ q => by rw [q.2.2]; exact SqL.of hl) (fun i ys σ' H' q => by rw [q.1, List.length_map, List.length_map, List.length_take]; omega) ?_ ?_⟩
    · rintro i ys σ' H' x R hx' ⟨rfl, ⟨v0, rfl⟩, rfl⟩ done
      obtain ⟨z, rfl, hz⟩ := mem_int hx'
      obtain ⟨z0, z9⟩ := hs z (List.mem_of_getElem? hz)
      refine ⟨_, rfl, z, rfl, small_log z0 z9, done _ _ _ ⟨?_, ⟨_, rfl⟩, rfl⟩⟩
      rw [take_succ_map numT hz, List.map_append]
      rfl
    · rintro ys σ' H' q ⟨rfl, ⟨v0, rfl⟩, e0⟩ fq
      have e0 := e0.symm
      subst e0
      rw [List.take_of_length_le (by rw [List.length_map]; omega)]
      refine ⟨_, q, r.map numT, rfl, rfl, SqL.of upd_same, joinOk_small (B := 9) (by decide +kernel) (fun y hy => ?_) (by decide) (by rw [List.length_map]; omega), k _ (Same.new fq)⟩
      obtain ⟨z, hz, rfl⟩ := List.mem_map.mp hy
      exact num_len (hs z hz).1 (hs z hz).2
theorem sc_read_things : FnScope ["text"] ["text"] (defScope (top 30)) := ⟨rfl, rfl, rfl, by decide +kernel, rfl, by decide +kernel, by decide +kernel⟩
theorem sc_many_things : FnScope ["lists", "many"] ["lists"] (defScope (top 31)) := ⟨rfl, rfl, rfl, by decide +kernel, rfl, by decide +kernel, by decide +kernel⟩
theorem sc_show_order : FnScope ["order"] ["order"] (defScope (top 27)) := ⟨rfl, rfl, rfl, by decide +kernel, rfl, by decide +kernel, by decide +kernel⟩
theorem ok_showord {f : Addr} {fd : FuncData} (F : Fun K "show_order" "show_order" (top 27) f fd) (T : TSo P w K mg base) : FnOk P w K mg base CX0 4 f fd ["order"] spShowOrd := by
  refine F.ok sc_show_order (fun vs H Q E h => ?_) (fun cdv A outer s H vs Q E hr h => ?_)
  · obtain ⟨t, n, xs, rfl, _⟩ := h
    rfl
  · obtain ⟨t, n, xs, rfl, ht, ho, n12, k⟩ := h
    refine ⟨_, (pss_one (ps_ret (pe_bmK (K := K) rfl PySem.F.plainAttrs_str PySem.F.slot_str_join PySem.F.type_str_join (mt_join (K := K) rfl) pe_str (pa_cons (pe_comp (N := (["found"] : List Str)) (ix := ([none] : List (Option Nat))) (comp_ok rfl rfl) rfl (pi_listK (K := K) rfl (pe_callF T.f_rounds (hr.mono (by first | decide | omega)) rfl (pa_cons (pv 0) pa_nil))) (fun _ _ _ _ => (pg_name (i := 0) (show List.Nodup (["found"] : List Str) from by decide +kernel) rfl (Or.inl rfl))) (fun _ _ _ _ => pif_nil) (fun _ _ _ _ => (pe_op op_add_str (pe_op op_add_str pe_str (pe_callF T.f_show_things (hr.mono (by first | decide | omega)) rfl (pa_cons (pv 0) pa_nil))) pe_str))) pa_nil)))), ?_⟩
    have big : (10000000 : Nat) ≤ sizeLine := by decide
    obtain ⟨f1, f2, f3⟩ := rnd_facts ho
    refine ⟨rfl, _, rfl, t, n, xs, rfl, ht, ho, by omega, fun l ws H1 fl hl xw _ _ s1 => ?_⟩
    have wl := xw.length
    refine ⟨l, rfl, ⟨_, SqL.of hl⟩, compL (K := K) (a := l) (xs := ws) (k := 0) (fun i ys σ' H' => ys = (((rndM n xs).take i).map rdT).map V.str ∧ (∃ v0, σ' = [v0]) ∧ Same H1 H') (by omega) ⟨rfl, ⟨none, rfl⟩, Same.refl _⟩ (fun i ys σ' H' _ q => SqL.of (q.2.2 _ _ hl)) (fun i ys σ' H' q => by rw [q.1, List.length_map, List.length_map, List.length_take]; omega) ?_ ?_⟩
    · rintro i ys σ' H2 x R hx' ⟨rfl, ⟨v0, rfl⟩, s2⟩ done
      obtain ⟨a, r, rfl, ha, hr'⟩ := xw.get hx'
      obtain ⟨g1, g2, g3⟩ := f2 r (List.mem_of_getElem? hr')
      have g4 : ∀ x ∈ r, 0 ≤ x ∧ x < 10 ^ 9 := fun x hx => by have := g3 x hx; omega
      have tl := thT_len g4
      have bl : (Str.ofString "(").length = 1 := by decide +kernel
      have cl : (Str.ofString ")").length = 1 := by decide +kernel
      refine ⟨_, rfl, a, r, rfl, s2 _ _ ha, by omega, g4, fun H3 s3 => ⟨_, _, rfl, rfl, by omega, _, _, rfl, rfl, by rw [Str.length_append]; omega, ?_⟩⟩
      refine done _ _ _ ⟨?_, ⟨_, rfl⟩, s2.trans s3⟩
      rw [take_succ_map rdT hr', List.map_append]
      rfl
    · rintro ys σ' H2 q ⟨rfl, ⟨v0, rfl⟩, s2⟩ fq
      rw [List.take_of_length_le (by omega)]
      refine ⟨_, q, (rndM n xs).map rdT, rfl, rfl, SqL.of upd_same, joinOk_small (B := 202) (by decide +kernel) (fun y hy => ?_) (by decide) (by rw [List.length_map]; omega), k _ (s1.trans (s2.trans (Same.new fq)))⟩
      obtain ⟨r, hr', rfl⟩ := List.mem_map.mp hy
      obtain ⟨g1, g2, g3⟩ := f2 r hr'
      have tl := thT_len (r := r) fun x hx => by have := g3 x hx; omega
      rw [← signs_len, signs_rd, List.length_cons, List.length_append, signs_len, List.length_singleton]
      omega
theorem sc_read_order : FnScope ["text", "lists", "many", "order"] ["text"] (defScope (top 32)) := ⟨rfl, rfl, rfl, by decide +kernel, rfl, by decide +kernel, by decide +kernel⟩
end
end Sw
namespace Sw
open PySem L2 PyProof.Rows
theorem digs_num : ∀ (n : Nat) (ds : List Nat), ds.length = n → ds ≠ [] → (∀ c ∈ ds, 48 ≤ c ∧ c ≤ 57) → (ds = [48] ∨ ds.head? ≠ some 48) → ∃ m : Nat, (Nat.toDigits 10 m).map Char.toNat = ds ∧ m < 10 ^ n ∧ (ds ≠ [48] → 0 < m) := by
  intro n
  induction n with
  | zero => intro ds hl ne; exact absurd (List.length_eq_zero_iff.mp hl) ne
  | succ n ih =>
    intro ds hl ne hb hz
    obtain ⟨init, d, rfl⟩ : ∃ init d, ds = init ++ [d] := ⟨ds.dropLast, ds.getLast ne, (List.dropLast_concat_getLast ne).symm⟩
    have hd := hb d (by simp)
    have one : ∀ c, 48 ≤ c → c ≤ 57 → (Nat.toDigits 10 (c - 48)).map Char.toNat = [c] := by
      intro c h1 h2
      have : c = 48 ∨ c = 49 ∨ c = 50 ∨ c = 51 ∨ c = 52 ∨ c = 53 ∨ c = 54 ∨ c = 55 ∨ c = 56 ∨ c = 57 := by omega
      rcases this with rfl | rfl | rfl | rfl | rfl | rfl | rfl | rfl | rfl | rfl <;> decide +kernel
    rw [List.length_append, List.length_singleton] at hl
    have hl' : init.length = n := by omega
    by_cases hi : init = []
    · subst hi
      have : n = 0 := by simpa using hl'.symm
      subst this
      refine ⟨d - 48, one d hd.1 hd.2, by omega, fun z => ?_⟩
      have : d ≠ 48 := fun q => z (by rw [q]; rfl)
      omega
    · have hz2 : (init ++ [d]).head? ≠ some 48 := by
        rcases hz with z | z
        · exfalso
          have := congrArg List.length z
          rw [List.length_append, List.length_singleton, List.length_singleton] at this
          exact hi (List.length_eq_zero_iff.mp (by omega))
        · exact z
      have hz2 : init.head? ≠ some 48 := by
        cases init with
        | nil => exact absurd rfl hi
        | cons a r => exact hz2
      have ni : init ≠ [48] := fun z => hz2 (by rw [z]; rfl)
      obtain ⟨m, hm, ml, mp⟩ := ih init hl' hi (fun c hc => hb c (List.mem_append_left _ hc)) (.inr hz2)
      have mp := mp ni
      have t : Nat.toDigits 10 m ++ Nat.toDigits 10 (d - 48) = Nat.toDigits 10 (10 * m + (d - 48)) := Nat.toDigits_append_toDigits (by decide) mp (by omega)
      refine ⟨10 * m + (d - 48), ?_, by rw [Nat.pow_succ]; omega, fun _ => by omega⟩
      rw [← t, List.map_append, hm, one d hd.1 hd.2]
theorem ascii_dig : ∀ c, c < 128 → Unicode.isDigit c = true → 48 ≤ c ∧ c ≤ 57 := by decide +kernel
def IsNum (x : Str) : Prop := ∃ i : Int, x = numT i ∧ 0 ≤ i ∧ i < 10 ^ 9
theorem num_of {x : Str} (ha : Txt.isascii x = true) (hd : Txt.isdigit x = true) (hl : x.length ≤ 9) (hz : x = Str.ofString "0" ∨ Txt.startswith x (Str.ofString "0") = false) : IsNum x := by
  unfold Txt.isdigit at hd
  rw [Bool.and_eq_true] at hd
  obtain ⟨hp, hd⟩ := hd
  have hp : 0 < x.length := of_decide_eq_true hp
  unfold Txt.isascii at ha
  rw [Array.all_eq_true'] at ha hd
  have bd : ∀ c ∈ signs x, 48 ≤ c ∧ c ≤ 57 := fun c hc => by
    have hc' : c ∈ x.cps := by simpa [signs] using hc
    exact ascii_dig c (of_decide_eq_true (ha c hc')) (hd c hc')
  have ne : signs x ≠ [] := fun z => by
    have := signs_len x
    rw [z] at this
    simp at this
    omega
  have hh : signs x = [48] ∨ (signs x).head? ≠ some 48 := by
    rcases hz with z | z
    · exact .inl (by rw [z]; decide +kernel)
    · right
      intro q
      have : Txt.startswith x ⟨#[48]⟩ = true := by
        rw [starts_iff]
        cases e : signs x with
        | nil => rw [e] at q; cases q
        | cons a r => rw [e] at q; injection q with q; exact ⟨r, by rw [q]⟩
      rw [show (⟨#[48]⟩ : Str) = Str.ofString "0" from by decide +kernel, z] at this
      cases this
  obtain ⟨m, hm, ml, _⟩ := digs_num (signs x).length (signs x) rfl ne bd hh
  refine ⟨(m : Int), signs_ext (by rw [num_signs, hm]), by omega, ?_⟩
  rw [signs_len] at ml
  have : 10 ^ x.length ≤ 10 ^ 9 := Nat.pow_le_pow_right (by decide) hl
  have : m < 10 ^ 9 := Nat.lt_of_lt_of_le ml this
  omega
theorem num_inj {a b : Int} (ha : 0 ≤ a) (hb : 0 ≤ b) (ha9 : a < 10 ^ 10) (hb9 : b < 10 ^ 10) (h : numT a = numT b) : a = b := by
  have h1 := num_int ha ha9
  rw [h, num_int hb hb9] at h1
  injection h1 with h1
  exact h1.symm
theorem split_le (x y : Str) : (Txt.split x y).length ≤ x.length + 2 := by
  unfold Txt.split
  split
  · simp
  · split
    · simp
    · have h := StrLaws.occ_length_le x y 0 x.length (x.length + 1)
      unfold Builtin.Str.partsBetween
      rw [List.length_map, List.length_zip, List.length_cons, List.length_map, List.length_append, List.length_singleton]
      omega
theorem mem_join_len {z : Str} : ∀ {ts : List Str} {t : Str}, t ∈ ts → t.length ≤ (Str.join z ts).length := by
  intro ts t h
  have key : ∀ {ts : List Str}, t ∈ ts → t.length ≤ (Str.join z ts).length := by
    intro ts
    induction ts with
    | nil => intro h; cases h
    | cons a r ih =>
      intro h
      cases r with
      | nil =>
        rcases List.mem_cons.mp h with rfl | h
        · exact Nat.le_refl _
        · cases h
      | cons b r =>
        have e : Str.join z (a :: b :: r) = a ++ z ++ Str.join z (b :: r) := rfl
        rw [e, Str.length_append, Str.length_append]
        rcases List.mem_cons.mp h with rfl | h
        · omega
        · have := ih h; omega
  exact key h
theorem split_part_le {x y t : Str} (h : t ∈ Txt.split x y) : t.length ≤ x.length := by
  have := mem_join_len (z := y) h
  rwa [StrLaws.join_split] at this
end Sw
namespace L2
open PySem PySem.Spec PyProof.Rows
section
variable {P : Program} {w : World} {K : PySem.W.Frag} {mg : Str → Option Value} {base : Heap} {k : Nat} {f : Addr} {fd : FuncData} {ps : List Str} {sp sp2 : Sp} {CX : CXT}
theorem FnOk.lift (F : FnOk P w K mg base CX0 k f fd ps sp) : FnOk P w K mg base (CX1 P w) k f fd ps sp :=
  ⟨F.len, fun A outer s H args us vs Q E hr e0 b r h => codeAny_mono (F.run A outer s H args us vs Q E hr e0 b r h) fun r s' z => by
    cases r with
    | error e => exact False.elim z
    | ok fl => cases fl <;> exact z⟩
theorem FnOk.or (F : FnOk P w K mg base CX k f fd ps sp) (G : FnOk P w K mg base CX k f fd ps sp2) : FnOk P w K mg base CX k f fd ps (fun vs H Q E => sp vs H Q E ∨ sp2 vs H Q E) :=
  ⟨fun vs H Q E h => h.elim (F.len vs H Q E) (G.len vs H Q E), fun A outer s H args us vs Q E hr e0 b r h => h.elim (fun h => F.run A outer s H args us vs Q E hr e0 b r h) (fun h => G.run A outer s H args us vs Q E hr e0 b r h)⟩
end
end L2
namespace L2
open PySem PySem.Spec PyProof.Rows
structure FlyE (P : Program) (w : World) (fr : List Env) (ch : List Addr) (H : Hp) (h : Heap) (e : Addr) (cls a0 fl : Value) (B : Heap) (H' : Hp) (h' : Heap) (bb : Option Addr) : Prop where
  un : Un (frs fr) ch H H' h h'
  hok : HOk P w H' h'
  kb : B.StaysIn h'
  en : B.get? e = none
  ff : h'.FunFrames B fr
  tr : h'.TracedAtW B e cls a0 fl
  old : ∀ b o o', h.get? b = some o → b ∉ ch → b ∉ frs fr → h'.get? b = some o' → B.get? b = some o'
  trk : ∀ b u o', H' b = some u → h'.get? b = some o' → B.get? b = some o'
  frf : ∀ b ∈ frs fr, H' b = none
  lo : Lone h' e bb
section
variable {P : Program} {w : World} {fr : List Env} {ch : List Addr} {H H' : Hp} {h h' h'' : Heap} {e : Addr} {cls a0 fl fl' : Value} {B : Heap} {bb : Option Addr}
theorem Fly.toE (F : Fly P w fr H h e cls a0 B H' h' bb) : FlyE P w fr [] H h e cls a0 .none B H' h' bb :=
  ⟨F.un, F.hok, F.fl.1, F.fl.2.1, F.fl.2.2.1, F.fl.2.2.2, fun b o o' q _ => F.old b o o' q, F.trk, F.frf, F.lo⟩
theorem FlyE.back (F : FlyE P w fr [] H h e cls a0 .none B H' h' bb) : Fly P w fr H h e cls a0 B H' h' bb :=
  ⟨F.un, F.hok, ⟨F.kb, F.en, F.ff, F.tr⟩, fun b o o' q => F.old b o o' q (by simp), F.trk, F.frf, F.lo⟩
theorem FlyE.move (F : FlyE P w fr ch H h e cls a0 fl B H' h' bb) (kb : B.StaysIn h'') (ff : h''.FunFrames B fr) (tr : h''.TracedAtW B e cls a0 fl') (sm : h'.UpToSlots h'') (lo : Lone h'' e bb) : FlyE P w fr ch H h e cls a0 fl' B H' h'' bb where
  un := by
    refine ⟨fun b o q n hb hx => ?_, fun b o q n hb hx => ?_, F.un.free, fun b o q hx => ?_, F.un.tups, F.un.frzs, F.un.tbls⟩
    · have e1 := F.un.keep b o q n hb hx
      exact kb b o (F.old b o o q hx hb e1)
    · obtain ⟨sl, e1⟩ := F.un.slot b o q n hb hx
      obtain ⟨_, o1, e2, nf⟩ := F.ff.mem hb
      rw [e1] at e2; cases e2
      obtain ⟨sl', e3⟩ := sm b _ e1 nf
      exact ⟨sl', e3⟩
    · obtain ⟨o1, e1⟩ := F.un.there b o q hx
      by_cases hb : b ∈ frs fr
      · obtain ⟨_, o2, e2, nf⟩ := F.ff.mem hb
        rw [e1] at e2; cases e2
        obtain ⟨sl', e3⟩ := sm b _ e1 nf
        exact ⟨_, e3⟩
      · exact ⟨o1, kb b o1 (F.old b o o1 q hx hb e1)⟩
  hok := fun a o q => (F.hok a o q).stay (fun b u hb z => by
      rcases hb with rfl | hb
      · exact kb b u (F.trk b _ u q z)
      · exact kb b u (F.trk b _ u hb z)) (fun _ z => z) fun _ _ z => z
  kb := kb
  en := F.en
  ff := ff
  tr := tr
  old := fun b o o' q hx hb z => by
    obtain ⟨o1, e1⟩ := F.un.there b o q hx
    have e2 := F.old b o o1 q hx hb e1
    have e3 := kb b o1 e2
    rw [z] at e3; cases e3
    exact e2
  trk := fun b u o' q z => by
    obtain ⟨o1, e1⟩ := (F.hok b u q).here
    have e2 := F.trk b u o1 q e1
    have e3 := kb b o1 e2
    rw [z] at e3; cases e3
    exact e2
  frf := F.frf
  lo := lo
theorem FlyE.out {X : Cx} {pins : List (Addr × Obj)} {σ : St} {s : Shared} (I : Inv X pins σ H s) (hch : ∀ b ∈ ch, b ∈ X.ex ∨ X.s₀.heap.objs.size ≤ b) (F : FlyE P w X.stack ch H s.heap e cls a0 fl B H' h' bb) : FlyE P w X.outer X.ex X.H₀ X.s₀.heap e cls a0 fl B H' h' bb := by
  have nch : ∀ b o, X.s₀.heap.get? b = some o → b ∉ X.ex → b ∉ ch := fun b o q hx hc => (hch b hc).elim hx fun z => absurd (Nat.lt_of_lt_of_le (Heap.lt_size q) z) (Nat.lt_irrefl _)
  have ns : ∀ b o, X.s₀.heap.get? b = some o → b ∉ frs X.outer → b ∉ frs X.stack := fun b o q hb z => by
    rcases List.mem_cons.mp (I.stkSub b z) with r | r
    · subst r
      exact absurd (Nat.lt_of_lt_of_le (Heap.lt_size q) I.ok.above) (Nat.lt_irrefl _)
    · exact hb r
  have so : ∀ b ∈ frs X.outer, b ∈ frs X.stack := fun b z => by
    rcases I.ok.stk with hst | ⟨hst, _⟩
    · rw [hst]; exact z
    · rw [hst]
      unfold frs at z ⊢
      rw [List.filterMap_cons]
      split
      · exact z
      · exact List.mem_cons_of_mem _ z
  refine ⟨⟨fun b o q n hb hx => ?_, fun b o q n hb hx => ?_, fun b o q n hx => ?_, fun b o q hx => ?_, fun b xs q => F.un.tups b xs (I.base.tups b xs q), fun b o u q => F.un.frzs b o u (I.base.frzs b o u q), fun b ps q => ?_⟩, F.hok, F.kb, F.en, ?_, F.tr, fun b o o' q hx hb z => ?_, F.trk, fun b hb => F.frf b (so b hb), F.lo⟩
  · exact F.un.keep b o (I.base.keep b o q n hb hx) (I.base.free b o q n hx) (ns b o q hb) (nch b o q hx)
  · obtain ⟨sl, e1⟩ := I.base.slot b o q n hb hx
    obtain ⟨sl', e2⟩ := F.un.any e1 (I.base.free b o q n hx) (nch b o q hx)
    exact ⟨sl', e2⟩
  · obtain ⟨o1, e1⟩ := I.base.there b o q hx
    exact F.un.free b o1 e1 (I.base.free b o q n hx) (nch b o q hx)
  · obtain ⟨o1, e1⟩ := I.base.there b o q hx
    exact F.un.there b o1 e1 (nch b o q hx)
  · obtain ⟨m1, e1⟩ := I.base.tbls b ps q
    obtain ⟨m2, e2⟩ := F.un.tbls b _ e1
    exact ⟨m1 ++ m2, by rw [e2, Array.append_assoc]⟩
  · have f := F.ff
    rcases I.ok.stk with hst | ⟨hst, _⟩
    · rw [hst] at f; exact f
    · rw [hst] at f; exact f.2.2
  · obtain ⟨o1, e1⟩ := I.base.there b o q hx
    exact F.old b o1 o' e1 (nch b o q hx) (ns b o q hb) z
theorem frames_base {B' : Heap} (k : ∀ b, B.get? b = none → B'.get? b = none) : ∀ {l : List Env}, h.FunFrames B l → h.FunFrames B' l
  | [], _ => trivial
  | env :: l, x => by
    obtain ⟨hk, ⟨L, o, hf, hn, ho, hd⟩, hr⟩ := x
    exact ⟨hk, ⟨L, o, hf, k L hn, ho, hd⟩, frames_base k hr⟩
theorem frames_but {C : Addr} (gt : ∀ b, b ≠ C → h''.get? b = h'.get? b) : ∀ {l : List Env}, C ∉ frs l → h'.FunFrames B l → h''.FunFrames B l
  | [], _, _ => trivial
  | env :: l, nC, x => by
    obtain ⟨hk, ⟨L, o, hf, hn, ho, hd⟩, hr⟩ := x
    have nL : L ≠ C ∧ C ∉ frs l := by
      unfold frs at nC ⊢
      rw [List.filterMap_cons, hf] at nC
      exact ⟨fun z => nC (by rw [z]; exact List.mem_cons_self), fun z => nC (List.mem_cons_of_mem _ z)⟩
    exact ⟨hk, ⟨L, o, hf, hn, (gt L nL.1).trans ho, hd⟩, frames_but gt nL.2 hr⟩
theorem FlyE.but {C : Addr} (F : FlyE P w fr ch H h e cls a0 fl B H' h' bb) (hs : Heap.SameBut C h' h'') (hC : h.objs.size ≤ C) (hH : H' C = none) (nC : C ∉ frs fr) (oC : ∃ o, h'.get? C = some o ∧ ∀ vs, o.data ≠ .fields vs) : FlyE P w fr ch H h e cls a0 fl (PySem.W.hideAll B [C]) H' h'' bb := by
  have ne : ∀ b o, h.get? b = some o → b ≠ C := fun b o q z => by subst z; exact absurd (Nat.lt_of_lt_of_le (Heap.lt_size q) hC) (Nat.lt_irrefl _)
  have nt : ∀ b u, H' b = some u → b ≠ C := fun b u q z => by rw [z, hH] at q; cases q
  have nn : ∀ b, B.get? b = none → (PySem.W.hideAll B [C]).get? b = none := fun b z => by
    cases q : (PySem.W.hideAll B [C]).get? b with
    | none => rfl
    | some o => rw [PySem.W.of_hideAll _ q] at z; cases z
  have nf : ∀ b o, (∃ vs, o.data = .fields vs) → h'.get? b = some o → b ≠ C := fun b o ⟨vs, hv⟩ q z => by
    obtain ⟨o', h1, h2⟩ := oC
    rw [z, h1] at q
    cases q
    exact h2 vs hv
  have gt : ∀ b, b ≠ C → h''.get? b = h'.get? b := hs.2
  refine ⟨⟨fun b o q n hb hx => ?_, fun b o q n hb hx => ?_, F.un.free, fun b o q hx => ?_, F.un.tups, F.un.frzs, F.un.tbls⟩, fun a o q => (F.hok a o q).stay (fun b u hb z => ?_) (fun _ z => z) fun _ _ z => z, fun b o q => ?_, nn e F.en, ?_, ?_, fun b o o' q hx hb z => ?_, fun b u o' q z => ?_, F.frf, ?_⟩
  · rw [gt b (ne b o q)]; exact F.un.keep b o q n hb hx
  · rw [gt b (ne b o q)]; exact F.un.slot b o q n hb hx
  · rw [gt b (ne b o q)]; exact F.un.there b o q hx
  · have : b ≠ C := by
      rcases hb with rfl | hb
      · exact nt b _ q
      · exact nt b _ hb
    rw [gt b this]; exact z
  · have hb : b ≠ C := fun z => by rw [z, PySem.W.hideAll_none [C] (List.mem_singleton.mpr rfl)] at q; cases q
    rw [gt b hb]; exact F.kb b o (PySem.W.of_hideAll _ q)
  · have f1 := frames_but gt nC F.ff
    exact frames_base nn f1
  · obtain ⟨oe, ws, T, oT, ts, g1, g2, g4, g5, g6, g7, g8, g9, g10⟩ := F.tr
    exact ⟨oe, ws, T, oT, ts, (gt e (nf e oe ⟨_, g4⟩ g1)).trans g1, g2, g4, g5, nn T g6, g7, (gt T (nf T oT ⟨_, g9⟩ g8)).trans g8, g9, g10⟩
  · rw [gt b (ne b o q)] at z
    exact PySem.W.hideAll_get _ (F.old b o o' q hx hb z) fun hm => ne b o q (List.mem_singleton.mp hm)
  · rw [gt b (nt b u q)] at z
    exact PySem.W.hideAll_get _ (F.trk b u o' q z) fun hm => nt b u q (List.mem_singleton.mp hm)
  · obtain ⟨o, vs, cc, h1, h2, h3, hcb⟩ := F.lo
    exact ⟨o, vs, cc, (gt e (nf e o ⟨_, h2⟩ h1)).trans h1, h2, h3, hcb⟩
end
section
variable {M : Model} {A : Around} {E : Value → Shared → Prop} {s : Shared} {P : Program} {w : World} {env : Env} {outer : List Env} {L : Addr} {fr : List Env} {ch : List Addr} {H H' : Hp} {h : Heap} {e : Addr} {cls a0 fl : Value} {B : Heap} {bb : Option Addr}
theorem set_any {o : Option Addr} {Q : Unit → Shared → Prop} (F : FlyE P w fr ch H h e cls a0 fl B H' s.heap bb)
    (k : ∀ h', FlyE P w fr ch H h e cls a0 (o.elim Value.none fun f => rawInt f) B H' h' bb → s.heap.UpToSlots h' → Q () { s with heap := h' }) : wpAny M A (setFlight (.ref e) o) Q E s := by
  obtain ⟨oo, vs, cc, h1, h2, h3, hcb⟩ := F.lo
  obtain ⟨oe, ws, T, oT, ts, g1, g2, g4, g5, g6, g7, g8, g9, g10⟩ := F.tr
  rw [h1] at g1
  cases g1
  rw [h2] at g4
  cases g4
  have sz : 3 < ts.size := (Array.getElem?_eq_some_iff.mp g10).1
  have oth : ∀ b, b ≠ T → (s.heap.update T (Obj.mapFields (·.setIfInBounds 3 (o.elim Value.none fun f => rawInt f)))).get? b = s.heap.get? b := fun b hb => Heap.get?_update_other _ _ (Ne.symm hb)
  have noT : ∀ b u, s.heap.get? b = some u → (∀ ws, u.data ≠ .fields ws) → b ≠ T := fun b u hb hnf q => by
    rw [q, g8] at hb
    cases hb
    exact hnf ts g9
  have e' := (oth e (Ne.symm g7)).trans h1
  have sm : s.heap.UpToSlots (s.heap.update T (Obj.mapFields (·.setIfInBounds 3 (o.elim Value.none fun f => rawInt f)))) := fun b u hb hnf => ⟨u.slots, (oth b (noT b u hb hnf)).trans hb⟩
  unfold setFlight
  refine wpAny_bind (wpAny_field h1 h2 g5 ?_)
  rw [if_pos (by simp)]
  refine wpAny_setField g8 g9 sz (k _ (F.move (fun b u hb => (oth b fun q => by rw [q, g6] at hb; cases hb).trans (F.kb b u hb)) (F.ff.of_keeps fun b u hb hnf => ⟨u, (oth b (noT b u hb hnf)).trans hb, rfl⟩) ?_ sm ⟨oo, vs, cc, e', h2, h3, hcb⟩) sm)
  exact ⟨oo, vs, T, _, _, e', g2, h2, g5, g6, g7, Heap.get?_update_self _ g8 (Obj.isFreed_of_fields (Obj.data_mapFields g9 _)), Obj.data_mapFields g9 _, by simp [sz]⟩
theorem note_any {Q : Unit → Shared → Prop} (fr : A.frames = some (env :: outer)) (ef : env.frame = some L) (F : FlyE P w (env :: outer) ch H h e cls a0 fl B H' s.heap bb)
    (k : ∀ h' fl', FlyE P w (env :: outer) ch H h e cls a0 fl' B H' h' bb → s.heap.UpToSlots h' → Q () { s with heap := h' }) : wpAny M A (noteFrame (.ref e) env) Q E s := by
  obtain ⟨oo, vs, cc, h1, h2, h3, hcb⟩ := F.lo
  obtain ⟨oe, ws, T, oT, ts, g1, ⟨g2, g3⟩, g4, g5, g6, g7, g8, g9, g10⟩ := F.tr
  rw [h1] at g1
  cases g1
  rw [h2] at g4
  cases g4
  subst g2
  unfold noteFrame
  simp only [ef]
  refine wpAny_bind (wpAny_field h1 h2 g5 ?_)
  rw [if_pos (by simp)]
  refine wpAny_bind (wpAny_field g8 g9 g10 ?_)
  by_cases c : (fl == rawInt L) = true
  · rw [if_pos c]
    exact wpAny_pure (k s.heap fl F (Heap.UpToSlots.refl _))
  rw [if_neg c]
  refine wpAny_bind (wpAny_setField g8 g9 (Array.getElem?_eq_some_iff.mp g10).1 ?_)
  have oth : ∀ b, b ≠ T → (s.heap.update T (Obj.mapFields (·.setIfInBounds 3 Value.none))).get? b = s.heap.get? b := fun b hb => Heap.get?_update_other _ _ (Ne.symm hb)
  have noT : ∀ b u, s.heap.get? b = some u → (∀ ws, u.data ≠ .fields ws) → b ≠ T := fun b u hb hnf q => by
    rw [q, g8] at hb
    cases hb
    exact hnf ts g9
  refine entry_lone fr (F.ff.of_keeps fun b u hb hnf => ⟨u, (oth b (noT b u hb hnf)).trans hb, rfl⟩) ef ((oth e (Ne.symm g7)).trans h1) (fun b u hb => (oth b fun q => by rw [q, g6] at hb; cases hb).trans (F.kb b u hb)) F.en h2 g3 h3 hcb fun h' ⟨x1, x2, x3, x4⟩ l' => ?_
  have sm : s.heap.UpToSlots h' := fun b u hb hnf => x4 b u ((oth b (noT b u hb hnf)).trans hb) hnf
  exact k h' _ (F.move x1 x2 x3 sm l') sm
theorem pass_any {α : Type} {what : String} {cenv : Env} {Q : α → Shared → Prop} (F : FlyE P w fr ch H h e cls a0 fl B H' s.heap bb)
    (k : ∀ h' fl', FlyE P w fr ch H h e cls a0 fl' B H' h' bb → E (.ref e) { s with heap := h' }) : wpAny M A (PySem.passOn what (.ref e) cenv : Sem α) Q E s := by
  obtain ⟨oo, vs, cc, h1, h2, h3, hcb⟩ := id F.lo
  obtain ⟨oe, ws, T, oT, ts, g1, g2, g4, g5, g6, g7, g8, g9, g10⟩ := id F.tr
  rw [h1] at g1
  cases g1
  rw [h2] at g4
  cases g4
  unfold PySem.passOn
  refine wpAny_bind (wpAny_field h1 h2 g5 ?_)
  rw [if_neg (by simp)]
  refine wpAny_bind (set_any F fun h' F' _ => ?_)
  exact wpAny_throw (k h' _ F')
end
def PassC (X : Cx) (E : XK) : Prop := ∀ (pins : List (Addr × Obj)) (σ : St) (H : Hp) (s : Shared) (ch : List Addr) (e : Addr) (cls a0 fl : Value) (B : Heap) (H' : Hp) (bb : Option Addr) (s' : Shared), Inv X pins σ H s → (∀ b ∈ ch, (b ∈ X.ex ∨ X.s₀.heap.objs.size ≤ b) ∧ b ≠ X.env.locals) →
  s'.os = s.os → AllBare s'.gens → FlyE X.prog X.w X.stack ch H s.heap e cls a0 fl B H' s'.heap bb → E cls bb H' → X.xe (.ref e) s'
theorem PassC.passes {X : Cx} {E : XK} (p : PassC X E) : Passes (CX1 X.prog X.w) X E := fun pins σ H s ev s' I h => by
  obtain ⟨e, cls, a0, B, H', bb, rfl, os, bare, F, q⟩ := h
  exact p pins σ H s [] e cls a0 _ B H' bb s' I (fun b hb => nomatch hb) os bare F.toE q
section
variable {P : Program} {w : World} {K : PySem.W.Frag} {mg : Str → Option Value} {base : Heap} {N : List Str} {qual : Str} {scope : Scope} {f : Addr} {cdv : Value} {A : Around} {outer : List Env} {s : Shared} {H : Hp} {E : XK}
theorem passC1 : PassC (cx1 P w K mg base N qual scope f cdv A outer s H E) E := by
  intro pins σ H₁ s₁ ch e cls a0 fl B H' bb s' I hch os bare F q
  show wpAny _ _ (leaving _ (.ref e)) _ _ s'
  unfold leaving
  refine wpAny_bind (note_any I.ok.frames rfl F fun g fl' F1 _ => ?_)
  refine set_any (s := { s' with heap := g }) F1 fun h'' F2 _ => ?_
  exact ⟨e, cls, a0, B, H', bb, rfl, os.trans I.os, bare, (FlyE.out I (fun b hb => (hch b hb).1) F2).back, q⟩
end
def Topp (X : Cx) : Prop := ∃ (env0 : Env) (outer0 : List Env) (L : Addr), X.stack = env0 :: outer0 ∧ env0.frame = some L ∧ X.env.frame = some L
theorem topp1 {P : Program} {w : World} {K : PySem.W.Frag} {mg : Str → Option Value} {base : Heap} {N : List Str} {qual : Str} {scope : Scope} {f : Addr} {cdv : Value} {A : Around} {outer : List Env} {s : Shared} {H : Hp} {E : XK} : Topp (cx1 P w K mg base N qual scope f cdv A outer s H E) := ⟨_, _, _, rfl, rfl, rfl⟩
def cxX (E : XK) (X : Cx) (N : List Str) (scope : Scope) (C : Addr) (fp : List Addr) (s : Shared) (H : Hp) : Cx :=
  { cxC X N scope C fp s H with xe := fun ev s' => ∃ (e : Addr) (cls a0 fl : Value) (B : Heap) (H' : Hp) (bb : Option Addr), ev = .ref e ∧ s'.os = s.os ∧ AllBare s'.gens ∧ FlyE X.prog X.w X.stack fp H s.heap e cls a0 fl B H' s'.heap bb ∧ (∃ m, s'.heap.Ns C m) ∧ H' C = none ∧ C ∉ frs X.stack ∧ E cls bb H' }
section
variable {E : XK} {X : Cx} {N : List Str} {scope : Scope} {C : Addr} {fp : List Addr} {s : Shared} {H : Hp}
theorem passCC : PassC (cxX E X N scope C fp s H) E := by
  intro pins σ H3 s3 ch e cls a0 fl B H' bb s' I hch os bare F q
  obtain ⟨m, hn, _⟩ := id I.loc
  have nC : C ∉ frs X.stack := fun z => by
    obtain ⟨_, o, ho, _⟩ := I.ok.funs.mem z
    exact absurd (Nat.lt_of_lt_of_le (Heap.lt_size ho) I.ok.above) (Nat.lt_irrefl _)
  have nch : C ∉ ch := fun z => (hch C z).2 rfl
  obtain ⟨o, es, ep, ho, r⟩ := hn
  have hC' := F.un.keep C o ho I.free nC nch
  exact ⟨e, cls, a0, fl, B, H', bb, rfl, os.trans I.os, bare, FlyE.out I (fun b hb => (hch b hb).1) F, ⟨m, o, es, ep, hC', r⟩, F.un.free C o ho I.free nch, nC, q⟩
theorem invX {pins : List (Addr × Obj)} {σ : St} {H1 : Hp} {s1 : Shared} (I : Inv (cxC X N scope C fp s H) pins σ H1 s1) : Inv (cxX E X N scope C fp s H) pins σ H1 s1 :=
  ⟨⟨I.ok.mod, I.ok.kind, I.ok.glob, I.ok.blt, I.ok.above, I.ok.inj, I.ok.has, I.ok.cab, I.ok.hd, I.ok.frames, I.ok.stk, I.ok.exf, I.ok.bs, I.ok.bsz, I.ok.noex, I.ok.exfs, I.ok.funs, I.ok.frf⟩, I.os, I.bare, I.base, I.loc, I.cell, I.free, I.freeC, I.pin, I.hok, I.len⟩
theorem invC {pins : List (Addr × Obj)} {σ : St} {H1 : Hp} {s1 : Shared} (I : Inv (cxX E X N scope C fp s H) pins σ H1 s1) : Inv (cxC X N scope C fp s H) pins σ H1 s1 :=
  ⟨⟨I.ok.mod, I.ok.kind, I.ok.glob, I.ok.blt, I.ok.above, I.ok.inj, I.ok.has, I.ok.cab, I.ok.hd, I.ok.frames, I.ok.stk, I.ok.exf, I.ok.bs, I.ok.bsz, I.ok.noex, I.ok.exfs, I.ok.funs, I.ok.frf⟩, I.os, I.bare, I.base, I.loc, I.cell, I.free, I.freeC, I.pin, I.hok, I.len⟩
end
end L2
namespace L2
open PySem PySem.Spec PyProof.Rows
section
variable {prog : Program} {w : World} {A : Around} {R : Result → Shared → Prop} {s : Shared}
theorem compLoop_anyX {elt target iter : Expr} {ifs : List Expr} {scope : Scope} {pos : Pos} {it acc : Value} {env : Env} (EE : Value → Shared → Prop) (hE : ∀ x s', EE x s' → notedBy (model prog w) A env (fun e s' => R (.error e) s') x s') (I : Nat → Shared → Prop)
    (turn : ∀ n s, I n s → wpAny (model prog w) A (pyNext it) (fun r s₁ => match r with
      | none => R (.ok .next) s₁
      | some v => wpAny (model prog w) A (letOwnedTupleGo target it v) (fun _ s₁ => wpAny (model prog w) A (assign target env v) (fun _ s₂ =>
          wpAny (model prog w) A (forIn ifs true fun c r => if r = true then do let ok ← isTrue c env (eval c env); pure (ForInStep.yield ok) else pure (ForInStep.yield r)) (fun ok s₃ =>
            if ok = true then wpAny (model prog w) A (eval elt env) (fun x s₄ =>
              wpAny (model prog w) A (call (.builtin "list.append") [acc, x]) (fun _ s₅ => ∃ m, m < n ∧ I m s₅) EE s₄) EE s₃
            else ∃ m, m < n ∧ I m s₃) EE s₂) EE s₁) EE s₁) EE s)
    (n : Nat) (h : I n s) :
    codeAny (model prog w) A (.compLoop (.ListComp elt [⟨target, iter, ifs, 0⟩] scope pos) 0 it acc env) R s := by
  refine codeAny_loop rfl I (fun n s hI => ?_) n h
  show wpAny _ A ((compTurn (.ListComp elt [⟨target, iter, ifs, 0⟩] scope pos) 0 it acc env).onRaise (fun x => do noteFrame x env; theTreesLotGoes x)) _ _ s
  refine wpAny_noted ?_
  rw [compTurn_list]
  refine wpAny_bind (wpAny_standAt (wpAny_bind (wpAny_mono (turn n s hI) (fun r s₁ h₁ => ?_) fun x s' h' => hE x s' h')))
  cases r with
  | none => exact wpAny_pure h₁
  | some v =>
    refine wpAny_bind (wpAny_mono h₁ (fun _ s₁ h₁ => ?_) fun x s' h' => hE x s' h')
    refine wpAny_bind (wpAny_mono h₁ (fun _ s₂ h₂ => wpAny_bind (wpAny_mono h₂ (fun ok s₃ h₃ => ?_) fun x s' h' => hE x s' h')) fun x s' h' => hE x s' h')
    cases ok with
    | false => exact wpAny_pure ⟨rfl, h₃⟩
    | true =>
      refine wpAny_bind (wpAny_bind (wpAny_mono h₃ (fun x s₄ h₄ => wpAny_bind (wpAny_mono h₄ (fun _ s₅ h₅ => ?_) fun x s' h' => hE x s' h')) fun x s' h' => hE x s' h'))
      exact wpAny_pure (wpAny_pure ⟨rfl, h₅⟩)
end
section
variable {X : Cx} {scope : Scope} {N : List Str} {ix : List (Option Nat)} {elt tg iter : Expr} {ifs : List Expr} {g : TG} {tc : TT} {te : TE} {pos : Pos}
theorem comp_blockX {pins : List (Addr × Obj)} {σ : St} {s2 : Shared} {Q : VK} {itv : Value} {RR : Value → Addr → Result → Shared → Prop} {E : Value → Shared → Prop} (c : CompOk X scope N ix) (hc : X.calm = true) {EX : XK}
    (hg : ∀ C fp s H, PG (cxX EX X N scope C fp s H) tg g) (ht : ∀ C fp s H, PIf (cxX EX X N scope C fp s H) ifs tc) (he : ∀ C fp s H, PE (cxX EX X N scope C fp s H) elt te)
    (h2 : PIE X pins σ tg (rComp ix g tc te σ Q) itv s2)
    (hX : ∀ (D C : Addr) (fp : List Addr) (H2 : Hp) (x : Value) (s' : Shared), Inv X pins σ H2 s2 → (∀ b ∈ fp, FpOk X pins H2 b) → s2.heap.objs.size ≤ C → (cxX EX X N scope C fp s2 H2).xe x s' → notedBy (model X.prog X.w) X.A (cxX EX X N scope C fp s2 H2).env (fun e s' => RR (.ref D) C (.error e) s') x s')
    (hR : ∀ (D C : Addr) (s' : Shared) (H' : Hp) (m : Str → Option Value), Inv X pins σ H' s' → s'.heap.Ns C m → H' C = none → X.s₀.heap.objs.size ≤ C → (∀ p ∈ X.pn ++ pins, p.1 ≠ C) → C ≠ X.env.locals → (∀ x c, X.env.cells.lookup x = some c → c ≠ C) → Q (.ref D) H' → RR (.ref D) C (.ok .next) s') :
    wpAny (model X.prog X.w) X.A (newList []) (fun acc s₃ => wpAny (model X.prog X.w) X.A (newFunctionEnv scope X.env.globals (closL X.env.cells scope.names []) [] X.env.qual none .none (some X.env)) (fun cenv s₄ =>
      codeAny (model X.prog X.w) X.A (.compStart (.ListComp elt [⟨tg, iter, ifs, 0⟩] scope pos) 0 itv acc { cenv with scope := relabel scope X.env }) (RR acc cenv.locals) s₄) E s₃) E s2 := by
  obtain ⟨it, fp, tn, J, H2, rfl, I2, T, st2, f2, W, ⟨m0, w0⟩, turn⟩ := h2
  refine wpAny_newObj_type (wpAny_newFunctionEnv c.nocell (by intro y hy; simp at hy) (fun h₁ hns₁ hsb₁ => ?_) c.kind)
  dsimp only at hns₁ hsb₁ ⊢
  generalize hH2 : s2.heap.push { cls := .type "list", dict := none, data := .seq ([] : List Value).toArray } = G2 at hns₁ hsb₁ ⊢
  have hCs : G2.objs.size = s2.heap.objs.size + 1 := by rw [← hH2, Heap.size_push]
  generalize hCe : G2.objs.size = C at hns₁ hsb₁ hCs ⊢
  generalize hDe : s2.heap.objs.size = D at hCs ⊢
  have ltC : ∀ b, @LT.lt Nat _ b D → b ≠ C := fun b hb => Nat.ne_of_lt (by rw [hCs]; exact Nat.lt_succ_of_lt hb)
  have ltS : ∀ b o, s2.heap.get? b = some o → @LT.lt Nat _ b D := fun b o e => by rw [← hDe]; exact Heap.lt_size e
  have hDC : D ≠ C := Nat.ne_of_lt (by rw [hCs]; exact Nat.lt_succ_self _)
  have old : ∀ b o, s2.heap.get? b = some o → h₁.get? b = some o := fun b o e => hsb₁.extBut b o (ltC b (ltS b o e)) (Heap.get?_push_of_some _ (hH2 ▸ Heap.get?_push_of_some _ e))
  have hoD : h₁.get? D = some { cls := .type "list", dict := none, data := .seq ([] : List Value).toArray } := by
    refine hsb₁.extBut _ _ hDC (Heap.get?_push_of_some _ ?_)
    rw [← hH2, ← hDe]
    exact Heap.get?_push_size _ rfl
  have I4 : Inv (cxX EX X N scope C fp s2 H2) (pins ++ [(D, { cls := .type "list", data := .seq ([] : List Value).toArray })]) (startC ix σ) H2 { s2 with heap := h₁, toks := s2.toks + ([] : List (Str × Value)).length } :=
    invX <| c.enter I2 f2 (T.obj _ _ st2) (by rw [hCs, hDe]) hDe.symm old hns₁ hoD fun v z => by cases z
  have st4 : tn 0 h₁ := T.keep _ _ _ st2 fun b _ o e => old b o e
  have pinD : ∀ p ∈ X.pn ++ pins, p.1 ≠ D := fun p hp => Nat.ne_of_lt (ltS _ _ (I2.pin p hp).1)
  have pinC : ∀ p ∈ X.pn ++ pins, p.1 ≠ C := fun p hp => ltC _ (ltS _ _ (I2.pin p hp).1)
  have celD : ∀ x d, X.env.cells.lookup x = some d → @LT.lt Nat _ d D := fun x d e => by
    obtain ⟨v, o, ho, _⟩ := I2.cell x d e
    exact ltS d o ho
  have fpD : ∀ b ∈ fp, @LT.lt Nat _ b D := fun b hb => by
    obtain ⟨o, e, _⟩ := T.obj _ _ st2 b hb
    exact ltS b o e
  have sub : ∀ x d, (closL X.env.cells scope.names []).lookup x = some d → X.env.cells.lookup x = some d := fun x d e => by
    rcases closL_sub e with z | z
    · simp at z
    · exact z
  have stat : ∀ {H' : Hp} {oD : Obj}, (∀ b ∈ fp, H' b = none) → ∀ b ∈ fp, FpOk (cxX EX X N scope C fp s2 H2) (pins ++ [(D, oD)]) H' b := fun {H' oD} hn b hb => by
    obtain ⟨f0, f1, f2, f3, f4, f5⟩ := f2 b hb
    refine ⟨hn b hb, ltC b (fpD b hb), fun z => ?_, .inl hb, fun x d e => f4 x d (sub x d e), fun p hp => ?_⟩
    · rcases List.mem_cons.mp (I2.stkSub b z) with e | e
      · exact f1 e
      · exact f2 e
    · have hp : p ∈ X.pn ++ (pins ++ [(D, oD)]) := hp
      rw [← List.append_assoc] at hp
      rcases List.mem_append.mp hp with z | z
      · exact f5 p z
      · have e : p = (D, oD) := by simpa using z
        subst e
        exact Nat.ne_of_gt (fpD b hb)
  have loop : ∀ s3 : Shared, s3 = { s2 with heap := h₁, toks := s2.toks + ([] : List (Str × Value)).length } →
      codeAny (model X.prog X.w) X.A (.compLoop (.ListComp elt [⟨tg, iter, ifs, 0⟩] scope pos) 0 (.ref it) (.ref D) (cxX EX X N scope C fp s2 H2).env) (RR (.ref D) C) s3 := by
    rintro s3 rfl
    refine compLoop_anyX (cxX EX X N scope C fp s2 H2).xe (fun x s' h' => hX D C fp H2 x s' I2 f2 (by rw [hDe, hCs]; exact Nat.le_succ _) h') (fun n s' => ∃ i σ' H' ys its k, Inv (cxX EX X N scope C fp s2 H2) (pins ++ [(D, { cls := .type "list", data := .seq (List.toArray its) k })]) σ' H' s' ∧ tn i s'.heap ∧ (∀ b ∈ fp, H' b = none) ∧ Vals ys its ∧ W i n ys σ' H') ?_ m0
      ⟨0, _, H2, [], [], _, I4, st4, fun b hb => (f2 b hb).1, .nil, w0⟩
    rintro n s3 ⟨i, σ3, H3, ys, its, k, I3, st3, fr3, rv, w3⟩
    rcases turn i n ys σ3 H3 w3 with ⟨stop, hz, qn⟩ | ⟨go, hz, step⟩
    · refine thn (T.done (cxX EX X N scope C fp s2 H2) rfl rfl rfl hc i _ s3 σ3 H3 _ I3 (stat fr3) st3 stop) fun r s4 ⟨hr, I4⟩ => ?_
      subst hr
      have hDn : H3 D = none := (I3.pin (D, _) (List.mem_append_right _ (List.mem_append_right _ List.mem_cons_self))).2.1
      obtain ⟨m4, hn4, _⟩ := id I4.loc
      refine hR D C s4 _ m4 (c.leave I2 f2 (by rw [hCs, hDe]) hDe.symm (invC I4) rv hz) hn4 ?_ ?_ pinC ?_ (fun x d e => ltC d (celD x d e)) (qn D hDn)
      · rw [upd_ne hDC.symm]; exact I4.free
      · refine Nat.le_trans I2.sz ?_
        rw [hDe, hCs]; exact Nat.le_succ _
      · refine Nat.ne_of_gt (Nat.lt_of_lt_of_le I2.lt ?_)
        rw [hDe, hCs]; exact Nat.le_succ _
    · refine thn (T.item (cxX EX X N scope C fp s2 H2) rfl rfl rfl hc i _ s3 σ3 H3 _ I3 (stat fr3) st3 go) fun r s4 ⟨u, hr, h4⟩ => ?_
      subst hr
      refine thn h4 fun _ s5 ⟨x, H5, I5, r5, y5, st5, fr5⟩ => ?_
      have I5' := I5.pinned (stat fr5) (T.obj _ _ st5)
      refine thn (hg C fp s2 H2 _ s5 σ3 H5 x u _ I5' r5 (step x H5 y5)) fun _ s6 ⟨σ6, H6, I6, q6⟩ => ?_
      refine thn (ht C fp s2 H2 _ s6 σ6 H6 _ I6 q6) fun ok s7 ⟨H7, I7, q7⟩ => ?_
      have keep : ∀ {s' : Shared} {σ' : St} {H' : Hp}, Inv (cxX EX X N scope C fp s2 H2) ((pins ++ [(D, { cls := .type "list", data := .seq its.toArray k })]) ++ pinsAt fp s5.heap) σ' H' s' → tn (i + 1) s'.heap ∧ ∀ b ∈ fp, H' b = none := fun {s' σ' H'} I' => by
        refine ⟨T.keep _ _ _ st5 fun b hb o e => (I'.pin (b, o) (List.mem_append_right _ (List.mem_append_right _ (mem_pinsAt hb e)))).1, fun b hb => ?_⟩
        obtain ⟨o, e, d⟩ := T.obj _ _ st5 b hb
        exact (I'.pin (b, o) (List.mem_append_right _ (List.mem_append_right _ (mem_pinsAt hb e)))).2.1
      cases ok with
      | false =>
        rw [if_neg Bool.false_ne_true]
        rw [if_neg Bool.false_ne_true] at q7
        obtain ⟨m', hm, w7⟩ := q7
        obtain ⟨k1, k2⟩ := keep I7
        exact ⟨m', hm, i + 1, σ6, H7, ys, its, k, I7.unpinned, k1, k2, rv, w7⟩
      | true =>
        rw [if_pos rfl]
        rw [if_pos rfl] at q7
        refine thn (he C fp s2 H2 _ s7 σ6 H7 _ I7 q7) fun y s8 ⟨v, H8, I8, r8, m', hm, w8⟩ => ?_
        obtain ⟨k1, k2⟩ := keep I8
        have pD := I8.pin (D, _) (List.mem_append_right _ (List.mem_append_left _ (List.mem_append_right _ List.mem_cons_self)))
        have I8u := I8.unpinned
        have I8v : Inv (cxX EX X N scope C fp s2 H2) pins σ6 H8 s8 := I8u.unpinned
        have len := rv.length
        refine wpAny_list_append_plain (items := its.toArray) (hsz := by simp; omega) ⟨k, pD.1⟩ fun h9 hl9 hs9 => ?_
        obtain ⟨k9, e9⟩ := hl9
        have I9 : Inv (cxX EX X N scope C fp s2 H2) pins σ6 H8 { s8 with heap := h9 } := by
          refine I8v.turned (t' := s8.toks) (it := D) (fun b o hb e => hs9.extBut b o hb e) pD.2.1 hDC (.inr ?_) (fun x d e => Nat.ne_of_lt (celD x d (sub x d e))) fun p hp => ?_
          · show s2.heap.objs.size ≤ D
            rw [hDe]; exact Nat.le_refl _
          · exact pinD p hp
        have e9' : h9.get? D = some { cls := .type "list", data := .seq (its ++ [y]).toArray k9 } := by
          rw [e9]; simp
        refine ⟨m', hm, i + 1, σ6, H8, ys ++ [v], its ++ [y], k9, I9.pins_of fun p hp => ?_, T.keep _ _ _ k1 fun b hb o e => hs9.extBut b o (Nat.ne_of_lt (fpD b hb)) e, k2, rv.append (.cons r8 .nil), w8⟩
        rcases List.mem_append.mp hp with z | z
        · exact I9.pin p (List.mem_append_right _ z)
        · have e : p = (D, { cls := .type "list", data := .seq (its ++ [y]).toArray k9 }) := by simpa using z
          subst e
          exact ⟨e9', pD.2.1, pD.2.2.1, pD.2.2.2.1, fun v z => by cases z⟩
  exact codeAny_compStart_list (loop _ rfl) (T.self _ 0 _ _ _ st4 (loop _ rfl))
theorem note_frame {e : Value} {env env' : Env} (h : env'.frame = env.frame) : noteFrame e env' = noteFrame e env := by
  unfold noteFrame PySem.frameOf
  rw [h]
theorem comp_out {pins : List (Addr × Obj)} {σ : St} {s2 : Shared} {EX : XK} {use : Option (Value → Sem Unit)} {QQ : Value → Shared → Prop} (tp : Topp X) (pc : PassC X EX) (D C : Addr) (fp : List Addr) (H2 : Hp) (x : Value) (s' : Shared) (I2 : Inv X pins σ H2 s2) (f2 : ∀ b ∈ fp, FpOk X pins H2 b) (hC : s2.heap.objs.size ≤ C)
    (h : (cxX EX X N scope C fp s2 H2).xe x s') : notedBy (model X.prog X.w) X.A (cxX EX X N scope C fp s2 H2).env (fun e s' => compPost (model X.prog X.w) X.A X.xe use QQ (.ref D) C (.error e) s') x s' := by
  obtain ⟨env0, outer0, L, h1, h2, h3⟩ := tp
  obtain ⟨e, cls, a0, fl, B, H', bb, rfl, os, bare, F, ⟨m, hn⟩, hH, nC, q⟩ := h
  unfold notedBy
  rw [note_frame (env := env0) (env' := (cxX EX X N scope C fp s2 H2).env) (show X.env.frame = env0.frame from h3.trans h2.symm)]
  have fr := I2.ok.frames
  rw [h1] at fr
  have F' := F
  rw [h1] at F'
  refine note_any fr h2 F' fun h' fl' F1 sm => ?_
  have hn' := sm.ns hn
  refine ⟨m, hn', fun h3 hs cenv hcl => ?_⟩
  obtain ⟨o, es, ep, ho, hd, _⟩ := hn'
  rw [← h1] at F1
  have F3 := F1.but hs hC hH nC ⟨o, ho, fun vs z => by rw [hd] at z; cases z⟩
  refine pass_any (s := { s' with heap := h3 }) F3 fun h4 fl4 F4 => ?_
  exact pc pins σ H2 s2 fp e cls a0 fl4 _ H' bb { s' with heap := h4 } I2 (fun b hb => ⟨(f2 b hb).2.2.2.1, (f2 b hb).2.1⟩) os bare F4 q
variable {wi : TI}
theorem pe_compX {EX : XK} (tp : Topp X) (pc : PassC X EX) (c : CompOk X scope N ix) (hc : X.calm = true) (hi : PI X tg iter wi) (hg : ∀ C fp s H, PG (cxX EX X N scope C fp s H) tg g) (ht : ∀ C fp s H, PIf (cxX EX X N scope C fp s H) ifs tc) (he : ∀ C fp s H, PE (cxX EX X N scope C fp s H) elt te)
    (hs : ∀ x, foldedSetIterable iter X.env x = pure x := by intro _; rfl) : PE X (.ListComp elt [⟨tg, iter, ifs, 0⟩] scope pos) (tComp ix wi g tc te) := by
  intro pins s σ H Q I h
  rw [eval_ListComp]
  have hcl : ∀ y ∈ scope.names, y.2 = NameKind.free → ∃ d, X.env.cells.lookup y.1 = some d := fun y hy e => I.ok.has _ (c.fr y hy e)
  refine wpAny_comprehension_free (use := none) rfl hs (closureFor_eq hcl) c.kind c.names (thn (hi pins s σ H _ I h) fun v s1 h1 => thn h1 fun itv s2 h2 => ?_)
  refine comp_blockX (RR := fun acc C => compPost (model X.prog X.w) X.A X.xe none (EP X pins σ Q) acc C) c hc hg ht he h2 (fun D C fp H2 x s' I2 f2 hC h' => comp_out tp pc D C fp H2 x s' I2 f2 hC h') ?_
  intro D C s' H' m I' hn hC hz hp hL hcells q
  exact ⟨m, hn, fun h' hs' => ⟨.ref D, H', I'.turned (t' := s'.toks) (fun b o hb e => hs'.extBut b o hb e) hC hL (.inr hz) hcells hp, rfl, q⟩⟩
theorem ps_compX {EX : XK} {i : Nat} {x : Str} {px spos : Pos} (tp : Topp X) (pc : PassC X EX) (hN : X.N.Nodup) (hx0 : X.N[i]? = some x) (hx : X.env.scope.names.lookup x = some .local) (c : CompOk X scope N ix) (hc : X.calm = true) (hi : PI X tg iter wi) (hg : ∀ C fp s H, PG (cxX EX X N scope C fp s H) tg g) (ht : ∀ C fp s H, PIf (cxX EX X N scope C fp s H) ifs tc) (he : ∀ C fp s H, PE (cxX EX X N scope C fp s H) elt te)
    (hsw : swapsWith (.ListComp elt [⟨tg, iter, ifs, 0⟩] scope pos) (some (.Name x px)) spos.line X.env = pure true := by rfl)
    (hs : ∀ x, foldedSetIterable iter X.env x = pure x := by intro _; rfl) : PS X (.Assign [.Name x px] (.ListComp elt [⟨tg, iter, ifs, 0⟩] scope pos) spos) (tAsg (tComp ix wi g tc te) (gName i)) := by
  intro pins s σ H D0 I h
  rw [exec_Assign_Name_used _ _ _ _ hsw]
  refine wpAny_bind (wpAny_standAt (wpAny_bind ?_))
  show wpAny _ _ (do let _ ← comprehension (.ListComp elt [⟨tg, iter, ifs, 0⟩] scope pos) scope X.env _ (newList []) false (eval iter X.env) (some (assign (.Name x px) X.env))) _ _ s
  have hcl : ∀ y ∈ scope.names, y.2 = NameKind.free → ∃ d, X.env.cells.lookup y.1 = some d := fun y hy e => I.ok.has _ (c.fr y hy e)
  refine wpAny_bind (wpAny_mono (wpAny_comprehension_free (use := some (assign (.Name x px) X.env)) (Q := fun _ s' => SP X pins D0 .next s') rfl hs (closureFor_eq hcl) c.kind c.names
    (thn (hi pins s σ H _ I h) fun v s1 h1 => thn h1 fun itv s2 h2 => ?_)) (fun _ s' hq => wpAny_pure (wpAny_pure hq)) fun _ _ e => e)
  refine comp_blockX (RR := fun acc C => compPost (model X.prog X.w) X.A X.xe (some (assign (.Name x px) X.env)) (fun _ s' => SP X pins D0 .next s') acc C) c hc hg ht he h2 (fun D C fp H2 x s' I2 f2 hC h' => comp_out tp pc D C fp H2 x s' I2 f2 hC h') ?_
  intro D C s' H' m I' hn hC hz hp hL hcells q
  show wpAny _ _ (assign (.Name x px) X.env (.ref D)) _ _ _
  refine wpAny_assign_Name (store_ok2 (v := .ref D) I' hN hx0 (.inl hx) rfl (fun s'' I'' hsb => ?_) (.inr hx))
  obtain ⟨a, sb, ha⟩ := hsb
  have haC : a ≠ C := by
    rcases ha with e | e
    · rw [e]; exact hL.symm
    · exact hcells x a e
  refine ⟨m, hn.sameBut sb haC.symm, fun h' hs' => ⟨_, H', I''.turned (t' := s''.toks) (fun b o hb e => hs'.extBut b o hb e) hC hL (.inr hz) hcells hp, q⟩⟩
end
end L2
namespace Sw
open PySem L2
def isSX : PyData → Bool
  | .str _ => true
  | _ => false
theorem kit_strX (K : PySem.W.Frag) {H : Hp} {P : Addr → Prop} {v : V} {d : PyData} (h : DT H P v d) : PySem.W.kitOne K (.type (tyD d)) (.type "str") = some (isSX d) := by
  cases h with
  | non => exact kit_type K (show kitB "NoneType" "str" = some false by decide +kernel)
  | bl b => exact kit_type K (show kitB "bool" "str" = some false by decide +kernel)
  | int i => exact kit_type K (show kitB "int" "str" = some false by decide +kernel)
  | str x => exact kit_type K (show kitB "str" "str" = some true by decide +kernel)
  | lst h p r => exact kit_type K (show kitB "list" "str" = some false by decide +kernel)
  | tup h p r => exact kit_type K (show kitB "tuple" "str" = some false by decide +kernel)
def spNumN (C : Addr) : Sp := fun vs H Q E => ∃ (x : Str), vs = [.str x] ∧ x.length ≤ 100000 ∧ ¬ IsNum x ∧ E (.ref C) none H
def spChkN (C : Addr) : Sp := fun vs H Q E => ∃ (v : V) (P : Addr → Prop) (d : PyData), vs = [v] ∧ DT H P v d ∧ (∀ x, d ≠ .str x) ∧ E (.ref C) none H
structure TTxN (mg : Str → Option Value) (K : PySem.W.Frag) (u : Value) (C : Addr) : Prop extends TTx mg K u where
  c_NoText : mg "NoText" = some (.ref C)
  x_NoText : ExcC K C
section
variable {P : Program} {w : World} {K : PySem.W.Frag} {mg : Str → Option Value} {base : Heap} {u : Value} {C : Addr}
theorem ok_numN {f : Addr} {fd : FuncData} (F : Fun K "read_number" "read_number" (top 29) f fd) (T : TTxN mg K u C) : FnOk P w K mg base (CX1 P w) 1 f fd ["word"] (spNumN C) := by
  refine F.okX sc_read_number (fun vs H Q E h => ?_) (fun cdv A outer s H vs Q E hr h => ?_)
  · obtain ⟨i, rfl, _⟩ := h
    rfl
  · obtain ⟨x, rfl, xl, nn, k⟩ := h
    refine ⟨_, (pss_cons (ps_if (PW.pt (pw_or (pt_not (pt_val (pe_bm0K (K := K) rfl PySem.F.plainAttrs_str PySem.F.slot_str_isascii PySem.F.type_str_isascii mt_isascii (pv 0)))) (pw_or (pt_not (pt_val (pe_bm0K (K := K) rfl PySem.F.plainAttrs_str PySem.F.slot_str_isdigit PySem.F.type_str_isdigit mt_isdigit (pv 0)))) (pw_or1 (pt_cmpR op_gt (pe_callB call_len_str rfl T.b_len (by decide +kernel) (pa_cons (pv 0) pa_nil)) (pe_glob rfl T.g_MOST_FIGURES T.r_MOST_FIGURES) (nomark _)))))) (pss_one (ps_raise lvs1 T.x_NoText rfl rfl T.c_NoText (pa_cons pe_str pa_nil))) pss_nil)
      (pss_cons (ps_if (PW.pt (pw_and (pt_cmpR op_ne (pv 0) pe_str (nomark _)) (pw_and1 (pt_val (pe_bmK (K := K) rfl PySem.F.plainAttrs_str PySem.F.slot_str_startswith PySem.F.type_str_startswith mt_starts (pv 0) (pa_cons pe_str pa_nil)))))) (pss_one (ps_raise lvs1 T.x_NoText rfl rfl T.c_NoText (pa_cons pe_str pa_nil))) pss_nil)
      (pss_one (ps_ret (pe_callTy call_int_text rfl T.b_int (by decide +kernel) (pa_cons (pv 0) pa_nil)))))), ?_⟩
    have big : (10000000 : Nat) ≤ sizeLine := by decide
    have no : (1 : Nat) ≤ sizeLine ∧ E (.ref C) none H := ⟨by omega, k⟩
    refine ⟨_, rfl, rfl, _, rfl, rfl, _, rfl, ite2 (fun c => no) (fun c1 => ?_)⟩
    refine ⟨_, rfl, rfl, _, rfl, rfl, _, rfl, ite2 (fun c => no) (fun c2 => ?_)⟩
    refine ⟨_, rfl, _, rfl, by omega, _, _, rfl, rfl, _, rfl, ite2 (fun c => no) (fun c3 => ?_)⟩
    have c1 : Txt.isascii x = true := by simpa using c1
    have c2 : Txt.isdigit x = true := by simpa using c2
    have c3 : x.length ≤ 9 := by
      have : ¬ (x.length : Int) > 9 := by simpa using c3
      omega
    refine ⟨_, rfl, rfl, _, rfl, ?_⟩
    refine ite2 (fun _ => ?_) (fun c4 => ?_)
    · refine ⟨_, rfl, rfl, _, _, rfl, rfl, _, rfl, ite2 (fun c => no) (fun c5 => ?_)⟩
      exact absurd (num_of c1 c2 c3 (.inr (by simpa using c5))) nn
    · refine absurd (num_of c1 c2 c3 (.inl ?_)) nn
      simpa using c4
theorem ok_chkN {f : Addr} {fd : FuncData} (F : Fun K "check_text" "check_text" (top 28) f fd) (T : TTxN mg K u C) : FnOk P w K mg base (CX1 P w) 1 f fd ["thing"] (spChkN C) := by
  refine F.okX sc_check_text (fun vs H Q E h => ?_) (fun cdv A outer s H vs Q E hr h => ?_)
  · obtain ⟨v, _, d, rfl, _⟩ := h
    rfl
  · obtain ⟨v, P', d, rfl, hd, ns, k⟩ := h
    refine ⟨_, (pss_one (ps_if (pt_not (pt_val (pe_callB (call_isiK (K := K) rfl) rfl T.b_isinstance (by decide +kernel) (pa_cons (pv 0) (pa_cons (pe_bltn (v := .ty "str") rfl T.b_str (by decide +kernel) rfl) pa_nil))))) (pss_one (ps_raise lvs1 T.x_NoText rfl rfl T.c_NoText (pa_cons pe_str pa_nil))) pss_nil)), ?_⟩
    refine ⟨_, rfl, _, _, "str", _, rfl, hd.ty, kit_strX K hd, _, rfl, ?_⟩
    have no : (1 : Nat) ≤ sizeLine ∧ E (.ref C) none H := ⟨by decide, k⟩
    cases hd with
    | str x => exact absurd rfl (ns x)
    | _ => exact iteT no
def spNumX (C : Addr) : Sp := fun vs H Q E => spNumT vs H Q E ∨ spNumN C vs H Q E
def spChkX (C : Addr) : Sp := fun vs H Q E => spChkT vs H Q E ∨ spChkN C vs H Q E
theorem ok_numX {f : Addr} {fd : FuncData} (F : Fun K "read_number" "read_number" (top 29) f fd) (T : TTxN mg K u C) : FnOk P w K mg base (CX1 P w) 1 f fd ["word"] (spNumX C) := (ok_num F T.toTTx).lift.or (ok_numN F T)
theorem ok_chkX {f : Addr} {fd : FuncData} (F : Fun K "check_text" "check_text" (top 28) f fd) (T : TTxN mg K u C) : FnOk P w K mg base (CX1 P w) 1 f fd ["thing"] (spChkX C) := (ok_chkT F T.toTTx).lift.or (ok_chkN F T)
end
end Sw
namespace Sw
open PySem L2
def relab (f : Int → Int) (e : Int × Int) : Int → Int := fun x => if f x = f e.2 then f e.1 else f x
def labs (row : List (Int × Int)) : Int → Int := row.foldl relab id
def addC (f : Int → Int) (acc : List (Int × List Int)) (x : Int) : List (Int × List Int) :=
  if f x ∈ acc.map (·.1) then acc.map (fun p => if p.1 = f x then (p.1, p.2 ++ [x]) else p) else acc ++ [(f x, [x])]
def grp (f : Int → Int) (L : List Int) : List (Int × List Int) := L.foldl (addC f) []
def partsM (n : Int) (row : List (Int × Int)) : List (List Int) := (grp (labs row) (ivl 1 (n + 1))).map (·.2)
section
variable {f : Int → Int} {acc : List (Int × List Int)} {x k : Int} {ms : List Int} {j : Nat}
structure Grp (f : Int → Int) (L : List Int) (acc : List (Int × List Int)) : Prop where
  nd : (acc.map (·.1)).Nodup
  mem : ∀ p ∈ acc, p.2 = L.filter (fun y => decide (f y = p.1)) ∧ p.2 ≠ []
  all : ∀ y ∈ L, f y ∈ acc.map (·.1)
theorem Grp.nil : Grp f [] [] := ⟨List.nodup_nil, fun p hp => (by cases hp), fun y hy => (by cases hy)⟩
end
end Sw
namespace Sw
open PySem L2
section
variable {n : Int} {xs : List Int} {a b : Int}
def np (n : Int) (row : List (Int × Int)) : Nat := (partsM n row).length
end
end Sw
namespace Sw
open PySem L2
def Seat (tk : List Int) (c p : Int) : Prop := c ≤ p ∧ p ∉ tk ∧ ∀ q, c ≤ q → q < p → q ∈ tk
def Plc (cs ps : List Int) : Prop := ps.length = cs.length ∧ ∀ (i : Nat) (c p : Int), cs[i]? = some c → ps[i]? = some p → Seat (ps.take i) c p
theorem Plc.nil : Plc [] [] := ⟨rfl, fun i c p h => by simp at h⟩
end Sw
namespace Sw
open PySem L2
structure Nice (k : Nat) (d : PyData) : Prop where
  lay : d.canLay0 = true
  dp : d.depth ≤ k
theorem strOk_of (s : String) : PyData.strOk (Str.ofString s) = true := by
  unfold PyData.strOk
  rw [Str.ofString_eq_toList]
  rw [Array.all_eq_true_iff_forall_mem]
  intro c hc
  have hc : c ∈ List.map Char.toNat s.toList := by simpa using hc
  obtain ⟨ch, _, rfl⟩ := List.mem_map.mp hc
  have := ch.valid
  refine decide_eq_true ?_
  show ch.val.toNat < 1114112
  rcases this with h | ⟨_, h⟩
  · exact Nat.lt_trans h (by decide)
  · exact h
end Sw
namespace Sw
open PySem L2
def up (es : List Int) (p : Int) : Int := if 0 < p then es.getD (p - 1).toNat 0 else p
def ups (es : List Int) : Nat → Int → Int
  | 0, p => p
  | k + 1, p => up es (ups es k p)
section
variable {es come : List Int} {p x y : Int}
structure Grown (es come : List Int) : Prop where
  z : come[0]? = some 0
  st : ∀ (j : Nat) (x : Int), 1 ≤ j → come[j]? = some x → 1 ≤ x ∧ ∃ (m : Nat) (y : Int), m < j ∧ come[m]? = some y ∧ es.getD (x - 1).toNat 0 = y
end
structure TreeM (n : Int) (es : List Int) : Prop where
  len : es.length = n.toNat
  ein : ∀ e ∈ es, 0 ≤ e ∧ e ≤ n
  home : ∀ p, 1 ≤ p → p ≤ n → ups es es.length p = 0
end Sw
namespace Sw
open PySem L2
structure OneR (n : Int) (xs : List Int) : Prop where
  ord : Ord n xs
  pos : 1 ≤ n
  all : ∀ x, 1 ≤ x → x ≤ n → x ∈ orb xs 1
def lab (f : Int → Int) (e : Int × Int) : Int × Int := (min (f e.1) (f e.2), max (f e.1) (f e.2))
def Inj (n : Int) (f : Int → Int) : Prop := ∀ x y, 1 ≤ x → x ≤ n → 1 ≤ y → y ≤ n → f x = f y → x = y
def el (es : List Int) (i : Nat) : Int := es.getD i 0
def tiesM (es : List Int) : List (Int × Int) := (List.range es.length).map fun i => (min (el es i + 1) ((i : Int) + 2), max (el es i + 1) ((i : Int) + 2))
structure Tied (es : List Int) (f : Int → Int) (row : List (Int × Int)) : Prop where
  tree : TreeM es.length es
  one : f 1 = 1
  inj : Inj ((es.length : Int) + 1) f
  rng : ∀ x, 1 ≤ x → x ≤ (es.length : Int) + 1 → 1 ≤ f x ∧ f x ≤ (es.length : Int) + 1
  row : row = (tiesM es).map (lab f)
inductive Grow (row : List (Int × Int)) : List (Int × Int) → Prop
  | base : Grow row [(1, 0)]
  | step {L : List (Int × Int)} {x y j : Int} {i : Nat} {e : Int × Int} : Grow row L → (y, j) ∈ L → row[i]? = some e → (e = (x, y) ∨ e = (y, x)) → x ∉ L.map (·.1) → Grow row (L ++ [(x, (i : Int) + 1)])
end Sw
namespace Sw
open PySem L2
def cn (A M : List Int) : Nat := (M.map fun x => A.count x).sum
structure PK (A L : List Int) : Prop where
  all : cn A L + 1 = L.length
  some_ : ∀ j, 1 ≤ j → j < L.length → j ≤ cn A (L.take j)
def Nx (L : List Int) (x y : Int) : Prop := ∃ i, L[i]? = some x ∧ (L[i + 1]? = some y ∨ (i + 1 = L.length ∧ L[0]? = some y))
structure Cut (n : Int) (A : List Int) (Ls : List (List Int)) (suf : List (Int × Int)) : Prop where
  uniq : ∀ L1 ∈ Ls, ∀ L2 ∈ Ls, ∀ x, x ∈ L1 → x ∈ L2 → L1 = L2
  cov : ∀ x, 1 ≤ x → x ≤ n → ∃ L ∈ Ls, x ∈ L
  inn : ∀ L ∈ Ls, ∀ x ∈ L, 1 ≤ x ∧ x ≤ n
  rise : ∀ L ∈ Ls, L.Pairwise (· < ·)
  pk : ∀ L ∈ Ls, PK A L
  nx : ∀ L ∈ Ls, ∀ x y, Nx L x y → go suf y = x % n + 1
end Sw
namespace Sw
open PySem L2
theorem sIx_in {n m : Nat} {a : Int} (h0 : 0 ≤ a) : HT.sIx n m (some a) = min a.toNat n := by
  show (if a < 0 then (a + (n : Int)).toNat else min a.toNat n) = _
  rw [if_neg (by omega)]
theorem cutT9 {xs : List V} {a : Int} (h0 : 0 ≤ a) (h : a ≤ xs.length) : cutV xs none (some a) = xs.take a.toNat := by
  have e : HT.sIx xs.length 0 none = 0 := rfl
  unfold cutV
  rw [e, sIx_in h0, List.drop_zero, Nat.sub_zero, Nat.min_eq_left (by omega)]
theorem cutD9 {xs : List V} {a : Int} (h0 : 0 ≤ a) (h : a ≤ xs.length) : cutV xs (some a) none = xs.drop a.toNat := by
  have e2 : HT.sIx xs.length xs.length none = xs.length := rfl
  unfold cutV
  rw [sIx_in h0, e2, Nat.min_eq_left (by omega), List.take_of_length_le (by rw [List.length_drop]; exact Nat.le_refl _)]
end Sw
namespace Sw
open PySem L2
def NonX (Ls : List (List Int)) : Prop := ∀ L ∈ Ls, ∀ M ∈ Ls, ∀ a b c d, a ∈ L → c ∈ L → b ∈ M → d ∈ M → a < b → b < c → c < d → L = M
end Sw
namespace Sw
open PySem L2
def Fine (n : Int) (rs : List (List Int)) : Prop := (∀ r ∈ rs, r ≠ [] ∧ ∀ x ∈ r, 1 ≤ x ∧ x ≤ n) ∧ rs.flatten.Nodup
instance {n : Int} {rs : List (List Int)} : Decidable (Fine n rs) := by unfold Fine; infer_instance
def nx : List (List Int) → Int → Int
  | [], x => x
  | r :: rs, x => if x ∈ r then nxt r x else nx rs x
def madeM (n : Int) (rs : List (List Int)) : List Int := (ivl 1 (n + 1)).map (nx rs)
theorem nx_out : ∀ {rs : List (List Int)} {x : Int}, x ∉ rs.flatten → nx rs x = x
  | [], _, _ => rfl
  | r :: rs, x, h => by
    rw [List.flatten_cons, List.mem_append, not_or] at h
    show (if x ∈ r then nxt r x else nx rs x) = x
    rw [if_neg h.1, nx_out h.2]
theorem nx_at : ∀ {rs : List (List Int)} {r : List Int} {j : Nat} {x : Int}, rs.flatten.Nodup → r ∈ rs → r[j]? = some x → nx rs x = r.getD ((j + 1) % r.length) 0
  | [], _, _, _, _, h, _ => by cases h
  | a :: rs, r, j, x, nd, h, hj => by
    rw [List.flatten_cons, List.nodup_append] at nd
    obtain ⟨na, nr, dis⟩ := nd
    show (if x ∈ a then nxt a x else nx rs x) = _
    rcases List.mem_cons.mp h with rfl | h
    · rw [if_pos (List.mem_of_getElem? hj), nxt_at na hj]
    · have : x ∉ a := fun z => dis x z x (List.mem_flatten.mpr ⟨r, h, List.mem_of_getElem? hj⟩) rfl
      rw [if_neg this, nx_at nr h hj]
theorem madeM_length (n : Int) (rs : List (List Int)) : (madeM n rs).length = n.toNat := by
  unfold madeM
  rw [List.length_map, ivl_length]
  omega
theorem ld_made {n : Int} {rs : List (List Int)} {x : Int} (h1 : 1 ≤ x) (h2 : x ≤ n) : ld (madeM n rs) x = nx rs x := by
  unfold ld madeM
  rw [List.getD_eq_getElem?_getD, List.getElem?_map, get_ivl (by omega)]
  show nx rs (1 + ((x - 1).toNat : Int)) = nx rs x
  congr 1
  omega
theorem fine_rnds {n : Int} {rs : List (List Int)} (f : Fine n rs) : Rnds n (madeM n rs) rs := by
  refine ⟨fun r hr => ⟨(f.1 r hr).1, fun j x hx => ?_⟩, f.2, fun x h1 h2 hx => by rw [ld_made h1 h2, nx_out hx]⟩
  have b := (f.1 r hr).2 x (List.mem_of_getElem? hx)
  refine ⟨b.1, b.2, ?_⟩
  rw [ld_made b.1 b.2, nx_at f.2 hr hx, List.getD_eq_getElem?_getD]
  have : (j + 1) % r.length < r.length := Nat.mod_lt _ (List.length_pos_iff.mpr (f.1 r hr).1)
  rw [List.getElem?_eq_getElem this]
  rfl
section
variable {n : Int} {rs : List (List Int)} {r : List Int} {i j : Nat} {z : Int}
theorem take_snoc {α : Type} {l : List α} {i : Nat} {x : α} (h : l[i]? = some x) : l.take (i + 1) = l.take i ++ [x] := by rw [List.take_succ, h]; rfl
theorem flat_snoc (h : rs[i]? = some r) : (rs.take (i + 1)).flatten = (rs.take i).flatten ++ r := by
  rw [take_snoc h, List.flatten_append, List.flatten_cons, List.flatten_nil, List.append_nil]
theorem not_fine_nil (h : rs[i]? = some []) : ¬ Fine n rs := fun f => (f.1 [] (List.mem_of_getElem? h)).1 rfl
theorem not_fine_out (h : rs[i]? = some r) (hz : z ∈ r) (hb : ¬ (1 ≤ z ∧ z ≤ n)) : ¬ Fine n rs := fun f => hb ((f.1 r (List.mem_of_getElem? h)).2 z hz)
theorem flat_sub (h : rs[i]? = some r) : ((rs.take i).flatten ++ r).Sublist rs.flatten := by
  rw [← flat_snoc h, ← List.take_append_drop (i + 1) rs, List.flatten_append, List.take_append_drop]
  exact List.sublist_append_left _ _
theorem not_fine_twice (h : rs[i]? = some r) (hj : r[j]? = some z) (hz : z ∈ (rs.take i).flatten ++ r.take j) : ¬ Fine n rs := fun f => by
  have nd := f.2.sublist (flat_sub h)
  have nd := nd.sublist (List.Sublist.append (List.Sublist.refl (rs.take i).flatten) (List.take_sublist (j + 1) r))
  rw [take_snoc hj, ← List.append_assoc] at nd
  exact (List.nodup_append.mp nd).2.2 z hz z (List.mem_singleton.mpr rfl) rfl
theorem nodup_snoc {l : List Int} (h : l.Nodup) (hz : z ∉ l) : (l ++ [z]).Nodup := by
  rw [List.nodup_append]
  refine ⟨h, by simp, fun a ha b hb e => ?_⟩
  rw [List.mem_singleton.mp hb] at e
  subst e
  exact hz ha
theorem fine_snoc (f : Fine n (rs.take i)) (h : rs[i]? = some r) (hr : r ≠ []) (hb : ∀ x ∈ r, 1 ≤ x ∧ x ≤ n) (nd : ((rs.take i).flatten ++ r).Nodup) : Fine n (rs.take (i + 1)) := by
  refine ⟨fun q hq => ?_, by rw [flat_snoc h]; exact nd⟩
  rw [take_snoc h] at hq
  rcases List.mem_append.mp hq with z | z
  · exact f.1 q z
  · rw [List.mem_singleton.mp z]
    exact ⟨hr, hb⟩
theorem fine_nil : Fine n [] := ⟨fun q hq => (by cases hq), List.nodup_nil⟩
end
end Sw
namespace L2
open PySem PySem.Spec PyProof.Rows PySem.SeqAt
inductive NumEs (pr : Params) : List DictEntry → List (Str × Int) → Prop
  | nil : NumEs pr [] []
  | cons {x : Str} {y : Int} {t u : Tok} {es : List DictEntry} {ps : List (Str × Int)} : NumEs pr es ps → NumEs pr ({ hash := PyData.keyHash pr x, key := .str x t, val := .int y u } :: es) ((x, y) :: ps)
structure KNum (K : PySem.W.Frag) (pr : Params) (a : Addr) (ps : List (Str × Int)) : Prop where
  sys : (a == sysModules) = false
  nd : (ps.map (·.1)).Nodup
  ex : ∃ (es : List DictEntry) (ep : Nat), K.lookup a = some { cls := .type "dict", data := .dict es.toArray ep } ∧ NumEs pr es ps
end L2
namespace L2
open PySem PySem.Spec PyProof.Rows PySem.SeqAt
open PySem.AutoSeq1 (wpAny_loadPart')
open PySem.MeetsSeq PySem.MeetsSeq2 PySem.MeetsSeq3
def HdAt (h : Heap) (v : Value) (a : Int) : Prop := ∃ (l : Addr) (xs : Array Value) (n : Nat) (t : Tok), v = .ref l ∧ h.get? l = some { cls := .type "list", data := .seq xs n } ∧ xs[0]? = some (.int a t)
structure Rising (h : Heap) (vs : List Value) (hs : List Int) : Prop where
  len : hs.length = vs.length
  up : ∀ (i : Nat) (a c : Int), hs[i]? = some a → hs[i + 1]? = some c → a < c
  head : ∀ (i : Nat) (v : Value) (a : Int), vs[i]? = some v → hs[i]? = some a → HdAt h v a
section
variable {prog : Program} {w : World} {A : Around} {E : Value → Shared → Prop} {s : Shared}
theorem firsts_none {Q : List (Option Value) → Shared → Prop} : ∀ {vs : List Value}, (∀ v ∈ vs, s.TypeIs v "list") → Q (vs.map fun _ => none) s → wpAny (model prog w) A (vs.mapM firstOfTuple') Q E s
  | [], _, q => by rw [List.mapM_nil]; exact wpAny_pure q
  | v :: vs, h, q => by
    rw [List.mapM_cons]
    refine wpAny_bind (wpAny_bind (wpAny_typeOf (h v List.mem_cons_self) ?_))
    rw [if_pos (by decide)]
    exact wpAny_pure (wpAny_bind (thn (firsts_none (Q := fun r z => Q (none :: r) z) (fun u hu => h u (List.mem_cons_of_mem _ hu)) q) fun r s' z' => wpAny_pure z'))
theorem types_list {Q : List Value → Shared → Prop} : ∀ {vs : List Value}, (∀ v ∈ vs, s.TypeIs v "list") → Q (vs.map fun _ => Value.type "list") s → wpAny (model prog w) A (vs.mapM typeOf) Q E s
  | [], _, q => by rw [List.mapM_nil]; exact wpAny_pure q
  | v :: vs, h, q => by
    rw [List.mapM_cons]
    refine wpAny_bind (wpAny_typeOf (h v List.mem_cons_self) ?_)
    exact wpAny_bind (thn (types_list (Q := fun r z => Q (.type "list" :: r) z) (fun u hu => h u (List.mem_cons_of_mem _ hu)) q) fun r s' z' => wpAny_pure z')
theorem kind_lists {vs : List Value} {Q : SortKind → Shared → Prop} (h0 : vs ≠ []) (h : ∀ v ∈ vs, s.TypeIs v "list") (q : Q oneType' s) : wpAny (model prog w) A (keyKind' vs.toArray) Q E s := by
  obtain ⟨v, r, rfl⟩ : ∃ v r, vs = v :: r := by
    cases vs with
    | nil => exact absurd rfl h0
    | cons v r => exact ⟨v, r, rfl⟩
  rw [keyKind'_eq, List.mapM_toArray]
  simp only [map_eq_pure_bind, bind_assoc, pure_bind]
  refine wpAny_bind (firsts_none h ?_)
  rw [if_neg (by simp), if_neg (by simp), oneTypeOnly'_eq, List.mapM_toArray]
  simp only [map_eq_pure_bind, bind_assoc, pure_bind]
  refine wpAny_bind (types_list h ?_)
  have e : ((List.map (fun _ => Value.type "list") (v :: r)).toArray.all fun x => x == Value.type "list") = true := by
    rw [List.all_toArray, List.all_map, List.all_eq_true]
    exact fun _ _ => rfl
  simp only [List.map_cons, List.getElem?_toArray, List.getElem?_cons_zero] at e ⊢
  rw [if_pos e]
  exact wpAny_pure q
theorem zip_snd {vs : List Value} : (vs.toArray.zip vs.toArray).map (·.2) = vs.toArray := by
  apply Array.toList_inj.mp
  rw [Array.toList_map, Array.toList_zip]
  simp [List.map_snd_zip]
end
end L2
namespace L2
open PySem PySem.W PyProof.Rows
def KSat {α : Type} (N : Nat) (rk : Nat → Int) : KasT α → (α → Prop) → Prop
  | .ret a, P => P a
  | .ask i j k, P => (i < N ∧ j < N) ∧ KSat N rk (k (decide (rk i < rk j))) P
section
variable {N : Nat} {rk : Nat → Int}
theorem KSat.mono {α : Type} : ∀ {t : KasT α} {P Q : α → Prop}, KSat N rk t P → (∀ a, P a → Q a) → KSat N rk t Q
  | .ret _, _, _, h, k => k _ h
  | .ask i j f, P, Q, h, k => ⟨h.1, KSat.mono (t := f (decide (rk i < rk j))) h.2 k⟩
theorem KSat.bind {α β : Type} : ∀ {t : KasT α} {f : α → KasT β} {P : β → Prop}, KSat N rk t (fun a => KSat N rk (f a) P) → KSat N rk (t.bind f) P
  | .ret _, _, _, h => h
  | .ask i j k, f, P, h => ⟨h.1, KSat.bind (t := k (decide (rk i < rk j))) h.2⟩
theorem KSat.wp {α : Type} {cmp : Nat → Nat → (Bool → Shared → Prop) → Shared → Prop} {s : Shared} (hc : ∀ i j C, i < N → j < N → C (decide (rk i < rk j)) s → cmp i j C s) : ∀ {t : KasT α} {P : α → Prop} {Q : α → Shared → Prop}, KSat N rk t P → (∀ a, P a → Q a s) → t.kasWp cmp Q s
  | .ret _, _, _, h, k => k _ h
  | .ask i j f, P, Q, h, k => hc i j _ h.1.1 h.1.2 (KSat.wp hc (t := f (decide (rk i < rk j))) h.2 k)
def KP (rk : Nat → Int) (p : Array Nat) (i : Nat) : Int := rk (p.getD i 0)
def Srt (rk : Nat → Int) (k : Nat) (p : Array Nat) : Prop := ∀ i j, i ≤ j → j < k → KP rk p i ≤ KP rk p j
def Fal (rk : Nat → Int) (k : Nat) (p : Array Nat) : Prop := ∀ i j, i ≤ j → j < k → KP rk p j ≤ KP rk p i
theorem KP_congr {p q : Array Nat} {i j : Nat} (h : p[i]? = q[j]?) : KP rk p i = KP rk q j := by
  unfold KP
  rw [Array.getD_eq_getD_getElem?, Array.getD_eq_getD_getElem?, h]
theorem KP_rev {p : Array Nat} {i j : Nat} (hj : j ≤ p.size) (k : Nat) : KP rk (kas_rev p i j) k = if i ≤ k ∧ k < j then KP rk p (i + j - 1 - k) else KP rk p k := by
  have e := getElem?_mirror_all (xs := p) (i := i) hj k
  unfold kas_rev
  by_cases h : i ≤ k ∧ k < j
  · rw [if_pos h] at e ⊢; exact KP_congr e
  · rw [if_neg h] at e ⊢; exact KP_congr e
theorem KP_bub {p : Array Nat} {src d : Nat} (hs : src < p.size) (hd : d ≤ src) (k : Nat) : KP rk (bubble p src d) k = if k = src - d then KP rk p src else if src - d < k ∧ k ≤ src then KP rk p (k - 1) else KP rk p k := by
  have e := getElem?_bubble hs d hd k
  by_cases h1 : k = src - d
  · rw [if_pos h1] at e ⊢; exact KP_congr e
  · rw [if_neg h1] at e ⊢
    by_cases h2 : src - d < k ∧ k ≤ src
    · rw [if_pos h2] at e ⊢; exact KP_congr e
    · rw [if_neg h2] at e ⊢; exact KP_congr e
theorem rev_same {p : Array Nat} {i j : Nat} (hj : j ≤ p.size) (h : ∀ k, i ≤ k → k < j → KP rk p k = KP rk p (j - 1)) (k : Nat) : KP rk (kas_rev p i j) k = KP rk p k := by
  rw [KP_rev hj]
  split
  · rename_i z
    rw [h (i + j - 1 - k) (by omega) (by omega), h k (by omega) (by omega)]
  · rfl
theorem rev_size (p : Array Nat) (i j : Nat) : (kas_rev p i j).size = p.size := mirror_size _ _ _ _
theorem rev_perm (p : Array Nat) (i j : Nat) : (kas_rev p i j).Perm p := mirror_perm _ _ _ _
def Bdd (N : Nat) (p : Array Nat) : Prop := ∀ i, p.getD i 0 < N
theorem Bdd.of {p q : Array Nat} (hN : 0 < N) (pm : p.Perm q) (hq : ∀ x ∈ q.toList, x < N) : Bdd N p := fun i => by
  rw [Array.getD_eq_getD_getElem?]
  cases h : p[i]? with
  | none => exact hN
  | some x =>
    have : x ∈ p := Array.mem_of_getElem? h
    exact hq x (Array.mem_toList_iff.mpr (pm.mem_iff.mp this))
theorem asc_sat (p : Array Nat) (hp : Bdd N p) : ∀ (f n : Nat), 1 ≤ n → Srt rk n p → KSat N rk (kas_asc p f n) fun m => n ≤ m ∧ m ≤ n + f ∧ Srt rk m p ∧ (m = n + f ∨ KP rk p m < KP rk p (m - 1))
  | 0, n, h1, hs => ⟨Nat.le_refl _, Nat.le_refl _, hs, .inl rfl⟩
  | f + 1, n, h1, hs => by
    refine ⟨⟨hp _, hp _⟩, ?_⟩
    show KSat N rk (if decide (rk (p.getD n 0) < rk (p.getD (n - 1) 0)) = true then .ret n else kas_asc p f (n + 1)) _
    by_cases c : rk (p.getD n 0) < rk (p.getD (n - 1) 0)
    · rw [if_pos (decide_eq_true c)]
      exact ⟨Nat.le_refl _, by omega, hs, .inr c⟩
    · rw [if_neg (by simpa using c)]
      have c : KP rk p (n - 1) ≤ KP rk p n := Int.not_lt.mp c
      refine KSat.mono (asc_sat p hp f (n + 1) (by omega) fun i j hij hj => ?_) fun m ⟨a, b, d, e⟩ => ⟨by omega, by omega, d, e.elim (fun e => .inl (by omega)) .inr⟩
      by_cases z : j < n
      · exact hs i j hij z
      · have : j = n := by omega
        subst this
        by_cases z : i = j
        · subst z; exact Int.le_refl _
        · exact Int.le_trans (hs i (j - 1) (by omega) (by omega)) c
structure DescOk (rk : Nat → Int) (p₀ p : Array Nat) (n q : Nat) : Prop where
  perm : p.Perm p₀
  size : p.size = p₀.size
  fal : Fal rk n p
  same : ∀ i, n - (q + 1) ≤ i → i < n → KP rk p i = KP rk p (n - 1)
  q1 : q + 1 ≤ n
theorem desc_sat {p₀ : Array Nat} (hN : 0 < N) (h0 : ∀ x ∈ p₀.toList, x < N) : ∀ (f : Nat) (p : Array Nat) (n q : Nat), n + f ≤ p₀.size → DescOk rk p₀ p n q → KSat N rk (kas_desc f p n q) fun r => n ≤ r.2.1 ∧ r.2.1 ≤ n + f ∧ DescOk rk p₀ r.1 r.2.1 r.2.2
  | 0, p, n, q, _, d => ⟨Nat.le_refl _, Nat.le_refl _, d⟩
  | f + 1, p, n, q, hz, d => by
    have hsz := d.size
    have hq := d.q1
    have fal1 : ∀ {p' : Array Nat}, (∀ k, KP rk p' k = KP rk p k) → KP rk p n ≤ KP rk p (n - 1) → Fal rk (n + 1) p' := fun {p'} e le i j hij hj => by
      rw [e, e]
      by_cases z : j < n
      · exact d.fal i j hij z
      · have : j = n := by omega
        subst this
        by_cases z : i = j
        · subst z; exact Int.le_refl _
        · exact Int.le_trans le (d.fal i (j - 1) (by omega) (by omega))
    have hp := Bdd.of hN d.perm h0
    refine ⟨⟨hp _, hp _⟩, ?_⟩
    show KSat N rk (if decide (rk (p.getD n 0) < rk (p.getD (n - 1) 0)) = true then (if q > 0 then kas_desc f (kas_rev p (n - (q + 1)) n) (n + 1) 0 else kas_desc f p (n + 1) 0)
      else .ask (p.getD (n - 1) 0) (p.getD n 0) fun d => if d = true then .ret (p, n, q) else kas_desc f p (n + 1) (q + 1)) _
    by_cases c : rk (p.getD n 0) < rk (p.getD (n - 1) 0)
    · rw [if_pos (decide_eq_true c)]
      have le : KP rk p n ≤ KP rk p (n - 1) := Int.le_of_lt c
      have one : ∀ p', DescOk rk p₀ p' (n + 1) 0 → KSat N rk (kas_desc f p' (n + 1) 0) fun r => n ≤ r.2.1 ∧ r.2.1 ≤ n + (f + 1) ∧ DescOk rk p₀ r.1 r.2.1 r.2.2 := fun p' d' => KSat.mono (desc_sat hN h0 f p' (n + 1) 0 (by omega) d') fun r ⟨a, b, e⟩ => ⟨by omega, by omega, e⟩
      have lone : ∀ {p' : Array Nat} (i : Nat), n + 1 - (0 + 1) ≤ i → i < n + 1 → KP rk p' i = KP rk p' (n + 1 - 1) := fun {p'} i h1 h2 => by rw [show i = n + 1 - 1 by omega]
      by_cases z : q > 0
      · rw [if_pos z]
        have e := rev_same (rk := rk) (p := p) (i := n - (q + 1)) (j := n) (by omega) d.same
        exact one _ ⟨(rev_perm p _ _).trans d.perm, by rw [rev_size]; exact hsz, fal1 e le, lone, by omega⟩
      · rw [if_neg z]
        exact one _ ⟨d.perm, hsz, fal1 (fun _ => rfl) le, lone, by omega⟩
    · rw [if_neg (by simpa using c)]
      have c1 : KP rk p (n - 1) ≤ KP rk p n := Int.not_lt.mp c
      refine ⟨⟨hp _, hp _⟩, ?_⟩
      show KSat N rk (if decide (rk (p.getD (n - 1) 0) < rk (p.getD n 0)) = true then .ret (p, n, q) else kas_desc f p (n + 1) (q + 1)) _
      by_cases c2 : rk (p.getD (n - 1) 0) < rk (p.getD n 0)
      · rw [if_pos (decide_eq_true c2)]
        exact ⟨Nat.le_refl _, by show n ≤ n + (f + 1); omega, d⟩
      · rw [if_neg (by simpa using c2)]
        have c2 : KP rk p n ≤ KP rk p (n - 1) := Int.not_lt.mp c2
        refine KSat.mono (desc_sat hN h0 f p (n + 1) (q + 1) (by omega) ⟨d.perm, hsz, fal1 (fun _ => rfl) c2, fun i h1 h2 => ?_, by omega⟩) fun r ⟨a, b, e⟩ => ⟨by omega, by omega, e⟩
        rw [show n + 1 - 1 = n by omega]
        by_cases z : i = n
        · rw [z]
        · rw [d.same i (by omega) (by omega)]
          omega
def RunOk (rk : Nat → Int) (p₀ : Array Nat) (nrem : Nat) (r : Nat × Array Nat) : Prop := r.2.Perm p₀ ∧ r.2.size = p₀.size ∧ 1 ≤ r.1 ∧ r.1 ≤ nrem ∧ Srt rk r.1 r.2
theorem tail_sat {p₀ p : Array Nat} {n nrem : Nat} (hN : 0 < N) (h0 : ∀ x ∈ p₀.toList, x < N) (h1 : 1 ≤ n) (hn : n ≤ nrem) (hz : nrem ≤ p₀.size) (pm : p.Perm p₀) (sz : p.size = p₀.size) (fl : Fal rk n p) : KSat N rk (kas_tail3 n nrem p) (RunOk rk p₀ nrem) := by
  unfold kas_tail3
  refine KSat.bind (KSat.mono (asc_sat (kas_rev p 0 n) (Bdd.of hN ((rev_perm p 0 n).trans pm) h0) (nrem - n) n h1 fun i j hij hj => ?_) fun m ⟨a, b, c, _⟩ => ⟨(rev_perm p 0 n).trans pm, by rw [rev_size]; exact sz, by omega, by omega, c⟩)
  rw [KP_rev (by omega), KP_rev (by omega), if_pos ⟨by omega, by omega⟩, if_pos ⟨by omega, by omega⟩]
  exact fl _ _ (by omega) (by omega)
theorem descPart_sat {p₀ p : Array Nat} {n nrem : Nat} (hN : 0 < N) (h0 : ∀ x ∈ p₀.toList, x < N) (hn : n + 1 ≤ nrem) (hz : nrem ≤ p₀.size) (d : DescOk rk p₀ p (n + 1) 0) : KSat N rk (kas_descPart n nrem p) (RunOk rk p₀ nrem) := by
  unfold kas_descPart
  refine KSat.bind (KSat.mono (desc_sat hN h0 (nrem - (n + 1)) p (n + 1) 0 (by omega) d) ?_)
  rintro ⟨p', n', q'⟩ ⟨a, b, d'⟩
  dsimp only at a b d'
  have sz := d'.size
  show KSat N rk (if q' > 0 then kas_tail3 n' nrem (kas_rev p' (n' - (q' + 1)) n') else kas_tail3 n' nrem p') _
  by_cases z : q' > 0
  · rw [if_pos z]
    have e := rev_same (rk := rk) (p := p') (i := n' - (q' + 1)) (j := n') (by omega) d'.same
    exact tail_sat hN h0 (by omega) (by omega) hz ((rev_perm p' _ _).trans d'.perm) (by rw [rev_size]; exact sz) fun i j hij hj => by rw [e, e]; exact d'.fal i j hij hj
  · rw [if_neg z]
    exact tail_sat hN h0 (by omega) (by omega) hz d'.perm sz d'.fal
theorem count_sat {p : Array Nat} {nrem : Nat} (hN : 0 < N) (h0 : ∀ x ∈ p.toList, x < N) (h1 : 1 ≤ nrem) (hz : nrem ≤ p.size) : KSat N rk (kas_count nrem p) (RunOk rk p nrem) := by
  unfold kas_count
  refine KSat.bind (KSat.mono (asc_sat p (Bdd.of hN (Array.Perm.refl _) h0) (nrem - 1) 1 (Nat.le_refl _) fun i j hij hj => by rw [show i = j by omega]; exact Int.le_refl _) ?_)
  rintro n ⟨a, b, hs, e⟩
  by_cases z : n = nrem
  · rw [if_pos (by simpa using z)]
    exact ⟨Array.Perm.refl _, rfl, a, by omega, hs⟩
  · rw [if_neg (by simpa using z)]
    have lt : KP rk p n < KP rk p (n - 1) := by
      rcases e with e | e
      · omega
      · exact e
    by_cases z1 : n > 1
    · rw [if_pos z1]
      have hp := Bdd.of hN (Array.Perm.refl p) h0
      refine ⟨⟨hp _, hp _⟩, ?_⟩
      show KSat N rk (if decide (rk (p.getD 0 0) < rk (p.getD (n - 1) 0)) = true then .ret (n, p) else kas_descPart n nrem (kas_rev p 0 n)) _
      by_cases c : rk (p.getD 0 0) < rk (p.getD (n - 1) 0)
      · rw [if_pos (decide_eq_true c)]
        exact ⟨Array.Perm.refl _, rfl, a, by omega, hs⟩
      · rw [if_neg (by simpa using c)]
        have c : KP rk p (n - 1) ≤ KP rk p 0 := Int.not_lt.mp c
        have same : ∀ k, 0 ≤ k → k < n → KP rk p k = KP rk p (n - 1) := fun k _ hk => by
          have x1 := hs 0 k (by omega) hk
          have x2 := hs k (n - 1) (by omega) (by omega)
          omega
        have ee := rev_same (rk := rk) (p := p) (i := 0) (j := n) (by omega) same
        refine descPart_sat hN h0 (by omega) hz ⟨rev_perm p 0 n, rev_size p 0 n, fun i j hij hj => ?_, fun i x1 x2 => by rw [show i = n + 1 - 1 by omega], by omega⟩
        rw [ee, ee]
        by_cases w : j < n
        · rw [same j (by omega) w, same i (by omega) (by omega)]; exact Int.le_refl _
        · have : j = n := by omega
          subst this
          by_cases w : i = j
          · subst w; exact Int.le_refl _
          · rw [same i (by omega) (by omega)]; exact Int.le_of_lt lt
    · rw [if_neg z1]
      have n1 : n = 1 := by omega
      subst n1
      refine descPart_sat hN h0 (by omega) hz ⟨Array.Perm.refl _, rfl, fun i j hij hj => ?_, fun i x1 x2 => by rw [show i = 1 + 1 - 1 by omega], by omega⟩
      by_cases w : i = j
      · subst w; exact Int.le_refl _
      · rw [show i = 0 by omega, show j = 1 by omega]; exact Int.le_of_lt lt
theorem place_sat {p : Array Nat} {k : Nat} (hp : Bdd N p) (hs : Srt rk k p) : ∀ (f l r : Nat), l ≤ r → r ≤ k → r - l ≤ f → (∀ i, i < l → KP rk p i ≤ KP rk p k) → (∀ i, r ≤ i → i < k → KP rk p k < KP rk p i) → KSat N rk (kas_place p k f l r) fun l' => l' ≤ k ∧ (∀ i, i < l' → KP rk p i ≤ KP rk p k) ∧ ∀ i, l' ≤ i → i < k → KP rk p k < KP rk p i
  | 0, l, r, h1, h2, h3, ha, hb => ⟨by omega, ha, fun i a b => hb i (by omega) b⟩
  | f + 1, l, r, h1, h2, h3, ha, hb => by
    unfold kas_place
    by_cases z : l ≥ r
    · rw [if_pos z]
      exact ⟨by omega, ha, fun i a b => hb i (by omega) b⟩
    · rw [if_neg z]
      refine ⟨⟨hp _, hp _⟩, ?_⟩
      show KSat N rk (if decide (rk (p.getD k 0) < rk (p.getD ((l + r) / 2) 0)) = true then kas_place p k f l ((l + r) / 2) else kas_place p k f ((l + r) / 2 + 1) r) _
      by_cases c : rk (p.getD k 0) < rk (p.getD ((l + r) / 2) 0)
      · rw [if_pos (decide_eq_true c)]
        exact place_sat hp hs f l ((l + r) / 2) (by omega) (by omega) (by omega) ha fun i x y => Int.lt_of_lt_of_le c (hs _ i x y)
      · rw [if_neg (by simpa using c)]
        have c : KP rk p ((l + r) / 2) ≤ KP rk p k := Int.not_lt.mp c
        exact place_sat hp hs f ((l + r) / 2 + 1) r (by omega) h2 (by omega) (fun i x => Int.le_trans (hs i _ (by omega) (by omega)) c) hb
theorem bin_sat {p₀ : Array Nat} (hN : 0 < N) (h0 : ∀ x ∈ p₀.toList, x < N) : ∀ (f : Nat) (p : Array Nat) (k : Nat), p.Perm p₀ → p.size = p₀.size → k + f ≤ p.size → Srt rk k p → KSat N rk (kas_bin f p k) fun p' => p'.Perm p₀ ∧ p'.size = p₀.size ∧ Srt rk (k + f) p'
  | 0, p, k, pm, sz, _, hs => ⟨pm, sz, hs⟩
  | f + 1, p, k, pm, sz, hk, hs => by
    unfold kas_bin
    refine KSat.bind (KSat.mono (place_sat (Bdd.of hN pm h0) hs k 0 k (by omega) (Nat.le_refl _) (by omega) (fun i h => by omega) fun i a b => by omega) fun l ⟨l1, lo, hi⟩ => ?_)
    refine KSat.mono (bin_sat hN h0 f (bubble p k (k - l)) (k + 1) ((bubble_perm p k _).trans pm) (by rw [bubble_size]; exact sz) (by rw [bubble_size]; omega) fun i j hij hj => ?_) fun p' ⟨a, b, c⟩ => ⟨a, b, by rw [show k + (f + 1) = k + 1 + f by omega]; exact c⟩
    rw [KP_bub (by omega) (by omega), KP_bub (by omega) (by omega), show k - (k - l) = l by omega]
    by_cases i1 : i = l
    · rw [if_pos i1]
      by_cases j1 : j = l
      · rw [if_pos j1]; exact Int.le_refl _
      · rw [if_neg j1, if_pos ⟨by omega, by omega⟩]
        exact Int.le_of_lt (hi (j - 1) (by omega) (by omega))
    · rw [if_neg i1]
      by_cases i2 : l < i ∧ i ≤ k
      · rw [if_pos i2, if_neg (by omega), if_pos ⟨by omega, by omega⟩]
        exact hs (i - 1) (j - 1) (by omega) (by omega)
      · rw [if_neg i2]
        have il : i < l := by omega
        by_cases j1 : j = l
        · rw [if_pos j1]; exact lo i il
        · rw [if_neg j1]
          by_cases j2 : l < j ∧ j ≤ k
          · rw [if_pos j2]
            exact hs i (j - 1) (by omega) (by omega)
          · rw [if_neg j2]
            exact hs i j hij (by omega)
theorem sort_sat {n : Nat} (h : 1 ≤ n) : KSat n rk (kas_sort n) fun p => p.Perm (List.toArray (List.range n)) ∧ p.size = n ∧ Srt rk n p := by
  have sz : (List.toArray (List.range n)).size = n := by simp
  unfold kas_sort
  have h0 : ∀ x ∈ (List.toArray (List.range n)).toList, x < n := fun x hx => List.mem_range.mp hx
  refine KSat.bind (KSat.mono (count_sat (by omega) h0 h (by omega)) ?_)
  rintro ⟨m, p⟩ ⟨pm, ps, m1, m2, hs⟩
  dsimp only at pm ps m1 m2 hs
  show KSat n rk (if m < n then kas_bin (n - max m 1) p (max m 1) else .ret p) _
  by_cases z : m < n
  · rw [if_pos z, Nat.max_eq_left m1]
    refine KSat.mono (bin_sat (by omega) h0 (n - m) p m pm (by omega) (by omega) hs) fun p' ⟨a, b, c⟩ => ⟨a, by omega, ?_⟩
    rwa [show m + (n - m) = n by omega] at c
  · rw [if_neg z]
    have : m = n := by omega
    subst this
    exact ⟨pm, by omega, hs⟩
end
end L2
namespace L2
open PySem PySem.Spec PyProof.Rows PySem.SeqAt
open PySem.AutoSeq1 (wpAny_loadPart')
open PySem.MeetsSeq PySem.MeetsSeq2 PySem.MeetsSeq3
def lexB : List Int → List Int → Bool
  | [], [] => false
  | [], _ :: _ => true
  | _ :: _, [] => false
  | a :: r, c :: q => if a = c then lexB r q else decide (a < c)
def IntsAt (xs : Array Value) (ns : List Int) : Prop := xs.size = ns.length ∧ ∀ (i : Nat) (a : Int), ns[i]? = some a → ∃ t, xs[i]? = some (.int a t)
theorem IntsAt.out {xs : Array Value} {ns : List Int} (h : IntsAt xs ns) {i : Nat} (hi : ns.length ≤ i) : xs[i]? = none := Array.getElem?_eq_none (by rw [h.1]; exact hi)
theorem lt_loopG (l b : Addr) (xs ys : Array Value) (n m : Nat) {ns ms : List Int} (hx : IntsAt xs ns) (hy : IntsAt ys ms) : ∀ (f i : Nat), ns.length ≤ i + f → i ≤ ns.length →
    Meets (Builtin.«list.__eq__.loop» ⟨[.ref l, .ref b, rawInt (i : Int), rawInt 0], []⟩)
      (fun _ R s => s.heap.get? l = some { cls := .type "list", data := .seq xs n } ∧ s.heap.get? b = some { cls := .type "list", data := .seq ys m } ∧ R (.ok (.ret (.bool (lexB (ns.drop i) (ms.drop i))))) s) := by
  have ends : ∀ (i : Nat), (ns.length ≤ i ∨ ms.length ≤ i) → i ≤ ns.length → lexB (ns.drop i) (ms.drop i) = decide (xs.size < ys.size) ∨ False := fun i h1 h2 => by
    left
    rw [hx.1, hy.1]
    by_cases z : ns.length ≤ i
    · rw [List.drop_eq_nil_of_le z]
      cases hm : ms.drop i with
      | nil =>
        have := List.drop_eq_nil_iff.mp hm
        show false = _
        rw [decide_eq_false (by omega)]
      | cons c q =>
        have : i < ms.length := by
          have := congrArg List.length hm
          rw [List.length_drop, List.length_cons] at this
          omega
        show true = _
        rw [decide_eq_true (by omega)]
    · have z2 : ms.length ≤ i := by omega
      rw [List.drop_eq_nil_of_le z2, decide_eq_false (by omega)]
      cases hm : ns.drop i with
      | nil => have := List.drop_eq_nil_iff.mp hm; omega
      | cons c q => rfl
  have stop : ∀ (i : Nat), (ns.length ≤ i ∨ ms.length ≤ i) → i ≤ ns.length → Meets (Builtin.«list.__eq__.loop» ⟨[.ref l, .ref b, rawInt (i : Int), rawInt 0], []⟩)
      (fun _ R s => s.heap.get? l = some { cls := .type "list", data := .seq xs n } ∧ s.heap.get? b = some { cls := .type "list", data := .seq ys m } ∧ R (.ok (.ret (.bool (lexB (ns.drop i) (ms.drop i))))) s) := by
    intro i h1 h2 prog w A R s h
    obtain ⟨hp, g, d, tk, os⟩ := s
    obtain ⟨hl, hb, h⟩ := h
    rw [(ends i h1 h2).resolve_right id] at h
    wp_walk using wpAny_loadPart' hl, wpAny_loadPart' hb
    rcases h1 with z | z
    · have e1 : xs[Int.toNat (i : Int)]? = none := hx.out (by rw [Int.toNat_natCast]; omega)
      rw [e1]
      dsimp only
      wp_walk using wpAny_loadPart' hl, wpAny_loadPart' hb
      exact h
    · have e2 : ys[Int.toNat (i : Int)]? = none := hy.out (by rw [Int.toNat_natCast]; omega)
      rw [e2]
      cases xs[Int.toNat (i : Int)]? with
      | none =>
        dsimp only
        wp_walk using wpAny_loadPart' hl, wpAny_loadPart' hb
        exact h
      | some v =>
        dsimp only
        wp_walk using wpAny_loadPart' hl, wpAny_loadPart' hb
        exact h
  intro f
  induction f with
  | zero => intro i h1 h2; exact stop i (.inl (by omega)) h2
  | succ f ih =>
    intro i h1 h2
    by_cases z : ns.length ≤ i ∨ ms.length ≤ i
    · exact stop i z h2
    · intro prog w A R s h
      obtain ⟨hp, g, d, tk, os⟩ := s
      obtain ⟨hl, hb, h⟩ := h
      have i1 : i < ns.length := by omega
      have i2 : i < ms.length := by omega
      obtain ⟨t, ht⟩ := hx.2 i ns[i] (List.getElem?_eq_getElem i1)
      obtain ⟨u, hu⟩ := hy.2 i ms[i] (List.getElem?_eq_getElem i2)
      rw [List.drop_eq_getElem_cons i1, List.drop_eq_getElem_cons i2] at h
      generalize ns[i] = a at ht h
      generalize ms[i] = c at hu h
      wp_walk using wpAny_loadPart' hl, wpAny_loadPart' hb
      have e1 : xs[Int.toNat (i : Int)]? = some (.int a t) := ht
      have e2 : ys[Int.toNat (i : Int)]? = some (.int c u) := hu
      rw [e1, e2]
      dsimp only
      have q := EqAt.int_int (A := A.in1) (s := ⟨hp, g, d, tk, os⟩) a t c u
      by_cases ac : a = c
      · rw [show (a == c) = true from by simpa using ac] at q
        refine wpAny_bind (q prog w _ _ ?_)
        wp_walk
        refine ⟨plainId_quiet plain_eq_loop _, codeAny_builtin entry_eq_loop ?_⟩
        rw [Around.under_plainId plain_eq_loop _]
        refine ih (i + 1) (by omega) (by omega) prog w A R _ ⟨hl, hb, ?_⟩
        have h : R (.ok (.ret (.bool (if a = c then lexB (ns.drop (i + 1)) (ms.drop (i + 1)) else decide (a < c))))) _ := h
        rw [if_pos ac] at h
        exact h
      · rw [show (a == c) = false from by simpa using ac] at q
        refine wpAny_bind (q prog w _ _ ?_)
        have lt := HT.rcLt_int A.in1 ⟨hp, g, d, tk, os⟩ a t c u prog w
        wp_walk using wpAny_loadPart' hl, wpAny_loadPart' hb
        rw [e1, e2]
        wp_walk using lt
        have h : R (.ok (.ret (.bool (if a = c then lexB (ns.drop (i + 1)) (ms.drop (i + 1)) else decide (a < c))))) _ := h
        rw [if_neg ac] at h
        exact h
theorem lt_listsG (l b : Addr) (xs ys : Array Value) (n m : Nat) {ns ms : List Int} (hx : IntsAt xs ns) (hy : IntsAt ys ms) :
    Meets (Builtin.«list.__lt__» ⟨[.ref l, .ref b], []⟩)
      (fun _ R s => s.heap.get? l = some { cls := .type "list", data := .seq xs n } ∧ s.heap.get? b = some { cls := .type "list", data := .seq ys m } ∧ R (.ok (.ret (.bool (lexB ns ms)))) s) := by
  intro prog w A R s h
  obtain ⟨hp, g, d, tk, os⟩ := s
  obtain ⟨hl, hb, h⟩ := h
  have sub : isSubtype (.type "list") (.type "list") = pure true := by rw [isSubtype_type]; kernel_rfl
  wp_walk using wpAny_loadPart' hl, wpAny_loadPart' hb
  refine ⟨plainId_quiet plain_eq_loop _, codeAny_builtin entry_eq_loop ?_⟩
  rw [Around.under_plainId plain_eq_loop _]
  exact lt_loopG l b xs ys n m hx hy ns.length 0 (by omega) (by omega) prog w A R _ ⟨hl, hb, h⟩
section
variable {prog : Program} {w : World} {A : Around} {E : Value → Shared → Prop} {s : Shared}
def LisAt (h : Heap) (v : Value) (ns : List Int) : Prop := ∃ (l : Addr) (xs : Array Value) (n : Nat), v = .ref l ∧ h.get? l = some { cls := .type "list", data := .seq xs n } ∧ IntsAt xs ns
theorem oneLt_lists {x y : Value} {ns ms : List Int} {Q : Bool → Shared → Prop} (hx : LisAt s.heap x ns) (hy : LisAt s.heap y ms) (hu : A.units < cLine) (q : Q (lexB ns ms) s) : wpAny (model prog w) A (oneLt' true x y) Q E s := by
  obtain ⟨l, xs, n, rfl, e1, f1⟩ := hx
  obtain ⟨b, ys, m, rfl, e2, f2⟩ := hy
  rw [oneLt'_eq, if_pos rfl]
  refine wpAny_bind (wpAny_cRoomFor hu ?_)
  refine wpAny_bind (wpAny_callSpecialIfBound?_slot ⟨_, e1, rfl⟩ F.slot_list_lt (call_meets F.slot_list_lt ⟨_, e1, rfl⟩ F.entry_list_lt (F.args_list_lt_2 _ _) (lt_listsG l b xs ys n m f1 f2) ⟨e1, e2, ?_⟩))
  exact wpAny_truthy_bool q
end
end L2
namespace L2
open PySem PySem.Spec PyProof.Rows PySem.SeqAt
structure Hds (H : Hp) (vs : List V) (hs : List Int) : Prop where
  len : hs.length = vs.length
  up : ∀ (i : Nat) (a c : Int), hs[i]? = some a → hs[i + 1]? = some c → a < c
  head : ∀ (i : Nat) (v : V) (a : Int), vs[i]? = some v → hs[i]? = some a → ∃ (b : Addr) (ns : List Int), v = .ref b ∧ H b = some (.lst (ns.map V.int)) ∧ ns[0]? = some a
end L2
namespace L2
open PySem PySem.Spec PyProof.Rows PySem.SeqAt PySem.W
theorem lexB_irr : ∀ a : List Int, lexB a a = false
  | [] => rfl
  | x :: a => by show (if x = x then lexB a a else _) = false; rw [if_pos rfl]; exact lexB_irr a
theorem lexB_trans : ∀ {a b c : List Int}, lexB a b = true → lexB b c = true → lexB a c = true
  | [], _ :: _, _ :: _, _, _ => rfl
  | [], [], _, h, _ => by cases h
  | [], _ :: _, [], _, h => by cases h
  | _ :: _, [], _, h, _ => by cases h
  | _ :: _, _ :: _, [], _, h => by cases h
  | x :: a, y :: b, z :: c, h1, h2 => by
    have h1 : (if x = y then lexB a b else decide (x < y)) = true := h1
    have h2 : (if y = z then lexB b c else decide (y < z)) = true := h2
    show (if x = z then lexB a c else decide (x < z)) = true
    by_cases e1 : x = y
    · rw [if_pos e1] at h1
      by_cases e2 : y = z
      · rw [if_pos e2] at h2
        rw [if_pos (e1.trans e2)]
        exact lexB_trans h1 h2
      · rw [if_neg e2] at h2
        rw [if_neg (by rw [e1]; exact e2), e1]
        exact h2
    · rw [if_neg e1] at h1
      have l1 : x < y := of_decide_eq_true h1
      by_cases e2 : y = z
      · rw [if_neg (by rw [← e2]; exact e1), ← e2]
        exact h1
      · rw [if_neg e2] at h2
        have l2 : y < z := of_decide_eq_true h2
        rw [if_neg (by omega)]
        exact decide_eq_true (by omega)
theorem lexB_tot : ∀ {a b : List Int}, lexB a b = false → lexB b a = false → a = b
  | [], [], _, _ => rfl
  | [], _ :: _, h, _ => by cases h
  | _ :: _, [], _, h => by cases h
  | x :: a, y :: b, h1, h2 => by
    have h1 : (if x = y then lexB a b else decide (x < y)) = false := h1
    have h2 : (if y = x then lexB b a else decide (y < x)) = false := h2
    by_cases e : x = y
    · rw [if_pos e] at h1
      rw [if_pos e.symm] at h2
      rw [e, lexB_tot h1 h2]
    · rw [if_neg e] at h1
      rw [if_neg (fun z => e z.symm)] at h2
      have := of_decide_eq_false h1
      have := of_decide_eq_false h2
      omega
theorem countP_less {α : Type} {p q : α → Bool} : ∀ {l : List α} {x : α}, (∀ y ∈ l, p y = true → q y = true) → x ∈ l → p x = false → q x = true → l.countP p < l.countP q
  | y :: l, x, h, hx, h1, h2 => by
    rw [List.countP_cons, List.countP_cons]
    have le : l.countP p ≤ l.countP q := List.countP_mono_left fun z hz => h z (List.mem_cons_of_mem _ hz)
    rcases List.mem_cons.mp hx with e | hx
    · subst e
      rw [h1, h2, if_neg Bool.false_ne_true, if_pos rfl]
      omega
    · have := countP_less (fun z hz => h z (List.mem_cons_of_mem _ hz)) hx h1 h2
      by_cases c : p y = true
      · rw [if_pos c, if_pos (h y List.mem_cons_self c)]; omega
      · rw [if_neg c]; omega
def rkL (Ls : List (List Int)) (i : Nat) : Int := (Ls.countP fun M => lexB M (Ls.getD i []) : Nat)
theorem rkL_lt {Ls : List (List Int)} {i j : Nat} (hi : i < Ls.length) (hj : j < Ls.length) : decide (rkL Ls i < rkL Ls j) = lexB (Ls.getD i []) (Ls.getD j []) := by
  have mi : Ls.getD i [] ∈ Ls := by rw [List.getD_eq_getElem?_getD, List.getElem?_eq_getElem hi]; exact List.getElem_mem hi
  have mj : Ls.getD j [] ∈ Ls := by rw [List.getD_eq_getElem?_getD, List.getElem?_eq_getElem hj]; exact List.getElem_mem hj
  unfold rkL
  generalize Ls.getD i [] = a at mi ⊢
  generalize Ls.getD j [] = b at mj ⊢
  cases h : lexB a b with
  | true =>
    have := countP_less (l := Ls) (p := fun M => lexB M a) (q := fun M => lexB M b) (fun y _ hy => lexB_trans hy h) mi (lexB_irr a) h
    exact decide_eq_true (by omega)
  | false =>
    cases h2 : lexB b a with
    | true =>
      have := countP_less (l := Ls) (p := fun M => lexB M b) (q := fun M => lexB M a) (fun y _ hy => lexB_trans hy h2) mj (lexB_irr b) h2
      exact decide_eq_false (by omega)
    | false =>
      rw [lexB_tot h h2]
      exact decide_eq_false (by omega)
section
variable {prog : Program} {w : World} {A : Around} {E : Value → Shared → Prop} {s : Shared}
theorem LisAt.keep {h h' : Heap} {v : Value} {ns : List Int} (x : LisAt h v ns) (k : ∀ b o, h.get? b = some o → h'.get? b = some o) : LisAt h' v ns := by
  obtain ⟨l, xs, n, e1, e2, e3⟩ := x
  exact ⟨l, xs, n, e1, k _ _ e2, e3⟩
def AllLis (h : Heap) (vs : List Value) (Ls : List (List Int)) : Prop := Ls.length = vs.length ∧ ∀ (i : Nat) (v : Value) (L : List Int), vs[i]? = some v → Ls[i]? = some L → LisAt h v L
def OrdP (Ls : List (List Int)) (p : List Nat) : Prop := p.Perm (List.range Ls.length) ∧ ∀ i j, i ≤ j → j < Ls.length → lexB (Ls.getD (p.getD j 0) []) (Ls.getD (p.getD i 0) []) = false
theorem sort_lists {a : Addr} {vs : List Value} {Ls : List (List Int)} {n : Nat} {P : Fin → Shared → Prop} (ho : s.heap.get? a = some (seqObj "list" vs.toArray n)) (h64 : vs.length < 64) (hu : A.units < cLine)
    (hr : ∀ h', (∀ b o, b ≠ a → s.heap.get? b = some o → h'.get? b = some o) → AllLis h' vs Ls) (q : ∀ p : List Nat, OrdP Ls p → P (.done (.ret .none)) { s with heap := sortedHeap s.heap a vs (p.map fun i => vs.getD i Value.none).toArray }) :
    wpAny (model prog w) A (Builtin.«list.sort» ⟨[.ref a], []⟩) P E s := by
  rw [list_sort_plain]
  have la : a < s.heap.objs.size := Heap.lt_size ho
  obtain ⟨k, hk⟩ : ∃ k, (s.heap.update a (Obj.mapSeq fun _ => #[])).get? a = some (seqObj "list" #[] k) := ⟨_, get?_update_seq ho (fun _ => #[])⟩
  refine wpAny_bind (listItems_at ho rfl (wpAny_bind (listUpdate_at ho rfl (wpAny_bind (seqEpoch_at hk rfl (wpAny_bind (wpAny_newTuple (wpAny_bind (wpAny_newList (wpAny_holding ?_))))))))))
  have h6 : (((s.heap.update a (Obj.mapSeq fun _ => #[])).push (seqObj "tuple" vs.toArray 0)).push (seqObj "list" #[] 0)).get? a = some (seqObj "list" #[] k) := Heap.get?_push_of_some _ (Heap.get?_push_of_some _ hk)
  have R := hr (((s.heap.update a (Obj.mapSeq fun _ => #[])).push (seqObj "tuple" vs.toArray 0)).push (seqObj "list" #[] 0)) fun b o hb e => Heap.get?_push_of_some _ (Heap.get?_push_of_some _ ((Heap.get?_update_other _ _ (Ne.symm hb)).trans e))
  show wpAny (model prog w) A _ P E { s with heap := ((s.heap.update a (Obj.mapSeq fun _ => #[])).push (seqObj "tuple" vs.toArray 0)).push (seqObj "list" #[] 0) }
  generalize eS : ({ s with heap := ((s.heap.update a (Obj.mapSeq fun _ => #[])).push (seqObj "tuple" vs.toArray 0)).push (seqObj "list" #[] 0) } : Shared) = S
  have h6' : S.heap.get? a = some (seqObj "list" #[] k) := by rw [← eS]; exact h6
  have R' : AllLis S.heap vs Ls := by rw [← eS]; exact R
  have q' : ∀ p : List Nat, OrdP Ls p → P (.done (.ret .none)) { S with heap := S.heap.update a (Obj.mapSeq fun _ => (p.map fun i => vs.getD i Value.none).toArray) } := by rw [← eS]; exact q
  dsimp only
  have vz : vs.toArray.size = vs.length := List.size_toArray
  have big : (10000000 : Nat) ≤ sizeLine := by decide
  have fin : ∀ (st : SortSt) (p : List Nat), OrdP Ls p → (arrOf st).map (·.2) = (p.map fun i => vs.getD i Value.none).toArray → failedOf st = none → wpAny (model prog w) A (do
      let touched := (← seqEpoch a) != k
      Builtin.List.listUpdate (.ref a) fun _ => (arrOf st).map (·.2)
      if let some e := failedOf st then rule "list.sort.comparison-raised"; throw e
      if touched then rule "list.sort.modified"; raiseError "ValueError" "list modified during sort"
      ret .none) P E S := fun st p hp e1 e2 => by
    rw [e1, e2]
    have pl : p.length = vs.length := by rw [hp.1.length_eq, List.length_range, R'.1]
    refine wpAny_bind (seqEpoch_at h6' rfl ?_)
    refine wpAny_bind (listUpdate_at h6' rfl ?_ (hsz2 := by rw [List.size_toArray, List.length_map]; omega))
    simp only [bne_self_eq_false, Bool.false_eq_true, if_false]
    exact wpAny_pure (q' p hp)
  by_cases h2 : vs.toArray.size < 2
  · rw [if_pos h2, if_pos h2]
    refine wpAny_bind (wpAny_pure ?_)
    rw [StateT.run_pure]
    refine wpAny_bind (wpAny_pure ?_)
    refine fin (SortSt.mk' general' (vs.toArray.zip vs.toArray) #[] 7 none) (List.range vs.length) ⟨by rw [R'.1], fun i j hij hj => ?_⟩ ?_ rfl
    · have : i = j := by rw [R'.1] at hj; omega
      rw [this]
      exact lexB_irr _
    · have zs : (arrOf (SortSt.mk' general' (vs.toArray.zip vs.toArray) #[] 7 none)).map (·.2) = vs.toArray := zip_snd
      rw [zs]
      congr 1
      refine List.ext_getElem? fun i => ?_
      rw [List.getElem?_map]
      by_cases z : i < vs.length
      · rw [List.getElem?_range z]
        show vs[i]? = some (vs.getD i Value.none)
        rw [List.getD_eq_getElem?_getD, List.getElem?_eq_getElem z]
        rfl
      · rw [List.getElem?_eq_none (by omega), List.getElem?_eq_none (by rw [List.length_range]; omega)]
        rfl
  · rw [if_neg h2, if_neg h2]
    have n2 : 2 ≤ vs.length := by omega
    have ty : ∀ v ∈ vs, S.TypeIs v "list" := fun v hv => by
      obtain ⟨i, hi, e⟩ := List.mem_iff_getElem.mp hv
      obtain ⟨l, xs, m, rfl, e1, _⟩ := R'.2 i v (Ls[i]'(by rw [R'.1]; exact hi)) (by rw [List.getElem?_eq_getElem hi, e]) (List.getElem?_eq_getElem (by rw [R'.1]; exact hi))
      exact ⟨_, e1, rfl⟩
    refine wpAny_bind (kind_lists (by intro z; subst z; simp at h2) ty ?_)
    have est : SortSt.mk' oneType' (vs.toArray.zip vs.toArray) #[] 7 none = kas_st oneType' (pairsOf vs) (List.toArray (List.range vs.length)) := by
      have e := kas_range (pairsOf vs)
      rw [pairsOf_size] at e
      show SortSt.mk' oneType' (pairsOf vs) #[] 7 none = SortSt.mk' oneType' ((List.toArray (List.range vs.length)).map (kas_item (pairsOf vs))) #[] 7 none
      rw [e]
    have at_ : ∀ i, i < vs.length → LisAt S.heap (kas_item (pairsOf vs) i).1 (Ls.getD i []) := fun i hi => by
      rw [kas_item_eq]
      have i2 : i < Ls.length := by rw [R'.1]; exact hi
      refine R'.2 i _ _ ?_ ?_
      · show vs[i]? = some (vs.getD i Value.none)
        rw [List.getD_eq_getElem?_getD, List.getElem?_eq_getElem hi]; rfl
      · rw [List.getD_eq_getElem?_getD, List.getElem?_eq_getElem i2]; rfl
    have ask : (kas_sort vs.length).kasWp (kas_cmp prog w A oneType' (pairsOf vs)) (fun p s' => s' = S ∧ p.Perm (List.toArray (List.range vs.length)) ∧ p.size = vs.length ∧ Srt (rkL Ls) vs.length p) S :=
      KSat.wp (fun i j C hi hj h => by
        unfold kas_cmp
        rw [keyLt'_oneType]
        refine oneLt_lists (at_ i hi) (at_ j hj) hu ?_
        rw [← rkL_lt (by rw [R'.1]; exact hi) (by rw [R'.1]; exact hj)]
        exact h) (sort_sat (rk := rkL Ls) (n := vs.length) (by omega)) fun p hp => ⟨rfl, hp⟩
    have run := kas_runs (E := E) (Q := fun _ st' s' => s' = S ∧ ∃ p : Array Nat, arrOf st' = p.map (kas_item (pairsOf vs)) ∧ failedOf st' = none ∧ p.Perm (List.toArray (List.range vs.length)) ∧ p.size = vs.length ∧ Srt (rkL Ls) vs.length p)
      n2 h64 (fun p' st' s' a1 a2 a3 a4 => ⟨a4.1, p', a2, a3, a4.2⟩) ask
    rw [← est] at run
    refine wpAny_bind (wpAny_mono run ?_ fun _ _ e => e)
    rintro ⟨⟨⟩, st⟩ s' ⟨rfl, p, har, hf, pm, ps, hs⟩
    refine fin st p.toList ⟨?_, fun i j hij hj => ?_⟩ ?_ hf
    · rw [R'.1]
      exact Array.perm_iff_toList_perm.mp pm
    · have bd := Bdd.of (N := vs.length) (by omega) pm fun x hx => List.mem_range.mp hx
      have hj' : j < vs.length := by rw [← R'.1]; exact hj
      have le := hs i j hij hj'
      have e1 : ∀ i, p.toList.getD i 0 = p.getD i 0 := fun i => by rw [List.getD_eq_getElem?_getD, Array.getElem?_toList, Array.getD_eq_getD_getElem?]
      rw [e1, e1, ← rkL_lt (by rw [R'.1]; exact bd j) (by rw [R'.1]; exact bd i)]
      unfold KP at le
      exact decide_eq_false (by omega)
    · apply Array.toList_inj.mp
      rw [har, Array.map_map, Array.toList_map]
      exact List.map_congr_left fun i _ => by show (kas_item (pairsOf vs) i).2 = _; rw [kas_item_eq]
end
end L2
namespace Sw
open PySem L2
def Cov (n : Int) (Ls : List (List Int)) : Prop := (∀ L ∈ Ls, L ≠ []) ∧ Ls.flatten.Perm (ivl 1 (n + 1))
theorem ivl_nodup3 (n : Int) : (ivl 1 (n + 1)).Nodup := (ord_plain n).nodup
theorem ivl_mem3 {n x : Int} : x ∈ ivl 1 (n + 1) ↔ 1 ≤ x ∧ x ≤ n := (ord_plain n).mem
theorem Cov.fine {n : Int} {Ls : List (List Int)} (h : Cov n Ls) : Fine n Ls := by
  refine ⟨fun L hL => ⟨h.1 L hL, fun x hx => ivl_mem3.mp (h.2.mem_iff.mp (List.mem_flatten.mpr ⟨L, hL, hx⟩))⟩, h.2.symm.nodup (ivl_nodup3 n)⟩
theorem Cov.all {n x : Int} {Ls : List (List Int)} (h : Cov n Ls) (h1 : 1 ≤ x) (h2 : x ≤ n) : x ∈ Ls.flatten := h.2.mem_iff.mpr (ivl_mem3.mpr ⟨h1, h2⟩)
theorem pick_perm {α : Type} (d : α) {Ls : List α} {π : List Nat} (h : π.Perm (List.range Ls.length)) : (π.map fun i => Ls.getD i d).Perm Ls := by
  have := h.map fun i => Ls.getD i d
  refine this.trans (List.Perm.of_eq ?_)
  apply List.ext_getElem?
  intro i
  rw [List.getElem?_map]
  by_cases hi : i < Ls.length
  · rw [List.getElem?_range hi, Option.map_some, List.getD_eq_getElem?_getD, List.getElem?_eq_getElem hi]; rfl
  · rw [List.getElem?_eq_none (by rw [List.length_range]; omega), List.getElem?_eq_none (by omega)]; rfl
end Sw
namespace L2
open PySem PySem.Spec PyProof.Rows
def Up (l : List Nat) : Prop := l.Pairwise (· < ·)
def TUp (t : SetTable) : Prop := Up t.place.toList
end L2
namespace L2
open PySem PySem.Spec PyProof.Rows
structure TabOk (w : World) (t : SetTable) (n : Nat) : Prop where
  fits : t.fits n = true
  up : TUp t
  led : t.led = !(w.params.followText "set-order")
end L2
namespace L2
open PySem PySem.Spec PyProof.Rows
def keyI (e : Int × Value) : Int := match e.2 with | .int n _ => n | _ => 0
structure RelI (prog : Program) (w : World) (ns : List Int) (i : Nat) (es : Array (Int × Value)) (t : SetTable) : Prop where
  tab : TabOk w t es.size
  few : es.size ≤ i
  els : ElemsOf (intKind prog w) es.toList
  one : (es.toList.map keyI).Nodup
  mem : ∀ k, k ∈ es.toList.map keyI ↔ k ∈ ns.take i
end L2
namespace L2
open PySem PySem.Spec PyProof.Rows
section
variable {prog : Program} {w : World} {A : Around} {E : Value → Shared → Prop} {s : Shared} {W : Addr → List Int → Prop}
abbrev TupK (prog : Program) (w : World) (h : Heap) (ks : List Int) (a : Addr) : Prop := IsTupleKey (intKind prog w) h ks a
def hshT (ns : List Int) : Int := reduceHash (Builtin.Tuple.tupleHashOf (ns.map hashInt))
def hAt (ks : List (List Int)) (i : Nat) : Int := ((ks[i]?).map hshT).getD 0
def addP (ks : List (List Int)) (t : SetTable) (x : List Int) : Option (List (List Int) × SetTable) :=
  if t.gaveWay then none else
  match t.probe (hAt ks) (hshT x) (t.probeStart (hshT x)) with
  | some (.candidate _ i _) => if ks[i]? = some x then some (ks, t) else none
  | some (.empty j none) =>
    let kn := ks.take (t.put j).2 ++ x :: ks.drop (t.put j).2
    if (t.put j).1.fits (ks.length + 1) then
      if (t.put j).1.tooFull then
        if SetTable.sizeAbove (SetTable.grown (ks.length + 1)) ≤ 100000 then
          match (t.put j).1.relaid (kn.map hshT).toArray (SetTable.grown (ks.length + 1)) with
          | some (t2, o) => if (o.toList.filterMap (kn[·]?)).length = ks.length + 1 ∧ t2.fits (ks.length + 1) = true then some (o.toList.filterMap (kn[·]?), t2) else none
          | none => none
        else none
      else some (kn, (t.put j).1)
    else none
  | _ => none
def EsT (prog : Program) (w : World) (W : Addr → List Int → Prop) (h : Heap) (es : Array (Int × Value)) (ks : List (List Int)) : Prop := Paired (fun (e : Int × Value) (k : List Int) => e.1 = hshT k ∧ ∃ a, e.2 = .ref a ∧ TupK prog w h k a ∧ W a k) es.toList ks
end
end L2
namespace L2
open PySem PySem.Spec PyProof.Rows
section
variable {prog : Program} {w : World} {A : Around} {E : Value → Shared → Prop} {s : Shared} {W : Addr → List Int → Prop}
def simT (led : Bool) (xs : List (List Int)) : Option (List (List Int) × SetTable) := xs.foldlM (fun st x => addP st.1 st.2 x) ([], SetTable.fresh 0 0 led)
structure RelT (prog : Program) (w : World) (W : Addr → List Int → Prop) (h₀ : Heap) (led : Bool) (xs : List (List Int)) (i : Nat) (es : Array (Int × Value)) (t : SetTable) : Prop where
  ex : ∃ ks, EsT prog w W h₀ es ks ∧ t.fits ks.length = true ∧ ks.length ≤ i ∧ simT led (xs.take i) = some (ks, t)
end
end L2
namespace L2
open PySem
def runB (l : List Int) (b : Bool) : List Int := if b then l ++ [1] else l.dropLast ++ [l.getLastD 0 + 1]
def runsB (c : Nat) : Nat → List Int
  | 0 => [1]
  | k + 1 => runB (runsB c k) (c / 2 ^ k % 2 == 1)
def insD (x : Int) : List Int → List Int
  | [] => [x]
  | y :: l => if x ≥ y then x :: y :: l else y :: insD x l
def fallD : List Int → List Int
  | [] => []
  | x :: l => insD x (fallD l)
def cutsB (n : Nat) : List (List Int) := (List.range (2 ^ (n - 1))).map fun c => fallD (runsB c (n - 1))
end L2
namespace L2
open PySem PySem.Spec PyProof.Rows PySem.SeqAt PySem.W
theorem Vals.pick {vs : List V} {us : List Value} (r : Vals vs us) : ∀ {p : List Nat}, (∀ i ∈ p, i < vs.length) → Vals (p.map fun i => vs.getD i .non) (p.map fun i => us.getD i Value.none)
  | [], _ => .nil
  | i :: p, h => by
    have hi := h i List.mem_cons_self
    obtain ⟨u, hu, ru⟩ := r.get (i := i) (x := vs[i]) (List.getElem?_eq_getElem hi)
    refine .cons ?_ (Vals.pick r fun j hj => h j (List.mem_cons_of_mem _ hj))
    dsimp only
    rw [List.getD_eq_getElem?_getD, List.getD_eq_getElem?_getD, hu, List.getElem?_eq_getElem hi]
    exact ru
def LssAt (H : Hp) (vs : List V) (Ls : List (List Int)) : Prop := Ls.length = vs.length ∧ ∀ (i : Nat) (v : V) (L : List Int), vs[i]? = some v → Ls[i]? = some L → ∃ b : Addr, v = .ref b ∧ H b = some (.lst (L.map V.int))
section
variable {X : Cx} {K : PySem.W.Frag} {pins : List (Addr × Obj)} {σ : St} {H : Hp} {s : Shared}
theorem LssAt.at {vs : List V} {us : List Value} {Ls : List (List Int)} (I : Inv X pins σ H s) (r : Vals vs us) (h : LssAt H vs Ls) : AllLis s.heap us Ls := by
  have len := r.length
  refine ⟨by rw [h.1, len], fun i u L hu hL => ?_⟩
  have iv : i < vs.length := by
    have := (List.getElem?_eq_some_iff.mp hu).1
    omega
  obtain ⟨b, e1, e2⟩ := h.2 i vs[i] L (List.getElem?_eq_getElem iv) hL
  obtain ⟨u', hu', ru⟩ := r.get (i := i) (x := vs[i]) (List.getElem?_eq_getElem iv)
  rw [hu] at hu'
  cases hu'
  rw [e1] at ru
  cases ru
  obtain ⟨z, its, n, rv, hl, e⟩ := I.lstM e2
  have il := rv.length
  rw [List.length_map] at il
  refine ⟨b, its.toArray, n, rfl, e, by rw [List.size_toArray]; omega, fun j a ha => ?_⟩
  obtain ⟨w', hw, rw'⟩ := rv.get (i := j) (x := .int a) (by rw [List.getElem?_map, ha]; rfl)
  obtain ⟨t, rfl⟩ := rw'
  exact ⟨t, by rw [List.getElem?_toArray]; exact hw⟩
theorem AllLis.keep {h h' : Heap} {vs : List Value} {Ls : List (List Int)} (x : AllLis h vs Ls) (k : ∀ b o, h.get? b = some o → h'.get? b = some o) : AllLis h' vs Ls := ⟨x.1, fun i v L e1 e2 => (x.2 i v L e1 e2).keep k⟩
theorem sorted_fromL {β : Type} {A : Around} {E : Value → Shared → Prop} {prog : Program} {w : World} {S : Shared} {us : List Value} {Ls : List (List Int)} {Q : β → Shared → Prop} {k : Value → Sem β} (hu : A.in1.units < cLine) (h64 : us.length < 64) (hr : AllLis S.heap us Ls)
    (q : ∀ (p : List Nat), OrdP Ls p → ∀ h' n, (∀ b o, S.heap.get? b = some o → h'.get? b = some o) → h'.get? S.heap.objs.size = some { cls := .type "list", data := .seq (p.map fun i => us.getD i Value.none).toArray n } → wpAny (model prog w) A (k (.ref S.heap.objs.size)) Q E { S with heap := h' }) :
    wpAny (model prog w) A (newList us >>= fun l => holding [l] (call (.builtin "list.sort") [l]) >>= fun _ => k l) Q E S := by
  have hL : (S.heap.push (seqObj "list" us.toArray 0)).get? S.heap.objs.size = some (seqObj "list" us.toArray 0) := Heap.get?_push_size _ rfl
  refine wpAny_bind (wpAny_newList ?_)
  refine wpAny_bind (wpAny_holding (wpAny_call_entry slot_list_sort ⟨_, hL, rfl⟩ entry_list_sort (sort_lists (s := { S with heap := S.heap.push (seqObj "list" us.toArray 0) }) (Ls := Ls) hL h64 hu (fun h' k => ?_) fun p hp => ⟨_, rfl, ?_⟩) (args_list_sort _)))
  · exact hr.keep fun b o e => k b o (Nat.ne_of_lt (Heap.lt_size e)) (Heap.get?_push_of_some _ e)
  · obtain ⟨e, he⟩ := sortedHeap_at (vs := us) (out := (p.map fun i => us.getD i Value.none).toArray) (n := 0) hL
    refine q p hp _ e (fun b o hb => ?_) he
    have hlt := Heap.lt_size hb
    rw [sortedHeap_old (Nat.ne_of_lt hlt) (by rw [size_push']; exact Nat.lt_succ_of_lt hlt)]
    exact Heap.get?_push_of_some _ hb
def rSortLL (K : PySem.W.Frag) : List V → Hp → VK → Prop := fun xs H Q => ∃ (p : Addr) (vs : List V) (Ls : List (List Int)), xs = [.ref p] ∧ SqL K H p vs ∧ vs.length < 64 ∧ LssAt H vs Ls ∧ ∀ (l : Addr) (π : List Nat), H l = none → OrdP Ls π → Q (.ref l) (upd H l (.lst (π.map fun i => vs.getD i .non)))
theorem call_sortedLL (hK : X.K = K) (hu : X.A.units + 64 < cLine) : CallR X (.builtin "sorted") (rSortLL K) := by
  subst hK
  intro pins s σ H xs us Q I r h
  obtain ⟨p, vs, Ls, rfl, hp, hz, hd, q⟩ := h
  obtain ⟨u, rfl, ru⟩ := vals1 r
  cases ru
  obtain ⟨its, rv, pl, _⟩ := I.list hp
  have len := rv.length
  have all := hd.at I rv
  have big : (10000000 : Nat) ≤ sizeLine := by decide
  refine Calls.call_function_entry kind_sorted plain_sorted entry_sorted (args_sorted1 _) ?_
  unfold Builtin.«sorted»
  refine wpAny_bind (m := checkCount "sorted" 1 1 _) (wpAny_pure ?_)
  have kp : ∀ b o, s.heap.get? b = some o → ((s.heap.push (seqObj "list" #[] 0)).update s.heap.objs.size (Obj.mapSeq (· ++ its.toArray))).get? b = some o := fun b o e => (Heap.get?_update_other _ _ (Ne.symm (Nat.ne_of_lt (Heap.lt_size e)))).trans (Heap.get?_push_of_some _ e)
  refine wpAny_bind (collect_list pl.isList ?_ (by omega))
  refine sorted_fromL (S := { s with heap := (s.heap.push (seqObj "list" #[] 0)).update s.heap.objs.size (Obj.mapSeq (· ++ its.toArray)) }) (Ls := Ls) ?_ (by omega) (all.keep kp) fun π hπ h' n k1 k2 => ?_
  · have : X.A.in1.in1.units ≤ X.A.units + 2 := by show _ ≤ _; first | exact Nat.le_refl _ | exact Nat.le_succ _ | omega
    omega
  · refine wpAny_pure ⟨_, rfl, ?_⟩
    have πl : π.length = vs.length := by rw [hπ.1.length_eq, List.length_range, hd.1]
    have le : s.heap.objs.size ≤ ((s.heap.push (seqObj "list" #[] 0)).update s.heap.objs.size (Obj.mapSeq (· ++ its.toArray))).objs.size := by rw [Heap.size_update, size_push']; exact Nat.le_succ _
    have pv : Vals (π.map fun i => vs.getD i .non) (π.map fun i => its.getD i Value.none) := rv.pick fun i hi => by have := List.mem_range.mp (hπ.1.mem_iff.mp hi); rw [hd.1] at this; exact this
    exact ⟨.ref _, _, I.laid (o := .lst (π.map fun i => vs.getD i .non)) (fun b o e => k1 _ _ (kp b o e)) le ⟨by rw [List.length_map]; omega, _, n, pv, k2⟩, rfl, q _ π (I.hok.fresh le) hπ⟩
end
end L2
namespace L2
open PySem
def kL : Nat → List (List Int)
  | 1 => [[1]]
  | 2 => [[1, 1], [2]]
  | 3 => [[1, 1, 1], [2, 1], [3]]
  | 4 => [[1, 1, 1, 1], [2, 1, 1], [2, 2], [3, 1], [4]]
  | 5 => [[1, 1, 1, 1, 1], [2, 1, 1, 1], [2, 2, 1], [3, 1, 1], [3, 2], [4, 1], [5]]
  | 6 => [[1, 1, 1, 1, 1, 1], [2, 1, 1, 1, 1], [2, 2, 1, 1], [2, 2, 2], [3, 1, 1, 1], [3, 2, 1], [3, 3], [4, 1, 1], [4, 2], [5, 1], [6]]
  | 7 => [[1, 1, 1, 1, 1, 1, 1], [2, 1, 1, 1, 1, 1], [2, 2, 1, 1, 1], [2, 2, 2, 1], [3, 1, 1, 1, 1], [3, 2, 1, 1], [3, 2, 2], [3, 3, 1], [4, 1, 1, 1], [4, 2, 1], [4, 3], [5, 1, 1], [5, 2], [6, 1], [7]]
  | 8 => [[1, 1, 1, 1, 1, 1, 1, 1], [2, 1, 1, 1, 1, 1, 1], [2, 2, 1, 1, 1, 1], [2, 2, 2, 1, 1], [2, 2, 2, 2], [3, 1, 1, 1, 1, 1], [3, 2, 1, 1, 1], [3, 2, 2, 1], [3, 3, 1, 1], [3, 3, 2], [4, 1, 1, 1, 1], [4, 2, 1, 1], [4, 2, 2], [4, 3, 1], [4, 4], [5, 1, 1, 1], [5, 2, 1], [5, 3], [6, 1, 1], [6, 2], [7, 1], [8]]
  | 9 => [[1, 1, 1, 1, 1, 1, 1, 1, 1], [2, 1, 1, 1, 1, 1, 1, 1], [2, 2, 1, 1, 1, 1, 1], [2, 2, 2, 1, 1, 1], [2, 2, 2, 2, 1], [3, 1, 1, 1, 1, 1, 1], [3, 2, 1, 1, 1, 1], [3, 2, 2, 1, 1], [3, 2, 2, 2], [3, 3, 1, 1, 1], [3, 3, 2, 1], [3, 3, 3], [4, 1, 1, 1, 1, 1], [4, 2, 1, 1, 1], [4, 2, 2, 1], [4, 3, 1, 1], [4, 3, 2], [4, 4, 1], [5, 1, 1, 1, 1], [5, 2, 1, 1], [5, 2, 2], [5, 3, 1], [5, 4], [6, 1, 1, 1], [6, 2, 1], [6, 3], [7, 1, 1], [7, 2], [8, 1], [9]]
  | 10 => [[1, 1, 1, 1, 1, 1, 1, 1, 1, 1], [2, 1, 1, 1, 1, 1, 1, 1, 1], [2, 2, 1, 1, 1, 1, 1, 1], [2, 2, 2, 1, 1, 1, 1], [2, 2, 2, 2, 1, 1], [2, 2, 2, 2, 2], [3, 1, 1, 1, 1, 1, 1, 1], [3, 2, 1, 1, 1, 1, 1], [3, 2, 2, 1, 1, 1], [3, 2, 2, 2, 1], [3, 3, 1, 1, 1, 1], [3, 3, 2, 1, 1], [3, 3, 2, 2], [3, 3, 3, 1], [4, 1, 1, 1, 1, 1, 1], [4, 2, 1, 1, 1, 1], [4, 2, 2, 1, 1], [4, 2, 2, 2], [4, 3, 1, 1, 1], [4, 3, 2, 1], [4, 3, 3], [4, 4, 1, 1], [4, 4, 2], [5, 1, 1, 1, 1, 1], [5, 2, 1, 1, 1], [5, 2, 2, 1], [5, 3, 1, 1], [5, 3, 2], [5, 4, 1], [5, 5], [6, 1, 1, 1, 1], [6, 2, 1, 1], [6, 2, 2], [6, 3, 1], [6, 4], [7, 1, 1, 1], [7, 2, 1], [7, 3], [8, 1, 1], [8, 2], [9, 1], [10]]
  | _ => []
structure KinOk (n : Nat) (ks : List (List Int)) (t : SetTable) : Prop where
  sim : simT true (cutsB n) = some (ks, t)
  up : TUp t
  perm : ks.Perm (kL n)
  sort : (kL n).Pairwise fun a b => lexB b a = false
  full : ∀ k ∈ kL n, k ≠ []
  some : kL n ≠ []
  few : (kL n).length < 64
end L2
namespace Sw
open PySem L2
theorem rise_uniq {a b : List Int} (ha : a.Pairwise (· < ·)) (hb : b.Pairwise (· < ·)) (h : ∀ x, x ∈ a ↔ x ∈ b) : a = b := by
  have pa : a.Nodup := ha.imp fun h => Int.ne_of_lt h
  have pb : b.Nodup := hb.imp fun h => Int.ne_of_lt h
  have p : a.Perm b := (List.perm_ext_iff_of_nodup pa pb).mpr h
  exact List.Perm.eq_of_pairwise (le := (· < ·)) (fun x y _ _ h1 h2 => by omega) ha hb p
theorem ivl_riseS (a b : Int) : (ivl a b).Pairwise (· < ·) := by
  unfold ivl
  refine List.pairwise_map.mpr (List.Pairwise.imp (fun h => ?_) List.pairwise_lt_range)
  omega
structure Shg (n : Int) (Ls : List (List Int)) (hs : List Int) : Prop where
  ne : ∀ L ∈ Ls, L ≠ []
  rise : ∀ L ∈ Ls, L.Pairwise (· < ·)
  hl : hs.length = Ls.length
  hup : hs.Pairwise (· < ·)
  head : ∀ (i : Nat) (L : List Int) (a : Int), Ls[i]? = some L → hs[i]? = some a → L[0]? = some a
  cov : Ls.flatten.Perm (ivl 1 (n + 1))
end Sw
namespace Sw
open PySem L2
def Half (n : Int) (Ls : List (List Int)) (xs : List Int) : Prop := ∀ L ∈ Ls, ∀ x ∈ L, (∃ p ∈ L, p < x ∧ (∀ y ∈ L, ¬ (p < y ∧ y < x)) ∧ ld xs x = p + 1) ∨ ((∀ y ∈ L, x ≤ y) ∧ ∃ M ∈ L, (∀ y ∈ L, y ≤ M) ∧ ld xs x = M % n + 1)
end Sw
namespace Sw
open PySem L2
theorem perm_all : ∀ {as bs : List Int}, as.Nodup → (∀ x ∈ as, x ∈ bs) → bs.length = as.length → bs.Perm as
  | [], bs, _, _, l => by rw [List.length_eq_zero_iff.mp l]
  | a :: as, bs, nd, h, l => by
    rw [List.nodup_cons] at nd
    have ha := h a List.mem_cons_self
    refine (List.perm_cons_erase ha).trans (List.Perm.cons a (perm_all nd.2 (fun x hx => ?_) ?_))
    · exact (List.mem_erase_of_ne (by rintro rfl; exact nd.1 hx)).mpr (h x (List.mem_cons_of_mem _ hx))
    · rw [List.length_erase_of_mem ha, l, List.length_cons]; omega
theorem ord_sur {n : Int} {xs : List Int} (l : xs.length = n.toNat) (h : ∀ y, 1 ≤ y → y ≤ n → y ∈ xs) : Ord n xs := by
  refine perm_all (ivl_nodup3 n) (fun x hx => ?_) (by rw [ivl_length, l]; omega)
  have := ivl_mem3.mp hx
  exact h x this.1 this.2
theorem at_prev {L : List Int} {i : Nat} (h : i < L.length) : ∃ j p, L[j]? = some p ∧ (j + 1) % L.length = i ∧ (i ≠ 0 → j + 1 = i) ∧ (i = 0 → j + 1 = L.length) := by
  by_cases c : i = 0
  · exact ⟨L.length - 1, _, List.getElem?_eq_getElem (by omega), by rw [show L.length - 1 + 1 = L.length by omega, Nat.mod_self, c], fun z => absurd c z, fun _ => by omega⟩
  · exact ⟨i - 1, _, List.getElem?_eq_getElem (by omega), by rw [show i - 1 + 1 = i by omega, Nat.mod_eq_of_lt h], fun _ => by omega, fun z => absurd z c⟩
section
variable {n : Int} {Ls : List (List Int)}
theorem made_ord (c : Cov n Ls) : Ord n (madeM n Ls) := by
  refine ord_sur (madeM_length n Ls) fun y h1 h2 => ?_
  obtain ⟨L, hL, hy⟩ := List.mem_flatten.mp (c.all h1 h2)
  obtain ⟨i, hi, rfl⟩ := List.getElem_of_mem hy
  obtain ⟨j, p, hp, e, _⟩ := at_prev hi
  have cy := (fine_rnds c.fine).cyc L hL
  obtain ⟨p1, p2, p3⟩ := cy.2 j p hp
  rw [e, List.getElem?_eq_getElem hi] at p3
  rw [Option.some.inj p3]
  have : (p - 1).toNat < (madeM n Ls).length := by rw [madeM_length]; omega
  unfold ld
  rw [List.getD_eq_getElem?_getD, List.getElem?_eq_getElem this]
  exact List.getElem_mem _
end
end Sw
namespace Sw
open PySem L2
structure HalfD (n : Int) (Ls : List (List Int)) (xs : List Int) : Prop where
  o : Ord n xs
  nd : Ls.flatten.Perm (ivl 1 (n + 1))
  nx : NonX Ls
  hf : Half n Ls xs
end Sw
namespace Sw
open PySem L2
theorem Lsts.lssB {H : Hp} {vs : List V} {Ls : List (List Int)} (x : Lsts H vs Ls) : LssAt H vs Ls := by
  refine ⟨x.length.symm, fun i v L hv hL => ?_⟩
  obtain ⟨a, ns, rfl, ha, hn⟩ := x.get hv
  rw [hL] at hn
  cases hn
  exact ⟨a, rfl, ha⟩
theorem Lsts.pickB {H : Hp} {vs : List V} {Ls : List (List Int)} (x : Lsts H vs Ls) : ∀ (π : List Nat), (∀ i ∈ π, i < Ls.length) → Lsts H (π.map fun i => vs.getD i .non) (π.map fun i => Ls.getD i [])
  | [], _ => .nil
  | i :: π, h => by
    have hi := h i (List.mem_cons_self ..)
    have wl := x.length
    obtain ⟨v, hv⟩ : ∃ v, vs[i]? = some v := ⟨_, List.getElem?_eq_getElem (by omega)⟩
    obtain ⟨a, ns, rfl, ha, hn⟩ := x.get hv
    rw [List.map_cons, List.map_cons, List.getD_eq_getElem?_getD, List.getD_eq_getElem?_getD, hv, hn]
    exact .cons ha (x.pickB π fun j hj => h j (List.mem_cons_of_mem _ hj))
theorem pick_ordB {Gs Ss : List (List Int)} {π : List Nat} (op : OrdP Gs π) (pm : Gs.Perm Ss) (hs : Ss.Pairwise fun a b => lexB b a = false) : (π.map fun i => Gs.getD i []) = Ss := by
  have p1 := pick_perm ([] : List Int) op.1
  have pl := op.1.length_eq
  rw [List.length_range] at pl
  refine List.Perm.eq_of_pairwise (le := fun a b => lexB b a = false) (fun x y _ _ h1 h2 => lexB_tot h2 h1) ?_ hs (p1.trans pm)
  rw [List.pairwise_map, List.pairwise_iff_getElem]
  intro i j hi hj ij
  have := op.2 i j (by omega) (by omega)
  rw [List.getD_eq_getElem?_getD (l := π), List.getD_eq_getElem?_getD (l := π), List.getElem?_eq_getElem hi, List.getElem?_eq_getElem hj] at this
  exact this
theorem sortLB {K : PySem.W.Frag} {H : Hp} {p : Addr} {vs : List V} {Ls : List (List Int)} {Q : VK} (h : H p = some (.lst vs)) (x : Lsts H vs Ls) (ll : Ls.length < 64)
    (k : ∀ l us Ms H', H l = none → H' l = some (.lst us) → Lsts H' us Ms → Ms.Perm Ls → Same H H' → (∀ Ss : List (List Int), Ls.Perm Ss → (Ss.Pairwise fun a b => lexB b a = false) → Ms = Ss) → Ms.Pairwise (fun a b => lexB b a = false) → (∀ v ∈ us, v ∈ vs) → (vs.Nodup → us.Nodup) → Q (.ref l) H') : rSortLL K [.ref p] H Q := by
  refine ⟨p, vs, Ls, rfl, SqL.of h, by rw [x.length]; exact ll, x.lssB, fun l π fl op => ?_⟩
  have wl := x.length
  have pv : (π.map fun i => vs.getD i V.non).Perm vs := pick_perm V.non (by rw [wl]; exact op.1)
  refine k l _ (π.map fun i => Ls.getD i []) _ fl upd_same ((x.pickB π fun i hi => ?_).keep (Same.new fl)) (pick_perm [] op.1) (Same.new fl) (fun Ss pm hs => pick_ordB op pm hs) ?_ (fun v hv => pv.mem_iff.mp hv) (fun nd => pv.nodup_iff.mpr nd)
  · exact List.mem_range.mp (op.1.mem_iff.mp hi)
  · have pl := op.1.length_eq
    rw [List.length_range] at pl
    rw [List.pairwise_map, List.pairwise_iff_getElem]
    intro i j hi hj ij
    have := op.2 i j (by omega) (by omega)
    rw [List.getD_eq_getElem?_getD (l := π), List.getD_eq_getElem?_getD (l := π), List.getElem?_eq_getElem hi, List.getElem?_eq_getElem hj] at this
    exact this
end Sw
namespace Sw
open PySem L2
theorem perm_allL {α : Type} [DecidableEq α] : ∀ {as bs : List α}, as.Nodup → (∀ x ∈ as, x ∈ bs) → bs.length = as.length → as.Perm bs
  | [], bs, _, _, l => by rw [List.length_eq_zero_iff.mp l]
  | a :: as, bs, nd, h, l => by
    rw [List.nodup_cons] at nd
    have ha := h a List.mem_cons_self
    refine (List.Perm.cons a (perm_allL nd.2 (fun x hx => ?_) ?_)).trans (List.perm_cons_erase ha).symm
    · exact (List.mem_erase_of_ne (by rintro rfl; exact nd.1 hx)).mpr (h x (List.mem_cons_of_mem _ hx))
    · rw [List.length_erase_of_mem ha, l, List.length_cons]; omega
end Sw
namespace Sw
open PySem L2
section
variable {n : Int} {Ls Ms : List (List Int)}
structure JoinD (n : Int) (Ls Ms : List (List Int)) (A B C : List Int) : Prop where
  cL : Cov n Ls
  rL : ∀ L ∈ Ls, L.Pairwise (· < ·)
  xL : NonX Ls
  cM : Cov n Ms
  rM : ∀ L ∈ Ms, L.Pairwise (· < ·)
  hA : A ∈ Ls
  hB : B ∈ Ls
  AB : A ≠ B
  hC : C ∈ Ms
  mC : ∀ x, x ∈ C ↔ x ∈ A ∨ x ∈ B
  rest : ∀ L ∈ Ls, L ≠ A → L ≠ B → L ∈ Ms
end
end Sw
namespace Sw
open PySem L2
structure Gsd (n : Int) (S : List (List Int)) : Prop where
  cv : Cov n S
  rise : ∀ L ∈ S, L.Pairwise (· < ·)
  nx : NonX S
  srt : S.Pairwise fun a b => lexB b a = false
def alone (n : Int) : List (List Int) := (ivl 1 (n + 1)).map fun x => [x]
structure Chd (n : Int) (SS : List (List (List Int))) : Prop where
  first : SS[0]? = some (alone n)
  good : ∀ S ∈ SS, Gsd n S
  len : ∀ (t : Nat) (S : List (List Int)), SS[t]? = some S → S.length + t = n.toNat
  step : ∀ (t : Nat) (S S' : List (List Int)), SS[t]? = some S → SS[t + 1]? = some S' → ∃ A B C, JoinD n S S' A B C
end Sw
namespace L2
open PySem PySem.Spec PyProof.Rows
abbrev WK := List V → St → Hp → Prop
abbrev IN := List V → St → Hp → WK → Prop
def wElt (te : TE) : IN := fun ys σ H R => ys.length < sizeLine ∧ te σ H fun v H5 => R (ys ++ [v]) σ H5
def wLoop (g : TG) (tc : TT) (inn : IN) (J : It) : IN := fun ys σ H R =>
  ∃ W : WC, (∃ m, W 0 m ys σ H) ∧ ∀ i m ys' σ' H', W i m ys' σ' H' →
    (J.stop i H' ∧ R ys' σ' H') ∨
    (J.go i H' ∧ ∀ x H2, J.yld i H' x H2 → g x σ' H2 fun σ2 H3 => tc σ2 H3 fun b H4 => if b = true then inn ys' σ2 H4 (fun ys2 σ3 H5 => ∃ m', m' < m ∧ W (i + 1) m' ys2 σ3 H5) else ∃ m', m' < m ∧ W (i + 1) m' ys' σ2 H4)
def wGen (wi : TI) (g : TG) (tc : TT) (inn : IN) : IN := fun ys σ H R => wi σ H fun J H4 => wLoop g tc inn J ys σ H4 R
def Lob (its : List Value) (k : Nat) : Obj := { cls := .type "list", data := .seq its.toArray k }
structure DOk (Y : Cx) (base : List (Addr × Obj)) (D : Addr) : Prop where
  loc : D ≠ Y.env.locals
  sz : Y.s₀.heap.objs.size ≤ D
  cel : ∀ x c, Y.env.cells.lookup x = some c → c ≠ D
  pin : ∀ p ∈ Y.pn ++ base, p.1 ≠ D
inductive Chain (Y : Cx) (gens : List Comprehension) (elt : Expr) : Nat → IN → Prop
  | last {d : Nat} {te : TE} (hn : gens[d + 1]? = none) (he : PE Y elt te) : Chain Y gens elt d (wElt te)
  | more {d : Nat} {t i : Expr} {ifs : List Expr} {wi : TI} {g : TG} {tc : TT} {inn : IN} (hd : gens[d + 1]? = some ⟨t, i, ifs, 0⟩) (hi : PI Y t i wi) (hg : PG Y t g) (ht : PIf Y ifs tc) (hs : ∀ x, foldedSetIterable i Y.env x = pure x) (rest : Chain Y gens elt (d + 1) inn) : Chain Y gens elt d (wGen wi g tc inn)
section
variable {Y : Cx} {base : List (Addr × Obj)} {D : Addr} {elt : Expr} {gens : List Comprehension} {scope : Scope} {pos : Pos}
def At (Y : Cx) (base : List (Addr × Obj)) (D : Addr) (P : List (Addr × Obj)) (R : WK) (s' : Shared) : Prop :=
  ∃ σ' H' ys' its' k', Inv Y (base ++ ((D, Lob its' k') :: P)) σ' H' s' ∧ Vals ys' its' ∧ R ys' σ' H'
end
end L2
namespace L2
open PySem PySem.Spec PyProof.Rows
def fin (Q : VK) : WK := fun ys _ H' => ys.length ≤ sizeLine ∧ ∀ p, H' p = none → Q (.ref p) (upd H' p (.lst ys))
end L2
namespace L2
open PySem PySem.Spec PyProof.Rows
theorem gNJ {i : Nat} {v : V} {σ : St} {H : Hp} {k : St → Hp → Prop} (h : k (σ.set i (some v)) H) : gName i v σ H k := h
theorem sub_leA {α : Type} [DecidableEq α] : ∀ {as bs : List α}, as.Nodup → (∀ x ∈ as, x ∈ bs) → as.length ≤ bs.length
  | [], _, _, _ => Nat.zero_le _
  | a :: as, bs, nd, h => by
    rw [List.nodup_cons] at nd
    have hb := h a List.mem_cons_self
    have le := sub_leA (bs := bs.erase a) nd.2 fun x hx => by
      have ne : x ≠ a := fun z => nd.1 (by rw [← z]; exact hx)
      exact (List.mem_erase_of_ne ne).mpr (h x (List.mem_cons_of_mem _ hx))
    rw [List.length_erase_of_mem hb] at le
    have := List.length_pos_of_mem hb
    rw [List.length_cons]
    omega
end L2
namespace L2
open PySem
mutual
theorem DT.imp {H : Hp} {P R : Addr → Prop} (k : ∀ a, P a → R a) : ∀ {v : V} {d : PyData}, DT H P v d → DT H R v d
  | _, _, .non => .non
  | _, _, .bl b => .bl b
  | _, _, .int i => .int i
  | _, _, .str x => .str x
  | _, _, .lst h p r => .lst h (k _ p) (DTs.imp k r)
  | _, _, .tup h p r => .tup h (k _ p) (DTs.imp k r)
theorem DTs.imp {H : Hp} {P R : Addr → Prop} (k : ∀ a, P a → R a) : ∀ {vs : List V} {ds : List PyData}, DTs H P vs ds → DTs H R vs ds
  | _, _, .nil => .nil
  | _, _, .cons h r => .cons (DT.imp k h) (DTs.imp k r)
end
mutual
theorem DT.alive {H : Hp} {P : Addr → Prop} : ∀ {v : V} {d : PyData}, DT H P v d → DT H (fun b => P b ∧ H b ≠ none) v d
  | _, _, .non => .non
  | _, _, .bl b => .bl b
  | _, _, .int i => .int i
  | _, _, .str x => .str x
  | _, _, .lst h p r => .lst h ⟨p, by rw [h]; intro z; cases z⟩ (DTs.alive r)
  | _, _, .tup h p r => .tup h ⟨p, by rw [h]; intro z; cases z⟩ (DTs.alive r)
theorem DTs.alive {H : Hp} {P : Addr → Prop} : ∀ {vs : List V} {ds : List PyData}, DTs H P vs ds → DTs H (fun b => P b ∧ H b ≠ none) vs ds
  | _, _, .nil => .nil
  | _, _, .cons h r => .cons (DT.alive h) (DTs.alive r)
end
theorem DTs.getD {H : Hp} {P : Addr → Prop} : ∀ {us : List V} {ds : List PyData} {i : Nat} {d : PyData}, DTs H P us ds → ds[i]? = some d → ∃ v, us[i]? = some v ∧ DT H P v d
  | _, _, i, _, .nil, e => by simp at e
  | _, _, 0, _, .cons h r, e => by injection e with e; subst e; exact ⟨_, rfl, h⟩
  | _, _, i + 1, _, .cons h r, e => r.getD e
theorem seq_byR {t u : TS} {D : Ends} {σ : St} {H : Hp} (R : St → Hp → Prop) (h1 : ∀ D' : Ends, (∀ σ' H', R σ' H' → D'.nx σ' H') → D'.rt = D.rt → t D' σ H) (h2 : ∀ σ' H', R σ' H' → u D σ' H') : tSeq t u D σ H := h1 _ h2 rfl
theorem at_refI {ws : List V} {i : Int} {v : V} (h0 : 0 ≤ i) (h : ws[i.toNat]? = some v) : atI ws i = some v := by
  have := atI_nat h
  rwa [Int.toNat_of_nonneg h0] at this
end L2
namespace Sw
open PySem L2 PyProof.Rows
theorem inV_str (x : Str) (ms : List Str) : inV (.str x) (ms.map V.str) = decide (x ∈ ms) := by
  unfold inV
  rw [List.any_map, Bool.eq_iff_iff, List.any_eq_true]
  simp only [decide_eq_true_eq]
  constructor
  · rintro ⟨y, hy, e⟩
    have e : eqV (.str y) (.str x) = true := e
    unfold eqV at e
    have : y = x := by simpa using e
    exact this ▸ hy
  · intro h
    refine ⟨x, h, ?_⟩
    show eqV (.str x) (.str x) = true
    unfold eqV
    simp
def wn (n : Int) : List Str := (ivl 1 (n + 1)).map numT
theorem flat_strs (ts : List Str) : (ts.map V.str).all flatV = true := by
  rw [List.all_map, List.all_eq_true]
  intro x _
  rfl
theorem wn_len (n : Int) : (wn n).length = n.toNat := by unfold wn; rw [List.length_map, ivl_length]; omega
theorem wn_get {n : Int} {j : Nat} (h : (j : Int) < n) : (wn n)[j]? = some (numT (1 + j)) := by
  unfold wn
  rw [List.getElem?_map, get_ivl (by omega)]
  rfl
theorem wn_mem {n : Int} {w : Str} : w ∈ wn n ↔ ∃ a, 1 ≤ a ∧ a ≤ n ∧ w = numT a := by
  unfold wn
  rw [List.mem_map]
  constructor
  · rintro ⟨a, ha, rfl⟩
    have := mem_ivl.mp ha
    exact ⟨a, by omega, by omega, rfl⟩
  · rintro ⟨a, h1, h2, rfl⟩
    exact ⟨a, mem_ivl.mpr ⟨h1, by omega⟩, rfl⟩
theorem wn_at {n a : Int} (h1 : 1 ≤ a) (h2 : a ≤ n) (hn : n < 1000) : (wn n)[(a - 1).toNat]? = some (numT a) ∧ ∀ m, m < (a - 1).toNat → (wn n)[m]? ≠ some (numT a) := by
  constructor
  · rw [wn_get (by omega)]
    rw [show 1 + ((a - 1).toNat : Int) = a by omega]
  · intro m hm z
    rw [wn_get (by omega)] at z
    injection z with z
    have := num_inj (by omega) (by omega) (by omega) (by omega) z
    omega
end Sw
namespace Sw
open PySem L2 PyProof.Rows
def ThOk (r : List Int) : Prop := r ≠ [] ∧ ∀ i ∈ r, 0 ≤ i ∧ i < 10 ^ 9
def ThTx (x : Str) (r : List Int) : Prop := x = thT r ∧ ThOk r
theorem map_num_inj : ∀ {r q : List Int}, (∀ i ∈ r, 0 ≤ i ∧ i < 10 ^ 9) → (∀ i ∈ q, 0 ≤ i ∧ i < 10 ^ 9) → r.map numT = q.map numT → r = q
  | [], [], _, _, _ => rfl
  | [], _ :: _, _, _, h => by cases h
  | _ :: _, [], _, _, h => by cases h
  | a :: r, b :: q, h1, h2, h => by
    rw [List.map_cons, List.map_cons] at h
    injection h with h3 h4
    have ha := h1 a List.mem_cons_self
    have hb := h2 b List.mem_cons_self
    rw [num_inj ha.1 hb.1 (by omega) (by omega) h3, map_num_inj (fun i hi => h1 i (List.mem_cons_of_mem _ hi)) (fun i hi => h2 i (List.mem_cons_of_mem _ hi)) h4]
theorem ThTx.split {x : Str} {r : List Int} (h : ThTx x r) : Txt.split x (Str.ofString " ") = r.map numT := by
  rw [h.1]; exact th_split h.2.1 fun i hi => (h.2.2 i hi).1
theorem ThTx.uniq {x : Str} {r q : List Int} (h : ThTx x r) (g : ThTx x q) : r = q := map_num_inj h.2.2 g.2.2 (h.split.symm.trans g.split)
theorem th_of_words {x : Str} {r : List Int} (h : Txt.split x (Str.ofString " ") = r.map numT) : x = thT r := by
  have e := StrLaws.join_split x (Str.ofString " ")
  rw [h] at e
  exact e.symm
theorem map_th_inj : ∀ {S T : List (List Int)}, (∀ r ∈ S, ThOk r) → (∀ r ∈ T, ThOk r) → S.map thT = T.map thT → S = T
  | [], [], _, _, _ => rfl
  | [], _ :: _, _, _, h => by cases h
  | _ :: _, [], _, _, h => by cases h
  | a :: r, b :: q, h1, h2, h => by
    rw [List.map_cons, List.map_cons] at h
    injection h with h3 h4
    rw [ThTx.uniq ⟨rfl, h1 a List.mem_cons_self⟩ ⟨h3, h2 b List.mem_cons_self⟩, map_th_inj (fun i hi => h1 i (List.mem_cons_of_mem _ hi)) (fun i hi => h2 i (List.mem_cons_of_mem _ hi)) h4]
theorem cov_of {Ls : List (List Int)} {m : Int} (ne : ∀ L ∈ Ls, L ≠ []) (nd : Ls.flatten.Nodup) (hm : (Ls.flatten.length : Int) = m) (all : ∀ x, 1 ≤ x → x ≤ m → x ∈ Ls.flatten) : Cov m Ls := by
  refine ⟨ne, ?_⟩
  refine (perm_allL (ivl_nodup3 m) (fun x hx => ?_) (by rw [ivl_length]; omega)).symm
  have := ivl_mem3.mp hx
  exact all x this.1 this.2
end Sw
namespace Sw
open PySem L2
def spReadThX (C : Addr) : Sp := fun vs H Q E => ∃ (x : Str), vs = [.str x] ∧ x.length ≤ 990 ∧ (∀ r, ThTx x r → ∀ l H', H l = none → H' l = some (.lst (r.map V.int)) → Same H H' → Q (.ref l) H') ∧ ((∀ r, ¬ ThTx x r) → ∀ H', Same H H' → E (.ref C) none H')
def spManyX (C : Addr) : Sp := fun vs H Q E => ∃ (l : Addr) (ws : List V) (rs : List (List Int)), vs = [.ref l] ∧ H l = some (.lst ws) ∧ Lsts H ws rs ∧ ws.length ≤ 1000 ∧ (rs.flatten.length ≤ 12 → ∀ H', Same H H' → Q (.int (rs.flatten.length : Int)) H') ∧ (¬ rs.flatten.length ≤ 12 → ∀ H', Same H H' → E (.ref C) none H')
structure TRtX (P : Program) (w : World) (K : PySem.W.Frag) (mg : Str → Option Value) (base : Heap) (C : Addr) : Prop extends T1 mg K where
  f_read_number : FnAtX P w K mg base "read_number" 1 ["word"] (spNumX C)
structure TMaX (mg : Str → Option Value) (K : PySem.W.Frag) (u : Value) (C : Addr) : Prop extends TMa mg K u where
  c_NoText : mg "NoText" = some (.ref C)
  x_NoText : ExcC K C
section
variable {P : Program} {w : World} {K : PySem.W.Frag} {mg : Str → Option Value} {base : Heap} {u : Value} {C : Addr}
theorem ok_readthX {f : Addr} {fd : FuncData} (F : Fun K "read_things" "read_things" (top 30) f fd) (T : TRtX P w K mg base C) : FnOk P w K mg base (CX1 P w) 2 f fd ["text"] (spReadThX C) := by
  refine F.okX sc_read_things (fun vs H Q E h => ?_) (fun cdv A outer s H vs Q E hr h => ?_)
  · obtain ⟨r, rfl, _⟩ := h
    rfl
  · obtain ⟨x, rfl, xl, kY, kN⟩ := h
    refine ⟨_, (pss_one (ps_ret (pe_compX (N := (["word"] : List Str)) (ix := ([none] : List (Option Nat))) topp1 passC1 (comp_ok rfl rfl) rfl (pi_listK (K := K) rfl (pe_bmK (K := K) rfl PySem.F.plainAttrs_str PySem.F.slot_str_split PySem.F.type_str_split mt_split (pv 0) (pa_cons pe_str pa_nil))) (fun _ _ _ _ => (pg_name (i := 0) (show List.Nodup (["word"] : List Str) from by decide +kernel) rfl (Or.inl rfl))) (fun _ _ _ _ => pif_nil) (fun _ _ _ _ => (pe_callX1 T.f_read_number (PassC.passes passCC) (hr.mono (by decide)) rfl (pa_cons (pv 0) pa_nil)))))), ?_⟩
    refine ⟨_, rfl, rfl, _, _, rfl, rfl, by decide +kernel, by omega, fun l1 f1 => ⟨l1, rfl, ⟨_, SqL.of upd_same⟩, ?_⟩⟩
    have wl := split_le x (Str.ofString " ")
    have wp : ∀ z ∈ Txt.split x (Str.ofString " "), z.length ≤ x.length := fun z hz => split_part_le hz
    have wne := split_ne x (Str.ofString " ")
    have fwd : ∀ r, ThTx x r → Txt.split x (Str.ofString " ") = r.map numT := fun r h => h.split
    have bwd : ∀ r, Txt.split x (Str.ofString " ") = r.map numT → x = thT r := fun r h => th_of_words h
    generalize Txt.split x (Str.ofString " ") = ws at wl wp wne fwd bwd ⊢
    have s1 : Same H (upd H l1 (.lst (ws.map V.str))) := Same.new f1
    have h1 : upd H l1 (.lst (ws.map V.str)) l1 = some (.lst (ws.map V.str)) := upd_same
    generalize upd H l1 (.lst (ws.map V.str)) = H1 at s1 h1 ⊢
    have ll : (ws.map V.str).length = ws.length := by rw [List.length_map]
    refine compL (K := K) (a := l1) (xs := ws.map V.str) (k := 0) (fun i ys σ' H' => (∃ v0, σ' = [v0]) ∧ H' = H1 ∧ ∃ r : List Int, ys = r.map V.int ∧ ws.take i = r.map numT ∧ ∀ i ∈ r, 0 ≤ i ∧ i < 10 ^ 9) (by omega) ⟨⟨none, rfl⟩, rfl, [], rfl, rfl, by simp⟩ (fun i ys σ' H' _ q => by rw [q.2.1]; exact SqL.of h1) (fun i ys σ' H' q => ?_) ?_ ?_
    · obtain ⟨_, _, r, e1, e2, _⟩ := q
      have e2 := congrArg List.length e2
      rw [List.length_map, List.length_take] at e2
      rw [e1, List.length_map]
      omega
    · rintro i ys σ' H' z R hx ⟨⟨v0, rfl⟩, rfl, r, rfl, er, br⟩ done
      obtain ⟨wd, hw, rfl⟩ : ∃ wd, ws[i]? = some wd ∧ V.str wd = z := by
        rw [List.getElem?_map] at hx
        cases e : ws[i]? with
        | none => rw [e] at hx; cases hx
        | some e' => rw [e] at hx; exact ⟨e', rfl, Option.some.inj hx⟩
      have wdl := wp wd (List.mem_of_getElem? hw)
      by_cases hn : IsNum wd
      · obtain ⟨a, rfl, a0, a9⟩ := hn
        refine ⟨_, rfl, .inl ⟨a, rfl, a0, a9, done _ _ _ ⟨⟨_, rfl⟩, rfl, r ++ [a], by rw [List.map_append]; rfl, ?_, fun j hj => ?_⟩⟩⟩
        · rw [List.take_succ, hw, er, List.map_append]
          rfl
        · rcases List.mem_append.mp hj with hj | hj
          · exact br j hj
          · rw [List.mem_singleton.mp hj]; exact ⟨a0, a9⟩
      · refine ⟨_, rfl, .inr ⟨wd, rfl, by omega, hn, kN (fun q hq => ?_) _ s1⟩⟩
        have e := fwd q hq
        have m : wd ∈ q.map numT := by rw [← e]; exact List.mem_of_getElem? hw
        obtain ⟨a, ha, rfl⟩ := List.mem_map.mp m
        exact hn ⟨a, rfl, hq.2.2 a ha⟩
    · rintro ys σ' H' q ⟨⟨v0, rfl⟩, e0, r, rfl, er, br⟩ fq
      have e0 := e0.symm
      subst e0
      rw [List.take_of_length_le (by omega)] at er
      exact kY r ⟨bwd r er, fun z => by rw [z] at er; exact wne er, br⟩ q _ (s1.free fq) upd_same (s1.trans (Same.new fq))
theorem ok_manyX {f : Addr} {fd : FuncData} (F : Fun K "many_things" "many_things" (top 31) f fd) (T : TMaX mg K u C) : FnOk P w K mg base (CX1 P w) 1 f fd ["lists"] (spManyX C) := by
  refine F.okX sc_many_things (fun vs H Q E h => ?_) (fun cdv A outer s H vs Q E hr h => ?_)
  · obtain ⟨l, ws, rs, rfl, _⟩ := h
    rfl
  · obtain ⟨l, ws, rs, rfl, hl, hx, hw, kY, kN⟩ := h
    refine ⟨_, (pss_cons (ps_set (i := 1) sc_many_things.nd rfl (Or.inl rfl) (pe_callB (call_sum (K := K) rfl rfl) rfl T.b_sum (by decide +kernel) (pa_cons (pe_comp (N := (["things"] : List Str)) (ix := ([none] : List (Option Nat))) (comp_ok rfl rfl) rfl (pi_listK (K := K) rfl (pv 0)) (fun _ _ _ _ => (pg_name (i := 0) (show List.Nodup (["things"] : List Str) from by decide +kernel) rfl (Or.inl rfl))) (fun _ _ _ _ => pif_nil) (fun _ _ _ _ => (pe_callB (call_lenK (K := K) rfl) rfl T.b_len (by decide +kernel) (pa_cons (pv 0) pa_nil)))) pa_nil)))
      (pss_cons (ps_if (pt_cmpR op_gt (pv 1) (pe_glob rfl T.g_MOST_THINGS T.r_MOST_THINGS) (nomark _)) (pss_one (ps_raise lvs1 T.x_NoText rfl rfl T.c_NoText (pa_cons pe_str pa_nil))) pss_nil)
      (pss_one (ps_ret (pv 1))))), ?_⟩
    have wl := hx.length
    refine ⟨_, rfl, l, rfl, ⟨_, SqL.of hl⟩, compL (K := K) (a := l) (xs := ws) (k := 0) (fun i ys σ' H' => ys = ((rs.take i).map fun r => (r.length : Int)).map V.int ∧ (∃ v0, σ' = [v0]) ∧ H' = H) (by omega) ⟨rfl, ⟨none, rfl⟩, rfl⟩ (fun i ys σ' H' _ q => by rw [q.2.2]; exact SqL.of hl) (fun i ys σ' H' q => by rw [q.1, List.length_map, List.length_map, List.length_take]; omega) ?_ ?_⟩
    · rintro i ys σ' H' x R hx' ⟨rfl, ⟨v0, rfl⟩, rfl⟩ done
      obtain ⟨a, r, rfl, ha, hr'⟩ := hx.get hx'
      refine ⟨_, rfl, a, _, rfl, .inl (SqL.of ha), done _ _ _ ⟨?_, ⟨_, rfl⟩, rfl⟩⟩
      rw [take_succ_map (fun r : List Int => (r.length : Int)) hr', List.map_append, List.length_map]
      rfl
    · rintro ys σ' H' q ⟨rfl, ⟨v0, rfl⟩, e0⟩ fq
      have e0 := e0.symm
      subst e0
      rw [List.take_of_length_le (by omega)]
      have sm : (rs.map fun r => (r.length : Int)).sum = (rs.flatten.length : Int) := by
        clear hx wl kY kN
        induction rs with
        | nil => rfl
        | cons r rs ih => rw [List.map_cons, List.sum_cons, ih, List.flatten_cons, List.length_append]; omega
      refine ⟨q, _, rfl, SqL.of upd_same, ?_⟩
      rw [sm]
      refine ⟨_, rfl, _, _, rfl, rfl, _, rfl, ite2 (fun c => ?_) (fun c => ?_)⟩
      · have c := of_decide_eq_true c
        exact ⟨(by show 1 ≤ sizeLine; decide), kN (by omega) _ (Same.new fq)⟩
      · have c : ¬ (rs.flatten.length : Int) > 12 := fun z => c (decide_eq_true z)
        exact ⟨_, rfl, kY (by omega) _ (Same.new fq)⟩
end
end Sw
namespace Sw
open PySem L2
def spCheckX (C : Addr) : Sp := fun vs H Q E => ∃ (n : Int) (l : Addr) (ws : List V) (rs : List (List Int)), vs = [.int n, .ref l] ∧ H l = some (.lst ws) ∧ Lsts H ws rs ∧ ws.length ≤ 1000 ∧ (∀ r ∈ rs, r.length ≤ 1000) ∧ (Fine n rs → ∀ H', Same H H' → Q .non H') ∧ (¬ Fine n rs → ∀ H', Same H H' → E (.ref C) none H')
def spMadeX (C : Addr) : Sp := fun vs H Q E => ∃ (n : Int) (l : Addr) (ws : List V) (rs : List (List Int)), vs = [.int n, .ref l] ∧ 0 ≤ n ∧ n ≤ 1000 ∧ H l = some (.lst ws) ∧ Lsts H ws rs ∧ ws.length ≤ 1000 ∧ (∀ r ∈ rs, r.length ≤ 1000) ∧
  (Fine n rs → ∀ t H', H t = none → H' t = some (.tup ((madeM n rs).map V.int)) → Same H H' → Q (.ref t) H') ∧ (¬ Fine n rs → ∀ H', Same H H' → E (.ref C) none H')
structure TB (P : Program) (w : World) (K : PySem.W.Frag) (mg : Str → Option Value) (base : Heap) : Prop extends T1 mg K where
  f_is_whole : FnAt P w K mg base "is_whole" 1 ["thing"] spIw
structure TCx (P : Program) (w : World) (K : PySem.W.Frag) (mg : Str → Option Value) (base : Heap) (C : Addr) : Prop extends T1 mg K where
  f_is_between : FnAt P w K mg base "is_between" 2 ["thing", "low", "high"] spBt
  c_NoRounds : mg "NoRounds" = some (.ref C)
  x_NoRounds : ExcC K C
structure TMx (P : Program) (w : World) (K : PySem.W.Frag) (mg : Str → Option Value) (base : Heap) (C : Addr) : Prop extends T1 mg K where
  b_enumerate : mg "enumerate" = none
  f_plain : FnAt P w K mg base "plain" 1 ["n"] spPlain
  f_check_rounds : FnAtX P w K mg base "check_rounds" 3 ["n", "lists"] (spCheckX C)
section
variable {P : Program} {w : World} {K : PySem.W.Frag} {mg : Str → Option Value} {base : Heap} {C : Addr}
theorem sc_is_whole : FnScope ["thing"] ["thing"] (defScope (top 15)) := ⟨rfl, rfl, rfl, by decide +kernel, rfl, by decide +kernel, by decide +kernel⟩
theorem ok_iw {f : Addr} {fd : FuncData} (F : Fun K "is_whole" "is_whole" (top 15) f fd) (T : T1 mg K) : FnOk P w K mg base CX0 1 f fd ["thing"] spIw := by
  refine F.ok sc_is_whole (fun vs H Q E h => ?_) (fun cdv A outer s H vs Q E hr h => ?_)
  · obtain ⟨x, rfl, _⟩ := h
    rfl
  · obtain ⟨x, rfl, k⟩ := h
    refine ⟨_, (pss_one (ps_ret (pe_and (pe_callB (call_isiK (K := K) rfl) rfl T.b_isinstance (by decide +kernel) (pa_cons (pv 0) (pa_cons (pe_bltn (v := .ty "int") rfl T.b_int (by decide +kernel) rfl) pa_nil))) (pe_one (pe_not (pe_callB (call_isiK (K := K) rfl) rfl T.b_isinstance (by decide +kernel) (pa_cons (pv 0) (pa_cons (pe_bltn (v := .ty "bool") rfl T.b_bool (by decide +kernel) rfl) pa_nil)))))))), ?_⟩
    refine ⟨_, rfl, _, "int", "int", _, rfl, TyOf.int x, kit_self _ _, true, rfl, iteT ?_⟩
    exact ⟨_, rfl, _, "int", "bool", _, rfl, TyOf.int x, T.k_ib, false, rfl, k⟩
theorem sc_is_between : FnScope ["thing", "low", "high"] ["thing", "low", "high"] (defScope (top 16)) := ⟨rfl, rfl, rfl, by decide +kernel, rfl, by decide +kernel, by decide +kernel⟩
theorem ok_bt {f : Addr} {fd : FuncData} (F : Fun K "is_between" "is_between" (top 16) f fd) (T : TB P w K mg base) : FnOk P w K mg base CX0 2 f fd ["thing", "low", "high"] spBt := by
  refine F.ok sc_is_between (fun vs H Q E h => ?_) (fun cdv A outer s H vs Q E hr h => ?_)
  · obtain ⟨x, lo, hi, rfl, _⟩ := h
    rfl
  · obtain ⟨x, lo, hi, rfl, k⟩ := h
    refine ⟨_, (pss_one (ps_ret (pe_and (pe_callF T.f_is_whole (hr.mono (by first | decide | omega)) rfl (pa_cons (pv 0) pa_nil)) (pe_one (pe_chain op_le op_le (pv 1) (pv 0) (pv 2)))))), ?_⟩
    refine ⟨_, rfl, x, rfl, true, rfl, iteT ?_⟩
    refine ⟨_, rfl, _, rfl, _, _, rfl, rfl, _, rfl, ite2 (fun c => ?_) (fun c => ?_)⟩
    · have c : lo ≤ x := of_decide_eq_true c
      have e : decide (lo ≤ x ∧ x ≤ hi) = decide (x ≤ hi) := by rw [Bool.eq_iff_iff]; simp [c]
      rw [e] at k
      exact ⟨_, rfl, _, _, rfl, rfl, k⟩
    · have c : ¬ lo ≤ x := of_decide_eq_false (by simpa using c)
      have e : decide (lo ≤ x ∧ x ≤ hi) = false := by simp [c]
      rw [e] at k
      exact k
theorem sc_check_rounds : FnScope ["n", "lists", "seen", "things", "thing"] ["n", "lists"] (defScope (top 22)) := ⟨rfl, rfl, rfl, by decide +kernel, rfl, by decide +kernel, by decide +kernel⟩
theorem ok_checkX {f : Addr} {fd : FuncData} (F : Fun K "check_rounds" "check_rounds" (top 22) f fd) (T : TCx P w K mg base C) : FnOk P w K mg base (CX1 P w) 3 f fd ["n", "lists"] (spCheckX C) := by
  refine F.okX sc_check_rounds (fun vs H Q E h => ?_) (fun cdv A outer s H vs Q E hr h => ?_)
  · obtain ⟨n, l, ws, rs, rfl, _⟩ := h
    rfl
  · obtain ⟨n, l, ws, rs, rfl, hl, hx, hwl, hrl, kQ, kE⟩ := h
    refine ⟨_, (pss_cons (ps_set (i := 2) sc_check_rounds.nd rfl (Or.inl rfl) (pe_lst pa_nil))
      (pss_one (ps_for own1 rfl (pi_listK (K := K) rfl (pv 1)) (pg_name (i := 3) sc_check_rounds.nd rfl (Or.inl rfl)) (pss_cons (ps_if (pt_cmpR op_eq (pe_callB (call_lenK (K := K) rfl) rfl T.b_len (by decide +kernel) (pa_cons (pv 3) pa_nil)) pe_int (nomark _)) (pss_one (ps_raise lvs1 T.x_NoRounds rfl rfl T.c_NoRounds (pa_cons pe_str pa_nil))) pss_nil)
      (pss_one (ps_for own1 rfl (pi_listK (K := K) rfl (pv 3)) (pg_name (i := 4) sc_check_rounds.nd rfl (Or.inl rfl)) (pss_cons (ps_if (pt_not (pt_val (pe_callF T.f_is_between (hr.mono (by first | decide | omega)) rfl (@pa_cons _ _ _ _ _ (pv 4) (@pa_cons _ _ _ _ _ pe_int (@pa_cons _ _ _ _ _ (pv 0) pa_nil st_name) st_con) st_name)))) (pss_one (ps_raise lvs1 T.x_NoRounds rfl rfl T.c_NoRounds (pa_cons pe_str pa_nil))) pss_nil)
      (pss_cons (ps_if (pt_cmpR (op_inK (K := K) rfl) (pv 4) (pv 2) rfl) (pss_one (ps_raise lvs1 T.x_NoRounds rfl rfl T.c_NoRounds (pa_cons pe_str pa_nil))) pss_nil)
      (pss_one (ps_expr (pe_bmK (K := K) rfl PySem.F.plainAttrs_list PySem.F.slot_list_append PySem.F.type_list_append mt_append (pv 2) (pa_cons (pv 4) pa_nil)))))))))))), ?_⟩
    have big : (10000000 : Nat) ≤ sizeLine := by decide
    refine ⟨Nat.zero_le _, fun ls hls => ?_⟩
    have wl := hx.length
    have s1 : Same H (upd H ls (.lst [])) := Same.new hls
    refine ⟨_, rfl, l, rfl, ⟨_, SqL.of (s1 _ _ hl)⟩, for_list (K := K) (a := l) (xs := ws) (fun i σ H' => (∃ v3 v4, σ = [some (.int n), some (.ref l), some (.ref ls), v3, v4]) ∧ Same H H' ∧ H' ls = some (.lst ((rs.take i).flatten.map V.int)) ∧ (rs.take i).flatten.length ≤ 1000 * i ∧ Fine n (rs.take i))
      ⟨⟨_, _, rfl⟩, s1, upd_same, Nat.zero_le _, fine_nil⟩ (fun i σ H' _ q => SqL.of (q.2.1 _ _ hl)) ?_ ?_⟩
    · rintro i x σ H' hi ⟨⟨v3, v4, rfl⟩, s2, h2, l2, fi⟩
      obtain ⟨a, r, rfl, ha, hrr⟩ := hx.get hi
      have rl := hrl r (List.mem_of_getElem? hrr)
      have ilt : i < ws.length := (List.getElem?_eq_some_iff.mp hi).1
      refine ⟨_, rfl, a, _, rfl, .inl (SqL.of (s2 _ _ ha)), rfl, _, rfl, ?_⟩
      by_cases rn : r = []
      · subst rn
        refine iteT ?_
        exact ⟨(by show 1 ≤ sizeLine; decide), kE (not_fine_nil hrr) _ s2⟩
      have rpos : 0 < r.length := List.length_pos_iff.mpr rn
      refine iteE (decide_eq_false (by rw [List.length_map]; intro z; have := V.int.inj z; omega)) ?_
      refine ⟨_, rfl, a, rfl, ⟨_, SqL.of (s2 _ _ ha)⟩, for_list (K := K) (a := a) (xs := r.map V.int) (fun j σ H' => (∃ v4, σ = [some (.int n), some (.ref l), some (.ref ls), some (.ref a), v4]) ∧ Same H H' ∧ H' ls = some (.lst (((rs.take i).flatten ++ r.take j).map V.int)) ∧ ((rs.take i).flatten ++ r.take j).Nodup ∧ ∀ x ∈ r.take j, 1 ≤ x ∧ x ≤ n)
        ⟨⟨_, rfl⟩, s2, by rw [List.take_zero, List.append_nil]; exact h2, by rw [List.take_zero, List.append_nil]; exact fi.2, fun x hx => (by rw [List.take_zero] at hx; cases hx)⟩ (fun j σ H' _ q => SqL.of (q.2.1 _ _ ha)) ?_ ?_⟩
      · rintro j x σ H3 hj ⟨⟨v4, rfl⟩, s3, h3, nd3, b3⟩
        obtain ⟨z, rfl, hz⟩ := mem_int hj
        have jlt : j < r.length := (List.getElem?_eq_some_iff.mp hz).1
        refine ⟨_, rfl, _, rfl, z, 1, n, rfl, _, rfl, ?_⟩
        by_cases zb : 1 ≤ z ∧ z ≤ n
        · refine iteE (by rw [decide_eq_true zb]; rfl) ?_
          refine ⟨_, rfl, _, rfl, ls, _, rfl, .inl (SqL.of h3), rfl, flat_ints _, _, rfl, ?_⟩
          by_cases nin : z ∈ (rs.take i).flatten ++ r.take j
          · refine iteP (by show inV _ _ = true; rw [inV_int]; exact decide_eq_true nin) ?_
            exact ⟨(by show 1 ≤ sizeLine; decide), kE (not_fine_twice hrr hz nin) _ s3⟩
          · refine iteE (by show inV _ _ = false; rw [inV_int]; exact decide_eq_false nin) ?_
            refine ⟨_, rfl, .inl ⟨rfl, _, SqL.of h3⟩, _, rfl, ls, _, _, rfl, rfl, h3, ?_, ⟨_, rfl⟩, Same.put s3 hls, ?_, ?_, ?_⟩
            · rw [List.length_map, List.length_append, List.length_take]
              have : 1000 * i ≤ 1000 * 1000 := Nat.mul_le_mul_left _ (by omega)
              omega
            · rw [upd_same, take_snoc hz, ← List.append_assoc, List.map_append (l₂ := [z])]
              rfl
            · rw [take_snoc hz, ← List.append_assoc]
              exact nodup_snoc nd3 nin
            · intro x hx
              rw [take_snoc hz] at hx
              rcases List.mem_append.mp hx with q | q
              · exact b3 x q
              · rw [List.mem_singleton.mp q]; exact zb
        · refine iteP (by rw [decide_eq_false zb]; rfl) ?_
          exact ⟨(by show 1 ≤ sizeLine; decide), kE (not_fine_out hrr (List.mem_of_getElem? hz) zb) _ s3⟩
      · rintro σ H3 ⟨⟨v4, rfl⟩, s3, h3, nd3, b3⟩
        rw [List.length_map, List.take_length] at h3 nd3 b3
        refine ⟨⟨_, _, rfl⟩, s3, ?_, ?_, fine_snoc fi hrr rn b3 nd3⟩
        · rw [flat_snoc hrr]; exact h3
        · rw [flat_snoc hrr, List.length_append]; omega
    · rintro σ H' ⟨⟨v3, v4, rfl⟩, s2, h2, _, fi⟩
      rw [List.take_of_length_le (by omega)] at fi
      exact kQ fi H' s2
theorem sc_made : FnScope ["n", "lists", "leads", "things", "at", "thing"] ["n", "lists"] (defScope (top 23)) := ⟨rfl, rfl, rfl, by decide +kernel, rfl, by decide +kernel, by decide +kernel⟩
theorem ok_madeX {f : Addr} {fd : FuncData} (F : Fun K "made" "made" (top 23) f fd) (T : TMx P w K mg base C) : FnOk P w K mg base (CX1 P w) 4 f fd ["n", "lists"] (spMadeX C) := by
  refine F.okX sc_made (fun vs H Q E h => ?_) (fun cdv A outer s H vs Q E hr h => ?_)
  · obtain ⟨n, l, ws, rs, rfl, _⟩ := h
    rfl
  · obtain ⟨n, l, ws, rs, rfl, n0, n1, hl, hx, hwl, hrl, kQ, kE⟩ := h
    refine ⟨_, (pss_cons (ps_expr (pe_callX1 T.f_check_rounds pass1 (hr.mono (by decide)) rfl (pa_cons (pv 0) (pa_cons (pv 1) pa_nil))))
      (pss_cons (ps_set (i := 2) sc_made.nd rfl (Or.inl rfl) (pe_callTy (call_list_ofK (K := K) rfl) rfl T.b_list (by decide +kernel) (pa_cons (pe_callF T.f_plain (hr.mono (by first | decide | omega)) rfl (pa_cons (pv 0) pa_nil)) pa_nil)))
      (pss_cons (ps_for own1 rfl (pi_listK (K := K) rfl (pv 1)) (pg_name (i := 3) sc_made.nd rfl (Or.inl rfl)) (pss_one (ps_for own1 rfl (pi_enum0 (K := K) rfl rfl T.b_enumerate (pa_cons (pv 3) pa_nil)) (pg_tupK (K := K) (n := 2) rfl rfl (pgs_cons (pg_name (i := 4) sc_made.nd rfl (Or.inl rfl)) (pgs_cons (pg_name (i := 5) sc_made.nd rfl (Or.inl rfl)) pgs_nil))) (pss_one (ps_asg (pe_ix (ix_listK (K := K) rfl) (pv 3) (pe_op op_mod (pe_op op_add (pv 4) pe_int) (pe_callB (call_lenK (K := K) rfl) rfl T.b_len (by decide +kernel) (pa_cons (pv 3) pa_nil))) (fun _ _ => rfl)) (pg_sub (pv 2) (pe_op op_sub (pv 5) pe_int) set_list))))))
      (pss_one (ps_ret (pe_callTy (call_tuple_ofK (K := K) rfl) rfl T.b_tuple (by decide +kernel) (pa_cons (pv 2) pa_nil))))))), ?_⟩
    have big : (10000000 : Nat) ≤ sizeLine := by decide
    refine ⟨_, rfl, _, rfl, n, l, ws, rs, rfl, hl, hx, hwl, hrl, fun hF H1 s1 => ?_, kE⟩
    have hR := fine_rnds hF
    have hxl := madeM_length n rs
    have k := kQ hF
    generalize madeM n rs = xs at hR hxl k
    refine ⟨_, rfl, n, rfl, n0, n1, fun t H2 ft ht s2 => ⟨t, _, rfl, .inr (SqT.of ht), fun lv hlv => ?_⟩⟩
    have s3 := (s1.trans s2).trans (Same.new (o := .lst ((ivl 1 (n + 1)).map V.int)) hlv)
    have flv : H lv = none := (s1.trans s2).free hlv
    have pl0 : ∀ x, 1 ≤ x → x ≤ n → ld (ivl 1 (n + 1)) x = x := fun x a b => (nil_rnds n).rest x a b (by simp)
    refine ⟨_, rfl, l, rfl, ⟨_, SqL.of (s3 _ _ hl)⟩, for_list (K := K) (a := l) (xs := ws) (fun i σ H' => (∃ v3 v4 v5, σ = [some (.int n), some (.ref l), some (.ref lv), v3, v4, v5]) ∧ Same H H' ∧ ∃ ls, H' lv = some (.lst (ls.map V.int)) ∧ ls.length = n.toNat ∧ ∀ x, 1 ≤ x → x ≤ n → ld ls x = if x ∈ (rs.take i).flatten then ld xs x else x)
      ⟨⟨_, _, _, rfl⟩, s3, ivl 1 (n + 1), upd_same, by rw [ivl_length]; omega, fun x a b => by simp [pl0 x a b]⟩ (fun i σ H' _ q => SqL.of (q.2.1 _ _ hl)) ?_ ?_⟩
    · rintro i x σ H' hi ⟨⟨v3, v4, v5, rfl⟩, s4, ls, h4, l4, e4⟩
      obtain ⟨a, r, rfl, ha, hrr⟩ := hx.get hi
      have cyc := hR.cyc r (List.mem_of_getElem? hrr)
      have rl := hrl r (List.mem_of_getElem? hrr)
      have et : rs.take (i + 1) = rs.take i ++ [r] := by rw [List.take_succ, hrr]; rfl
      refine ⟨_, rfl, a, _, rfl, SqL.of (s4 _ _ ha), for_enum0 (K := K) (a := a) (xs := r.map V.int) (fun j σ H' => (∃ v4 v5, σ = [some (.int n), some (.ref l), some (.ref lv), some (.ref a), v4, v5]) ∧ Same H H' ∧ ∃ ls, H' lv = some (.lst (ls.map V.int)) ∧ ls.length = n.toNat ∧ ∀ x, 1 ≤ x → x ≤ n → ld ls x = if x ∈ (rs.take i).flatten ++ r.take j then ld xs x else x)
        ⟨⟨_, _, rfl⟩, s4, ls, h4, l4, by rw [List.take_zero, List.append_nil]; exact e4⟩ (fun j σ H' _ q => SqL.of (q.2.1 _ _ ha)) ?_ ?_⟩
      · rintro j σ H5 tt v hv ⟨⟨v4, v5, rfl⟩, s5, ls, h5, l5, e5⟩ ftt
        obtain ⟨z, rfl, hz⟩ := mem_int hv
        obtain ⟨z1, z2, z3⟩ := cyc.2 j z hz
        have jlt : j < r.length := (List.getElem?_eq_some_iff.mp hz).1
        have etj : r.take (j + 1) = r.take j ++ [z] := by rw [List.take_succ, hz]; rfl
        have st : Same H5 (upd H5 tt (.tup [.int (j : Int), .int z])) := Same.new ftt
        have lpos : (0 : Int) < ((r.map V.int).length : Int) := by rw [List.length_map]; omega
        have em : ((j : Int) + 1) % ((r.map V.int).length : Int) = (((j + 1) % r.length : Nat) : Int) := by rw [List.length_map]; rfl
        have hat : atI (r.map V.int) (((j : Int) + 1) % ((r.map V.int).length : Int)) = some (.int (ld xs z)) := by
          rw [em]
          exact atI_nat (by rw [List.getElem?_map, z3]; rfl)
        refine ⟨tt, _, rfl, SqT.of upd_same, rfl, _, _, rfl, _, _, rfl, rfl, ?_⟩
        refine ⟨_, rfl, _, rfl, _, _, rfl, rfl, _, rfl, a, _, rfl, .inl (SqL.of (st _ _ (s5 _ _ ha))), _, _, rfl, rfl, lpos, a, _, _, _, rfl, rfl, SqL.of (st _ _ (s5 _ _ ha)), hat, ?_⟩
        refine ⟨_, rfl, _, rfl, _, _, rfl, rfl, lv, _, _, (z - 1).toNat, rfl, rfl, st _ _ h5, ixN_lt (by omega) (by rw [List.length_map]; omega), ?_⟩
        refine ⟨⟨_, _, rfl⟩, Same.put (s5.trans st) flv, ls.set (z - 1).toNat (ld xs z), by rw [upd_same, List.map_set], by rw [List.length_set]; exact l5, fun y y1 y2 => ?_⟩
        rw [etj, ← List.append_assoc]
        unfold ld at e5 ⊢
        rw [List.getD_eq_getElem?_getD (l := ls.set _ _)]
        by_cases ey : y = z
        · subst ey
          rw [List.getElem?_set_self (by omega), if_pos (by simp)]
          rfl
        · rw [List.getElem?_set_ne (by omega), ← List.getD_eq_getElem?_getD, e5 y y1 y2]
          have : (y ∈ (rs.take i).flatten ++ r.take j ++ [z]) ↔ (y ∈ (rs.take i).flatten ++ r.take j) := by
            rw [List.mem_append (t := [z])]
            simp [ey]
          simp only [this]
      · rintro σ H5 ⟨⟨v4, v5, rfl⟩, s5, ls, h5, l5, e5⟩
        rw [List.length_map, List.take_length] at e5
        refine ⟨⟨_, _, _, rfl⟩, s5, ls, h5, l5, ?_⟩
        rw [et, List.flatten_append, List.flatten_cons, List.flatten_nil, List.append_nil]
        exact e5
    · rintro σ H' ⟨⟨v3, v4, v5, rfl⟩, s4, ls, h4, l4, e4⟩
      rw [List.take_of_length_le (by rw [hx.length]; exact Nat.le_refl _)] at e4
      have e : ls = xs := ord_ext l4 hxl fun x a b => by
        rw [e4 x a b]
        split
        · rfl
        · rename_i h; exact (hR.rest x a b h).symm
      subst e
      refine ⟨_, rfl, lv, _, rfl, .inl ⟨SqL.of h4, fun t2 ft2 => ?_⟩⟩
      exact k t2 _ (s4.free ft2) upd_same (s4.trans (Same.new ft2))
end
end Sw
namespace Sw
open PySem L2
structure TR0 (P : Program) (w : World) (K : PySem.W.Frag) (mg : Str → Option Value) (base : Heap) : Prop extends T1 mg K where
  b_min : mg "min" = none
  f_round_from : FnAt P w K mg base "round_from" 1 ["order", "first"] spRf
section
variable {P : Program} {w : World} {K : PySem.W.Frag} {mg : Str → Option Value} {base : Heap}
theorem sc_round_from : FnScope ["order", "first", "found", "thing"] ["order", "first"] (defScope (top 20)) := ⟨rfl, rfl, rfl, by decide +kernel, rfl, by decide +kernel, by decide +kernel⟩
theorem ok_rf {f : Addr} {fd : FuncData} (F : Fun K "round_from" "round_from" (top 20) f fd) : FnOk P w K mg base CX0 1 f fd ["order", "first"] spRf := by
  refine F.ok sc_round_from (fun vs H Q E h => ?_) (fun cdv A outer s H vs Q E hr h => ?_)
  · obtain ⟨t, n, x, xs, rfl, _⟩ := h
    rfl
  · obtain ⟨t, n, x, xs, rfl, ht, o, hn, x1, x2, k⟩ := h
    refine ⟨_, (pss_cons (ps_set (i := 2) sc_round_from.nd rfl (Or.inl rfl) (pe_lst (pa_cons (pv 1) pa_nil)))
      (pss_cons (ps_set (i := 3) sc_round_from.nd rfl (Or.inl rfl) (pe_ix (ix_tupK (K := K) rfl) (pv 0) (pe_op op_sub (pv 1) pe_int) (fun _ _ => rfl)))
      (pss_cons (ps_while PassesOwn.never (pt_cmpR op_ne (pv 3) (pv 1) (nomark _)) (pss_cons (ps_expr (pe_bmK (K := K) rfl PySem.F.plainAttrs_list PySem.F.slot_list_append PySem.F.type_list_append mt_append (pv 2) (pa_cons (pv 3) pa_nil)))
      (pss_one (ps_set (i := 3) sc_round_from.nd rfl (Or.inl rfl) (pe_ix (ix_tupK (K := K) rfl) (pv 0) (pe_op op_sub (pv 3) pe_int) (fun _ _ => rfl))))))
      (pss_one (ps_ret (pv 2)))))), ?_⟩
    have ol := o.length
    have big : (100000 : Nat) ≤ sizeLine := by decide
    refine ⟨_, rfl, (by show 1 ≤ sizeLine; decide), fun l hl => ?_⟩
    have s1 : Same H (upd H l (.lst [V.int x])) := Same.new hl
    refine ⟨_, rfl, _, rfl, _, _, rfl, rfl, t, _, _, _, rfl, rfl, SqT.of (s1 _ _ ht), at_int (by omega) (ld_get o x1 x2), ?_⟩
    refine ⟨fun m σ H' => ∃ i, m = per xs x - i ∧ 1 ≤ i ∧ i ≤ per xs x ∧ σ = [some (.ref t), some (.int x), some (.ref l), some (.int (itn (ld xs) i x))] ∧ Same H H' ∧ H' l = some (.lst (((List.range i).map fun k => itn (ld xs) k x).map V.int)), ⟨_, 1, rfl, Nat.le_refl _, by unfold per; omega, rfl, s1, upd_same⟩, ?_⟩
    rintro m σ H' ⟨i, rfl, i1, i2, rfl, s2, h2⟩
    have pl := per_le o x1 x2
    have ir := itn_in o x1 x2 i
    refine ⟨_, rfl, _, rfl, rfl, _, rfl, ite2 (fun c => ?_) (fun c => ?_)⟩
    · have c : itn (ld xs) i x ≠ x := by simpa using c
      have lt : i < per xs x := by
        by_cases e : i = per xs x
        · rw [e] at c; exact absurd (per_eq o x1 x2) c
        · omega
      refine ⟨fun σ' H' => σ' = [some (.ref t), some (.int x), some (.ref l), some (.int (itn (ld xs) (i + 1) x))] ∧ Same H H' ∧ H' l = some (.lst (((List.range (i + 1)).map fun k => itn (ld xs) k x).map V.int)), fun σ' H' ⟨e1, e2, e3⟩ => ⟨_, (by show per xs x - (i + 1) < _; omega), i + 1, rfl, by omega, by omega, e1, e2, e3⟩, ?_⟩
      refine ⟨_, rfl, .inl ⟨rfl, _, SqL.of h2⟩, _, rfl, l, _, _, rfl, rfl, h2, by simp; omega, ?_⟩
      have s3 : Same H (upd H' l (.lst (((List.range i).map fun k => itn (ld xs) k x).map V.int ++ [.int (itn (ld xs) i x)]))) := fun b ob e => by rw [upd_ne (ne_of_none e hl)]; exact s2 b ob e
      refine ⟨_, rfl, _, rfl, _, _, rfl, rfl, t, _, _, _, rfl, rfl, SqT.of (s3 _ _ ht), at_int (by omega) (ld_get o ir.1 ir.2), ?_⟩
      refine ⟨rfl, s3, ?_⟩
      rw [upd_same, List.range_succ, List.map_append, List.map_append]
      rfl
    · have c : itn (ld xs) i x = x := by simpa using c
      have e : i = per xs x := by
        apply Classical.byContradiction
        intro z
        exact per_ne (by omega) (by omega) c
      subst e
      exact ⟨_, rfl, k l H' hl h2 s2⟩
theorem sc_rounds : FnScope ["order", "begun"] ["order"] (defScope (top 21)) := ⟨rfl, rfl, rfl, by decide +kernel, rfl, by decide +kernel, by decide +kernel⟩
theorem ok_rounds {f : Addr} {fd : FuncData} (F : Fun K "rounds" "rounds" (top 21) f fd) (T : TR0 P w K mg base) : FnOk P w K mg base CX0 3 f fd ["order"] spRounds := by
  refine F.ok sc_rounds (fun vs H Q E h => ?_) (fun cdv A outer s H vs Q E hr h => ?_)
  · obtain ⟨t, n, xs, rfl, _⟩ := h
    rfl
  · obtain ⟨t, n, xs, rfl, ht, o, hn, k⟩ := h
    refine ⟨_, (pss_cons (ps_comp (i := 1) sc_rounds.nd rfl rfl (N := (["first", "order"] : List Str)) (ix := ([none, some 0] : List (Option Nat))) (comp_ok rfl rfl) rfl (pi_range2 rfl T.b_range (pa_cons pe_int (pa_cons (pe_op op_add (pe_callB (call_lenK (K := K) rfl) rfl T.b_len (by decide +kernel) (pa_cons (pv 0) pa_nil)) pe_int) pa_nil))) (fun _ _ _ _ => (pg_name (i := 0) (show List.Nodup (["first", "order"] : List Str) from by decide +kernel) rfl (Or.inl rfl))) (fun _ _ _ _ => pif_nil) (fun _ _ _ _ => (pe_callF T.f_round_from (hr.mono (by first | decide | omega)) rfl (pa_cons (pv 1) (pa_cons (pv 0) pa_nil)))))
      (pss_one (ps_ret (pe_comp (N := (["found"] : List Str)) (ix := ([none] : List (Option Nat))) (comp_ok rfl rfl) rfl (pi_listK (K := K) rfl (pv 1)) (fun _ _ _ _ => (pg_name (i := 0) (show List.Nodup (["found"] : List Str) from by decide +kernel) rfl (Or.inl rfl))) (fun _ _ _ _ => (pif_one (pt_cmpR op_eq (pe_ix (ix_listK (K := K) rfl) (pv 0) pe_int (fun _ _ => rfl)) (pe_callB (call_minL (K := K) rfl rfl) rfl T.b_min (by decide +kernel) (pa_cons (pv 0) pa_nil)) (nomark _)))) (fun _ _ _ _ => (pv 0)))))), ?_⟩
    have ol := o.length
    have big : (100000 : Nat) ≤ sizeLine := by decide
    refine ⟨_, rfl, t, _, rfl, .inr (SqT.of ht), _, _, rfl, rfl, 1, _, rfl, ⟨by decide, by decide, by omega, by rw [List.length_map]; omega⟩, compR (k := 0) (fun i ys σ' H' => (∃ v, σ' = [v, some (.ref t)]) ∧ Same H H' ∧ Lsts H' ys (((ivl 1 (n + 1)).take i).map (orb xs)) ∧ Fresh H ys ∧ ys.length = i) (by rw [List.length_map]; omega) ⟨⟨none, rfl⟩, Same.refl _, .nil, Fresh.nil, rfl⟩ (fun i ys σ' H' q => Nat.le_of_eq q.2.2.2.2) ?_ ?_⟩
    · rintro i ys σ' H' R hi ⟨⟨v, rfl⟩, s1, x1, f1, l1⟩ done
      rw [List.length_map] at hi
      refine ⟨_, rfl, _, rfl, t, n, 1 + (i : Int), xs, rfl, s1 _ _ ht, o, hn, by omega, by omega, fun l H2 hl h2 s2 => done _ _ _ ⟨⟨_, rfl⟩, s1.trans s2, ?_, f1.snoc x1 hl (s1.free hl), ?_⟩⟩
      · rw [take_succ_map (orb xs) (get_ivl (lo := 1) (hi := n + 1) (i := i) (by omega))]
        exact (x1.keep s2).snoc h2
      · rw [List.length_append, l1]; rfl
    · rintro ys σ' H' p ⟨⟨v, rfl⟩, s1, x1, f1, l1⟩ hp
      have et : (ivl 1 (n + 1)).take (((xs.map V.int).length : Int) + 1 - 1).toNat = ivl 1 (n + 1) := List.take_of_length_le (by rw [ivl_length, List.length_map]; omega)
      rw [et] at x1
      rw [List.length_map] at l1
      have s2 := s1.trans (Same.new (o := .lst ys) hp)
      have x2 := x1.keep (Same.new (o := .lst ys) hp)
      have h2 : upd H' p (.lst ys) p = some (.lst ys) := upd_same
      generalize upd H' p (.lst ys) = H2 at s2 x2 h2 ⊢
      refine ⟨_, rfl, p, rfl, ⟨_, SqL.of h2⟩, compLif (K := K) (a := p) (xs := ys) (k := 0) (fun i zs σ' H'' => (∃ v, σ' = [v]) ∧ H'' = H2 ∧ zs.Sublist (ys.take i) ∧ Lsts H2 zs ((((ivl 1 (n + 1)).take i).filter (least xs)).map (orb xs))) (by omega) ⟨⟨none, rfl⟩, rfl, List.nil_sublist _, .nil⟩
        (fun i zs σ' H'' _ q => by rw [q.2.1]; exact SqL.of h2) (fun i zs σ' H'' q => by have := q.2.2.1.length_le; rw [List.length_take] at this; omega) ?_ ?_⟩
      · rintro i zs σ' H'' x R hx ⟨⟨v, rfl⟩, rfl, sb, lx⟩ done
        obtain ⟨a, ns, rfl, ha, hns⟩ := x2.get hx
        rw [List.getElem?_map] at hns
        have hi : i < (n + 1 - 1).toNat := by
          have := List.getElem?_eq_some_iff.mp hx
          obtain ⟨z, _⟩ := this
          rw [x2.length, List.length_map, ivl_length] at z
          exact z
        have gi := get_ivl hi
        rw [gi] at hns
        cases hns
        have ib1 : (1 : Int) ≤ 1 + i := by omega
        have ib2 : (1 : Int) + i ≤ n := by omega
        have h0 : (orb xs (1 + i))[0]? = some (1 + (i : Int)) := by
          unfold orb
          rw [List.getElem?_map, List.getElem?_range (by unfold per; omega)]
          rfl
        have et2 : (ys.take (i + 1)) = ys.take i ++ [.ref a] := by rw [List.take_succ, hx]; rfl
        have ef : ((ivl 1 (n + 1)).take (i + 1)) = (ivl 1 (n + 1)).take i ++ [1 + (i : Int)] := by rw [List.take_succ, gi]; rfl
        -- the least one
        obtain ⟨M, M1, M2⟩ : ∃ M, M ∈ orb xs (1 + i) ∧ ∀ b ∈ orb xs (1 + i), M ≤ b := least_ex (List.ne_nil_of_mem (List.mem_of_getElem? h0))
        refine ⟨_, rfl, a, _, _, _, rfl, rfl, SqL.of ha, at_int (by omega) h0, _, rfl, a, _, M, rfl, SqL.of ha, M1, M2, rfl, _, rfl, ?_⟩
        have el : decide (V.int (1 + (i : Int)) = V.int M) = least xs (1 + i) := by
          rw [Bool.eq_iff_iff]
          unfold least
          rw [List.all_eq_true]
          simp only [decide_eq_true_eq]
          constructor
          · intro e b hb
            cases e
            exact M2 b hb
          · intro h
            have e1 := h M M1
            have e2 := M2 _ (List.mem_of_getElem? h0)
            rw [Int.le_antisymm e1 e2]
        rw [el]
        cases hL : least xs (1 + (i : Int)) with
        | true =>
          refine iteT ⟨_, rfl, done _ _ _ ⟨⟨_, rfl⟩, rfl, ?_, ?_⟩⟩
          · rw [et2]; exact sb.append (List.Sublist.refl _)
          · rw [ef, List.filter_append, List.map_append, List.filter_cons_of_pos hL]
            exact lx.snoc ha
        | false =>
          refine iteF (done _ _ _ ⟨⟨_, rfl⟩, rfl, ?_, ?_⟩)
          · rw [et2]; exact sb.trans (List.sublist_append_left _ _)
          · rw [ef, List.filter_append, List.map_append, List.filter_cons_of_neg (by rw [hL]; decide), List.filter_nil, List.map_nil, List.append_nil]
            exact lx
      · rintro zs σ' H'' q ⟨⟨v, rfl⟩, rfl, sb, lx⟩ hq
        rw [List.take_of_length_le (Nat.le_refl _)] at sb
        have e3 : (ivl 1 (n + 1)).take ys.length = ivl 1 (n + 1) := List.take_of_length_le (by rw [ivl_length, l1]; omega)
        rw [e3] at lx
        refine k q zs _ (s2.free hq) upd_same (lx.keep (Same.new hq)) (f1.sub sb) (fun z => ?_) (s2.trans (Same.new hq))
        obtain ⟨ns, e⟩ := lx.mem z
        rw [hq] at e
        cases e
end
end Sw
namespace Sw
open PySem L2 PyProof.Rows
theorem slc_hi (x : Str) (lo : Option Int) {j : Int} (h : 0 ≤ j) : Txt.slice x lo (some j) = Txt.slice x lo (some (min j (x.length : Int))) := by
  have e : Builtin.Str.strSliceIndices lo (some j) 1 x.length = Builtin.Str.strSliceIndices lo (some (min j (x.length : Int))) 1 x.length := by
    unfold Builtin.Str.strSliceIndices
    dsimp only
    rw [if_neg (by omega : ¬ j < 0), if_neg (by omega : ¬ min j (x.length : Int) < 0)]
    congr 1
    simp only [show (1 : Int) > 0 from by decide, if_true]
    omega
  unfold Txt.slice
  rw [e]
theorem slc_lo (x : Str) (hi : Option Int) {i : Int} (h : 0 ≤ i) : Txt.slice x (some i) hi = Txt.slice x (some (min i (x.length : Int))) hi := by
  have e : Builtin.Str.strSliceIndices (some i) hi 1 x.length = Builtin.Str.strSliceIndices (some (min i (x.length : Int))) hi 1 x.length := by
    unfold Builtin.Str.strSliceIndices
    dsimp only
    rw [if_neg (by omega : ¬ i < 0), if_neg (by omega : ¬ min i (x.length : Int) < 0)]
    congr 1
    simp only [show (1 : Int) > 0 from by decide, if_true]
    omega
  unfold Txt.slice
  rw [e]
theorem slc_to (x : Str) {j : Int} (h : 0 ≤ j) : signs (Txt.slice x none (some j)) = (signs x).take j.toNat := by
  have l := signs_len x
  rw [slc_hi x none h]
  show signs (StrLaws.sliceText x _ _) = _
  rw [StrLaws.sliceText_to ⟨by omega, by show _ ≤ ((signs x).length : Int); omega⟩]
  show List.take _ (List.drop 0 (signs x)) = _
  rw [List.drop_zero]
  by_cases c : j ≤ x.length
  · rw [Int.min_eq_left c, Int.sub_zero]
  · rw [Int.min_eq_right (by omega), List.take_of_length_le (by omega), List.take_of_length_le (by omega)]
theorem slc_from (x : Str) {i : Int} (h : 0 ≤ i) : signs (Txt.slice x (some i) none) = (signs x).drop i.toNat := by
  have l := signs_len x
  rw [slc_lo x none h]
  show signs (StrLaws.sliceText x _ _) = _
  rw [StrLaws.sliceText_from ⟨by omega, by show _ ≤ ((signs x).length : Int); omega⟩]
  show List.take ((((signs x).length : Nat) : Int) - _).toNat (List.drop _ (signs x)) = _
  by_cases c : i ≤ x.length
  · rw [Int.min_eq_left c, List.take_of_length_le (by rw [List.length_drop]; omega)]
  · rw [Int.min_eq_right (by omega), List.drop_eq_nil_of_le (by omega : (signs x).length ≤ i.toNat), List.drop_eq_nil_of_le (by omega), List.take_nil]
theorem slc_mid (x : Str) {i j : Int} (h : 0 ≤ i) (hj : i ≤ j) : signs (Txt.slice x (some i) (some j)) = ((signs x).drop i.toNat).take (j - i).toNat := by
  have l := signs_len x
  rw [slc_lo x _ h, slc_hi x _ (by omega)]
  show signs (StrLaws.sliceText x _ _) = _
  rw [StrLaws.sliceText_plain ⟨by omega, by omega, by show _ ≤ ((signs x).length : Int); omega⟩]
  show List.take _ (List.drop _ (signs x)) = _
  by_cases c : i ≤ x.length
  · rw [Int.min_eq_left c]
    by_cases d : j ≤ x.length
    · rw [Int.min_eq_left d]
    · rw [Int.min_eq_right (by omega), List.take_of_length_le (by rw [List.length_drop]; omega), List.take_of_length_le (by rw [List.length_drop]; omega)]
  · rw [Int.min_eq_right (by omega : (x.length : Int) ≤ i), List.drop_eq_nil_of_le (by omega : (signs x).length ≤ i.toNat), List.drop_eq_nil_of_le (by omega), List.take_nil, List.take_nil]
theorem slc_toL (x : Str) {j : Int} (h : 0 ≤ j) : (Txt.slice x none (some j)).length ≤ j.toNat := by
  rw [← signs_len, slc_to x h, List.length_take]; omega
theorem slc_fromL (x : Str) {i : Int} (h : 0 ≤ i) : (Txt.slice x (some i) none).length = x.length - i.toNat := by
  rw [← signs_len, slc_from x h, List.length_drop, signs_len]
theorem slc_midL (x : Str) {i j : Int} (h : 0 ≤ i) (hj : i ≤ j) : (Txt.slice x (some i) (some j)).length ≤ (j - i).toNat := by
  rw [← signs_len, slc_mid x h hj, List.length_take]; omega
end Sw
namespace Sw
open PySem L2 PyProof.Rows
theorem itn_cyc {n : Int} {xs r : List Int} (c : Cyc n xs r) {h : Int} : ∀ (k j : Nat), r[j]? = some h → r[(j + k) % r.length]? = some (itn (ld xs) k h)
  | 0, j, h0 => by
    have := (List.getElem?_eq_some_iff.mp h0).1
    rw [Nat.add_zero, Nat.mod_eq_of_lt this]; exact h0
  | k + 1, j, h0 => by
    have ih := itn_cyc c k j h0
    obtain ⟨_, _, c3⟩ := c.2 _ _ ih
    show r[(j + (k + 1)) % r.length]? = some (ld xs (itn (ld xs) k h))
    rw [← c3, Nat.mod_add_mod]
    rfl
theorem cyc_orb {n : Int} {xs r : List Int} (o : Ord n xs) (c : Cyc n xs r) (nd : r.Nodup) {h : Int} (h0 : r[0]? = some h) : orb xs h = r := by
  have pos : 0 < r.length := List.length_pos_iff.mpr c.1
  obtain ⟨b1, b2, _⟩ := c.2 0 h h0
  have it : ∀ k, r[k % r.length]? = some (itn (ld xs) k h) := fun k => by have := itn_cyc c k 0 h0; rwa [Nat.zero_add] at this
  have pl : per xs h = r.length := by
    have e1 := it (per xs h)
    rw [per_eq o b1 b2, ← h0] at e1
    have lt := Nat.mod_lt (per xs h) pos
    have e2 : per xs h % r.length = 0 := by
      have := (List.getElem?_inj lt nd).mp e1
      exact this
    have pp : 0 < per xs h := by unfold per; omega
    rcases Nat.lt_trichotomy (per xs h) r.length with q | q | q
    · rw [Nat.mod_eq_of_lt q] at e2; omega
    · exact q
    · exfalso
      have := it r.length
      rw [Nat.mod_self, h0] at this
      exact per_ne pos q (Option.some.inj this).symm
  refine List.ext_getElem? fun k => ?_
  unfold orb
  rw [List.getElem?_map, pl]
  by_cases hk : k < r.length
  · rw [List.getElem?_range hk]
    have := it k
    rw [Nat.mod_eq_of_lt hk] at this
    exact this.symm
  · rw [List.getElem?_eq_none (by rw [List.length_range]; omega), List.getElem?_eq_none (by omega)]
    rfl
theorem cov_fine {n : Int} {Ls : List (List Int)} (c : Cov n Ls) : Fine n Ls := by
  refine ⟨fun r hr => ⟨c.1 r hr, fun x hx => ivl_mem3.mp (c.2.mem_iff.mp (List.mem_flatten.mpr ⟨r, hr, hx⟩))⟩, c.2.nodup_iff.mpr (ivl_nodup3 n)⟩
def hd0 (L : List Int) : Int := L.getD 0 0
theorem hd0_at {L : List Int} (ne : L ≠ []) : L[0]? = some (hd0 L) := by
  cases L with
  | nil => exact absurd rfl ne
  | cons a r => rfl
theorem rnd_of {n : Int} {Ls : List (List Int)} (c : Cov n Ls) (lst : ∀ L ∈ Ls, ∀ y ∈ L, hd0 L ≤ y) (rise : (Ls.map hd0).Pairwise (· < ·)) : rndM n (madeM n Ls) = Ls := by
  have o := made_ord c
  have f := cov_fine c
  have R := fine_rnds f
  have ndL : ∀ L ∈ Ls, L.Nodup := fun L hL => (List.pairwise_flatten.mp f.2).1 L hL
  have eo : ∀ L ∈ Ls, orb (madeM n Ls) (hd0 L) = L := fun L hL => cyc_orb o (R.cyc L hL) (ndL L hL) (hd0_at (c.1 L hL))
  have ef : (ivl 1 (n + 1)).filter (least (madeM n Ls)) = Ls.map hd0 := by
    refine rise_uniq ((ivl_riseS 1 (n + 1)).filter _) rise fun x => ?_
    rw [List.mem_filter, ivl_mem3, List.mem_map]
    constructor
    · rintro ⟨⟨h1, h2⟩, l⟩
      obtain ⟨L, hL, hx⟩ := List.mem_flatten.mp (c.2.mem_iff.mpr (ivl_mem3.mpr ⟨h1, h2⟩))
      obtain ⟨j, hj⟩ := List.mem_iff_getElem?.mp hx
      have jl := (List.getElem?_eq_some_iff.mp hj).1
      have := itn_cyc (R.cyc L hL) (L.length - j) j hj
      rw [show j + (L.length - j) = L.length by omega, Nat.mod_self, hd0_at (c.1 L hL)] at this
      have le := (least_iff o h1 h2).mp l (L.length - j)
      rw [← Option.some.inj this] at le
      exact ⟨L, hL, by have := lst L hL x hx; omega⟩
    · rintro ⟨L, hL, rfl⟩
      have h0 := hd0_at (c.1 L hL)
      have b := (f.1 L hL).2 _ (List.mem_of_getElem? h0)
      refine ⟨b, (least_iff o b.1 b.2).mpr fun k => ?_⟩
      have := itn_cyc (R.cyc L hL) k 0 h0
      exact lst L hL _ (List.mem_of_getElem? this)
  unfold rndM
  rw [ef, List.map_map]
  conv => rhs; rw [← List.map_id Ls]
  exact List.map_congr_left fun L hL => eo L hL
theorem made_rnd {n : Int} {xs : List Int} (o : Ord n xs) : madeM n (rndM n xs) = xs := by
  have R := rnd_rnds o
  refine ord_ext (n := n) (madeM_length n _) o.length fun x a b => ?_
  rw [ld_made a b]
  obtain ⟨r, hr, hx⟩ := List.mem_flatten.mp (rnd_all o a b)
  obtain ⟨j, hj⟩ := List.mem_iff_getElem?.mp hx
  rw [nx_at R.nd hr hj]
  obtain ⟨_, _, c3⟩ := (R.cyc r hr).2 j x hj
  rw [List.getD_eq_getElem?_getD, c3]
  rfl
theorem rnd_fine {n : Int} {xs : List Int} (o : Ord n xs) : Fine n (rndM n xs) := by
  obtain ⟨_, f2, _⟩ := rnd_facts o
  exact ⟨fun r hr => ⟨(f2 r hr).1, (f2 r hr).2.2⟩, rnd_nodup o⟩
def OrTx (d : PyData) (n : Int) (xs : List Int) : Prop := d = .str (ordT (rndM n xs)) ∧ Ord n xs ∧ 1 ≤ n ∧ n ≤ 12
theorem or_ok {n : Int} {xs : List Int} (o : Ord n xs) (n1 : 1 ≤ n) (n12 : n ≤ 12) : rndM n xs ≠ [] ∧ (∀ r ∈ rndM n xs, ThOk r) ∧ (∀ r ∈ rndM n xs, ∀ i ∈ r, 1 ≤ i ∧ i ≤ n) ∧ ((rndM n xs).flatten.length : Int) = n := by
  obtain ⟨f1, f2, _⟩ := rnd_facts o
  refine ⟨fun z => ?_, fun r hr => ⟨(f2 r hr).1, fun i hi => by have := (f2 r hr).2.2 i hi; omega⟩, fun r hr => (f2 r hr).2.2, by omega⟩
  rw [z] at f1; simp at f1; omega
theorem OrTx.split {d : PyData} {n : Int} {xs : List Int} {x : Str} (h : OrTx d n xs) (e : d = .str x) : Txt.split (Txt.slice x (some 1) (some (-1))) (Str.ofString ")(") = (rndM n xs).map thT ∧ (∀ r ∈ rndM n xs, ThOk r) := by
  obtain ⟨h1, o, n1, n12⟩ := h
  obtain ⟨a, b, _, _⟩ := or_ok o n1 n12
  rw [e] at h1
  injection h1 with h1
  rw [h1]
  exact ⟨ord_split a fun r hr i hi => ((b r hr).2 i hi).1, b⟩
theorem OrTx.uniq {d : PyData} {n m : Int} {xs ys : List Int} (h : OrTx d n xs) (g : OrTx d m ys) : xs = ys ∧ n = m := by
  obtain ⟨e1, b1⟩ := h.split h.1
  obtain ⟨e2, b2⟩ := g.split h.1
  have e := map_th_inj b1 b2 (e1.symm.trans e2)
  have l1 := (or_ok h.2.1 h.2.2.1 h.2.2.2).2.2.2
  have l2 := (or_ok g.2.1 g.2.2.1 g.2.2.2).2.2.2
  rw [e] at l1
  have nm : n = m := by omega
  subst nm
  exact ⟨by rw [← made_rnd h.2.1, e, made_rnd g.2.1], rfl⟩
theorem slc_last {x : Str} (h : 1 ≤ x.length) : signs (Txt.slice x (some (-1)) none) = (signs x).drop (x.length - 1) := by
  show signs (StrLaws.sliceText x (some (-1)) none) = _
  rw [StrLaws.sliceText_neg_lo x none (by decide) (by omega), show ((-1 : Int) + x.length) = ((x.length - 1 : Nat) : Int) by omega]
  have := slc_from x (i := ((x.length - 1 : Nat) : Int)) (by omega)
  rw [show (((x.length - 1 : Nat) : Int)).toNat = x.length - 1 by omega] at this
  exact this
theorem or_of_words {x : Str} {Ls : List (List Int)} (ne : Ls ≠ []) (h1 : Txt.slice x none (some 1) = Str.ofString "(") (h2 : Txt.slice x (some (-1)) none = Str.ofString ")") (h : Txt.split (Txt.slice x (some 1) (some (-1))) (Str.ofString ")(") = Ls.map thT) : x = ordT Ls := by
  have sl := signs_len x
  have e1 := slc_to x (j := 1) (by decide)
  rw [h1] at e1
  have e1 : [40] = (signs x).take 1 := e1
  have pos : 1 ≤ x.length := by
    rw [← sl]
    cases e : signs x with
    | nil => rw [e] at e1; cases e1
    | cons a r => simp
  have e2 := slc_last pos
  rw [h2] at e2
  have e2 : [41] = (signs x).drop (x.length - 1) := e2
  have two : 2 ≤ x.length := by
    apply Classical.byContradiction
    intro z
    have l1 : (signs x).length = 1 := by omega
    obtain ⟨a, ha⟩ := List.length_eq_one_iff.mp l1
    rw [show x.length - 1 = 0 by omega] at e2
    rw [ha] at e1 e2
    simp at e1 e2
    omega
  have e3 := StrLaws.join_split (Txt.slice x (some 1) (some (-1))) (Str.ofString ")(")
  rw [h, slice_inner two] at e3
  have e4 := congrArg signs e3
  have pp : Str.ofString ")(" = ⟨#[41, 40]⟩ := by decide +kernel
  rw [pp, signs_join2] at e4
  have e4 : glue2 41 40 ((Ls.map thT).map signs) = ((signs x).drop 1).take (x.length - 2) := e4
  apply signs_ext
  rw [signs_ord ne, e4]
  have a1 : signs x = (signs x).take 1 ++ (signs x).drop 1 := (List.take_append_drop 1 _).symm
  have a2 : (signs x).drop 1 = ((signs x).drop 1).take (x.length - 2) ++ ((signs x).drop 1).drop (x.length - 2) := (List.take_append_drop _ _).symm
  rw [List.drop_drop, show 1 + (x.length - 2) = x.length - 1 by omega, ← e2] at a2
  rw [← e1, a2] at a1
  exact a1
theorem hd0_orb (xs : List Int) (x : Int) : hd0 (orb xs x) = x := by
  have : 0 < per xs x := by unfold per; omega
  unfold hd0 orb
  rw [List.getD_eq_getElem?_getD, List.getElem?_map, List.getElem?_range this]
  rfl
theorem rnd_heads (n : Int) (xs : List Int) : ((rndM n xs).map hd0).Pairwise (· < ·) := by
  unfold rndM
  rw [List.map_map, show (hd0 ∘ orb xs) = id from funext fun x => hd0_orb xs x, List.map_id]
  exact (ivl_riseS 1 (n + 1)).filter _
theorem rnd_least {n : Int} {xs : List Int} {r : List Int} (h : r ∈ rndM n xs) : ∀ y ∈ r, hd0 r ≤ y := by
  unfold rndM at h
  obtain ⟨x, hx, rfl⟩ := List.mem_map.mp h
  have l := (List.mem_filter.mp hx).2
  unfold least at l
  rw [hd0_orb]
  intro y hy
  exact of_decide_eq_true (List.all_eq_true.mp l y hy)
theorem lex_hd {a b : List Int} (ha : a ≠ []) (hb : b ≠ []) (h : hd0 a < hd0 b) : lexB b a = false := by
  cases a with
  | nil => exact absurd rfl ha
  | cons p a =>
    cases b with
    | nil => exact absurd rfl hb
    | cons q b =>
      have h : p < q := h
      show (if q = p then lexB b a else decide (q < p)) = false
      rw [if_neg (by omega)]
      exact decide_eq_false (by omega)
theorem hd_lex {a b : List Int} (ha : a ≠ []) (hb : b ≠ []) (ne : hd0 a ≠ hd0 b) (h : lexB b a = false) : hd0 a < hd0 b := by
  cases a with
  | nil => exact absurd rfl ha
  | cons p a =>
    cases b with
    | nil => exact absurd rfl hb
    | cons q b =>
      have ne : p ≠ q := ne
      have h : (if q = p then lexB b a else decide (q < p)) = false := h
      rw [if_neg (by omega)] at h
      have := of_decide_eq_false h
      show p < q
      omega
theorem rnd_srt {n : Int} {xs : List Int} (o : Ord n xs) : (rndM n xs).Pairwise fun a b => lexB b a = false := by
  have h := rnd_heads n xs
  rw [List.pairwise_map] at h
  exact h.imp_of_mem fun {a b} ha hb z => lex_hd ((rnd_fine o).1 a ha).1 ((rnd_fine o).1 b hb).1 z
theorem heads_rise {Ls : List (List Int)} (srt : Ls.Pairwise fun a b => lexB b a = false) (ne : ∀ L ∈ Ls, L ≠ []) (nd : Ls.flatten.Nodup) : (Ls.map hd0).Pairwise (· < ·) := by
  rw [List.pairwise_map]
  have dj := (List.pairwise_flatten.mp nd).2
  exact (srt.and dj).imp_of_mem fun {a b} ha hb z => hd_lex (ne a ha) (ne b hb) (z.2 _ (List.mem_of_getElem? (hd0_at (ne a ha))) _ (List.mem_of_getElem? (hd0_at (ne b hb)))) z.1
end Sw
namespace L2
open PySem PySem.Spec PyProof.Rows
theorem EAt.lone {h : Heap} {e C : Addr} (x : EAt h e C) : Lone h e := by
  obtain ⟨o, h1, _, vs, c, h2, h3, h4⟩ := x
  exact ⟨o, vs, c, h1, h2, h3, h4⟩
theorem Lone.keeps {h h' : Heap} {e : Addr} (l : Lone h e) (k : ∀ b o, h.get? b = some o → h'.get? b = some o) : Lone h' e := by
  obtain ⟨o, vs, c, h1, h2, h3, h4⟩ := l
  exact ⟨o, vs, c, k _ _ h1, h2, h3, h4⟩
section
variable {prog : Program} {w : World} {A : Around} {E : Value → Shared → Prop} {s : Shared}
theorem entry_unchain : entryFor table "proto.unchain" = some Builtin.«proto.unchain» := entryFor_of_tree (by kernel_rfl)
theorem unchain_lone {e : Addr} {v : Value} {Q : Value → Shared → Prop} (l : Lone s.heap e) (k : Q .none s) : wpAny (model prog w) A (runValue (.builtin "proto.unchain" ⟨[v, .ref e, .ref e, .bool false], []⟩)) Q E s := by
  obtain ⟨o, vs, c, h1, h2, h3, h4⟩ := l
  cases h4 rfl
  refine wpAny_runValue (codeAny_builtin entry_unchain ?_)
  unfold Builtin.«proto.unchain»
  refine wpAny_bind (wpAny_field h1 h2 h3 ?_)
  rw [if_pos (by decide)]
  exact wpAny_pure k
end
end L2
namespace L2
open PySem PySem.Spec PyProof.Rows PySem.W
structure ExcR (K : Frag) (C : Addr) : Prop where
  ec : ExcC K C
  ei : ExcI K C
  ty : typeIn K (.ref C) = some (.type "type")
  kp : keepIn K (.ref C) = true
structure MadeN (h h' : Heap) (e : Addr) (cls ctx : Value) : Prop where
  keeps : ∀ b o, h.get? b = some o → h'.get? b = some o
  new : h.get? e = none
  there : ∃ t, h'.get? e = some { cls := cls, data := .fields #[.ref t, .none, ctx, .none, .bool true, .none] }
section
variable {prog : Program} {w : World} {A : Around} {E : Value → Shared → Prop}
theorem raise_made_none {env : Env} {K : Frag} {C e0 : Addr} {s00 : Shared} {xs cs : Sem Value} {Q : Flow → Shared → Prop} (hh : A.handled = some (.ref e0)) (O : ExcR K C)
    (hc : ∀ (s : Shared) (Q : Value → Shared → Prop), Q .none s → wpAny (model prog w) A cs Q E s)
    (hx : wpAny (model prog w) A xs (fun v s => ∃ (e : Addr) (args : List Value) (h0 : Heap), v = .ref e ∧ K.In h0 ∧ Lone h0 e0 ∧ h0.MadeExcOf s.heap e (.ref C) args ∧ ∀ h', MadeN h0 h' e (.ref C) (.ref e0) → E (.ref e) { s with heap := h' }) E s00) :
    wpAny (model prog w) A (raiseStmt env (some xs) (some cs)) Q E s00 := by
  unfold raiseStmt
  dsimp only
  refine wpAny_bind (wpAny_mono hx (fun v s hv => ?_) fun _ _ z => z)
  obtain ⟨e, args, h0, rfl, X0, lo, M, hq⟩ := hv
  have X : K.In s.heap := fun a o q => M.keeps _ _ (X0 a o q)
  obtain ⟨t, he, htn, ht⟩ := M.there
  have ne : e ≠ e0 := fun z => by
    obtain ⟨o, vs, c, h1, _⟩ := lo
    have := M.new
    rw [z, h1] at this; cases this
  obtain ⟨h, g, d, tk, os⟩ := s
  dsimp only at *
  have L2 : Looks (model prog w) h (isType (.ref e)) false := fun A' Q' E' s' k q => by
    unfold isType loadHead
    exact wpAny_bind (wpAny_loadPart (k _ _ he) (wpAny_pure q))
  have L3 := looks_mroIn (M := model prog w) X O.ei.mb
  have L4 : Looks (model prog w) h (typeOf (.ref e)) (.ref C) := fun A' Q' E' s' k q => by
    unfold typeOf
    exact wpAny_bind (wpAny_loadPart (k _ _ he) (wpAny_pure q))
  have L5 : Looks (model prog w) h (isInstance (.ref e) (.type "BaseException")) true := L4.andThen L3
  have L6 : Looks (model prog w) h (isExcClass (.ref e)) false := by
    intro A' Q' E' s' k q
    unfold isExcClass
    refine wpAny_bind (L2 _ _ _ _ k ?_)
    rw [if_neg Bool.false_ne_true]
    exact wpAny_pure q
  refine wpAny_bind (wpAny_holding (hc _ _ (wpAny_bind (wpAny_pure ?_))))
  refine wpAny_bind (wpAny_holding ?_)
  unfold excFromValue
  refine wpAny_bind (L6.at ?_)
  rw [if_neg Bool.false_ne_true]
  refine wpAny_bind (L5.at ?_)
  rw [if_pos rfl]
  refine wpAny_pure ?_
  dsimp only
  rw [if_pos (by decide)]
  refine wpAny_bind (wpAny_pure ?_)
  refine wpAny_bind (wpAny_setField he rfl (by simp) ?_)
  have e1 := Heap.get?_update_self (Obj.mapFields (·.setIfInBounds 3 Value.none)) he rfl
  have o1 : ∀ b, b ≠ e → (h.update e (Obj.mapFields (·.setIfInBounds 3 Value.none))).get? b = h.get? b := fun b hb => Heap.get?_update_other _ _ (Ne.symm hb)
  refine wpAny_bind (wpAny_setField e1 rfl (by simp) ?_)
  have e2 := Heap.get?_update_self (Obj.mapFields (·.setIfInBounds 4 (Value.bool true))) e1 rfl
  have o2 : ∀ b, b ≠ e → ((h.update e (Obj.mapFields (·.setIfInBounds 3 Value.none))).update e (Obj.mapFields (·.setIfInBounds 4 (Value.bool true)))).get? b = h.get? b := fun b hb => (Heap.get?_update_other _ _ (Ne.symm hb)).trans (o1 b hb)
  generalize (h.update e (Obj.mapFields (·.setIfInBounds 3 Value.none))).update e (Obj.mapFields (·.setIfInBounds 4 (Value.bool true))) = h2 at e2 o2 ⊢
  have k2 : ∀ b o, h0.get? b = some o → h2.get? b = some o := fun b o hb => (o2 b (fun z => by rw [z, M.new] at hb; cases hb)).trans (M.keeps b o hb)
  have X2 : K.In h2 := fun a o q => k2 _ _ (X0 a o q)
  have e3 : h2.get? e = some { cls := .ref C, data := .fields #[.ref t, .none, .none, .none, .bool true, .none] } := by rw [e2]; rfl
  clear e2
  have T : Looks (model prog w) h2 (isType (.ref e)) false := fun A' Q' E' s' k q => by
    unfold isType loadHead
    exact wpAny_bind (wpAny_loadPart (k _ _ e3) (wpAny_pure q))
  have T4 : Looks (model prog w) h2 (typeOf (.ref e)) (.ref C) := fun A' Q' E' s' k q => by
    unfold typeOf
    exact wpAny_bind (wpAny_loadPart (k _ _ e3) (wpAny_pure q))
  refine wpAny_bind (T.at ?_)
  rw [if_neg Bool.false_ne_true]
  unfold raisedInstance
  refine wpAny_bind (wpAny_bind (T4.at (wpAny_bind ((looks_typeIn X2 O.ty).at ?_))))
  rw [if_pos (by decide)]
  refine wpAny_pure ?_
  unfold setFlight
  refine wpAny_bind (wpAny_bind (wpAny_field e3 rfl (x := Value.none) rfl ?_))
  rw [if_neg (show ¬ ((Value.none != Value.none) = true) by decide)]
  refine wpAny_pure ?_
  simp only [raiseNew]
  refine wpAny_bind (wpAny_handled ?_)
  rw [hh]
  dsimp only
  rw [if_pos (show (Value.ref e0 != Value.ref e) = true by simpa using ne.symm)]
  refine wpAny_bind (wpAny_holding (unchain_lone (lo.keeps k2) ?_))
  unfold updateField
  refine wpAny_bind (wpAny_bind (wpAny_load e3 ?_))
  dsimp only
  rw [if_pos (by simp)]
  refine wpAny_update e3 (wpAny_throw (hq _ ⟨fun b o hb => ?_, M.new, t, ?_⟩))
  · exact (Heap.get?_update_other _ _ (fun z => by rw [← z, M.new] at hb; cases hb)).trans (k2 b o hb)
  · rw [Heap.get?_update_self _ e3 rfl]
    rfl
end
abbrev Xhr (X : Cx) (e : Addr) : Cx := Xh X e
theorem Inv.toHr {X : Cx} {pins : List (Addr × Obj)} {σ : St} {H : Hp} {s : Shared} (I : Inv X pins σ H s) (e : Addr) : Inv (Xhr X e) pins σ H s :=
  ⟨⟨I.ok.mod, I.ok.kind, I.ok.glob, I.ok.blt, I.ok.above, I.ok.inj, I.ok.has, I.ok.cab, (fun h => Bool.noConfusion h), I.ok.frames, I.ok.stk, I.ok.exf, I.ok.bs, I.ok.bsz, I.ok.noex, I.ok.exfs, I.ok.funs, I.ok.frf⟩, I.os, I.bare, I.base, I.loc, I.cell, I.free, I.freeC, I.pin, I.hok, I.len⟩
theorem Inv.ofHr {X : Cx} {pins : List (Addr × Obj)} {σ : St} {H : Hp} {s : Shared} {e : Addr} (I : Inv (Xhr X e) pins σ H s) (ok : X.Ok) : Inv X pins σ H s := ⟨ok, I.os, I.bare, I.base, I.loc, I.cell, I.free, I.freeC, I.pin, I.hok, I.len⟩
theorem FlyE.make0 {P : Program} {w : World} {fr : List Env} {H H' : Hp} {h h' h'' : Heap} {e : Addr} {cls a0 fl : Value} {B : Heap} {bb : Option Addr} (fun_ : Un (frs fr) [] H H' h h') (fhok : HOk P w H' h') (ff : h'.FunFrames B fr) (fold : ∀ b o o', h.get? b = some o → b ∉ frs fr → h'.get? b = some o' → B.get? b = some o')
    (ftrk : ∀ b u o', H' b = some u → h'.get? b = some o' → B.get? b = some o') (ffrf : ∀ b ∈ frs fr, H' b = none) (kb : B.StaysIn h'') (en : B.get? e = none) (ff2 : h''.FunFrames B fr) (tr : h''.TracedAtW B e cls a0 fl) (sm : h'.UpToSlots h'') (lo : Lone h'' e bb) : FlyE P w fr [] H h e cls a0 fl B H' h'' bb where
  un := by
    refine ⟨fun b o q n hb hx => ?_, fun b o q n hb hx => ?_, fun_.free, fun b o q hx => ?_, fun_.tups, fun_.frzs, fun_.tbls⟩
    · have e1 := fun_.keep b o q n hb hx
      exact kb b o (fold b o o q hb e1)
    · obtain ⟨sl, e1⟩ := fun_.slot b o q n hb hx
      obtain ⟨_, o1, e2, nf⟩ := ff.mem hb
      rw [e1] at e2; cases e2
      obtain ⟨sl', e3⟩ := sm b _ e1 nf
      exact ⟨sl', e3⟩
    · obtain ⟨o1, e1⟩ := fun_.there b o q hx
      by_cases hb : b ∈ frs fr
      · obtain ⟨_, o2, e2, nf⟩ := ff.mem hb
        rw [e1] at e2; cases e2
        obtain ⟨sl', e3⟩ := sm b _ e1 nf
        exact ⟨_, e3⟩
      · exact ⟨o1, kb b o1 (fold b o o1 q hb e1)⟩
  hok := fun a o q => (fhok a o q).stay (fun b u hb z => by
      rcases hb with rfl | hb
      · exact kb b u (ftrk b _ u q z)
      · exact kb b u (ftrk b _ u hb z)) (fun _ z => z) fun _ _ z => z
  kb := kb
  en := en
  ff := ff2
  tr := tr
  old := fun b o o' q _ hb z => by
    obtain ⟨o1, e1⟩ := fun_.there b o q (by simp)
    have e2 := fold b o o1 q hb e1
    have e3 := kb b o1 e2
    rw [z] at e3; cases e3
    exact e2
  trk := fun b u o' q z => by
    obtain ⟨o1, e1⟩ := (fhok b u q).here
    have e2 := ftrk b u o1 q e1
    have e3 := kb b o1 e2
    rw [z] at e3; cases e3
    exact e2
  frf := ffrf
  lo := lo
theorem noted_out {X : Cx} {pins : List (Addr × Obj)} {σ : St} {H : Hp} {s : Shared} {E : XK} {h' : Heap} {e c : Addr} {cls : Value} {hv : Option Value} (tp : Topp X) (pc : PassC X E) (I : Inv X pins σ H s) (M : MadeN s.heap h' e cls (.ref c)) (q : E cls (some c) H) :
    notedBy (model X.prog X.w) (X.A.mark hv) X.env (fun x s₂ => cameBackBy (model X.prog X.w) X.A X.env X.xe x s₂) (.ref e) { s with heap := h' } := by
  obtain ⟨env0, outer0, L, h1, h2, h3⟩ := tp
  obtain ⟨t, he⟩ := M.there
  have st := I.stack
  have ff := PySem.W.funFrames_hide (as := frs X.stack) st fun env hm a ha => List.mem_filterMap.mpr ⟨env, hm, ha⟩
  have hen : (PySem.W.hideAll s.heap (frs X.stack)).get? e = none := by
    cases z : (PySem.W.hideAll s.heap (frs X.stack)).get? e with
    | none => rfl
    | some o => have := PySem.W.of_hideAll _ z; rw [M.new] at this; cases this
  have fr : (X.A.mark hv).frames = some (env0 :: outer0) := I.ok.frames.trans (by rw [h1])
  have ffm : h'.FunFrames (PySem.W.hideAll s.heap (frs X.stack)) X.stack := ff.of_keeps fun b o hb _ => ⟨o, M.keeps b o hb, rfl⟩
  have ffm' := ffm
  rw [h1] at ffm'
  unfold notedBy
  rw [note_frame (env := env0) (env' := X.env) (h3.trans h2.symm)]
  unfold noteFrame
  simp only [h2]
  refine wpAny_bind (wpAny_field he rfl (x := Value.none) rfl ?_)
  rw [if_neg (by decide)]
  rw [← h1] at ffm'
  refine entry_lone (b := some c) (c := .ref c) (B := PySem.W.hideAll s.heap (frs X.stack)) (a0 := .ref t) fr (by rw [← h1]; exact ffm) h2 he (fun b o z => M.keeps b o (PySem.W.of_hideAll _ z)) hen rfl rfl rfl (fun z => by cases z) fun g hn l' => ?_
  rw [← h1] at hn
  obtain ⟨f1, f3, f4, sm⟩ := hn
  have F : FlyE X.prog X.w X.stack [] H s.heap e cls (.ref t) (rawInt L) (PySem.W.hideAll s.heap (frs X.stack)) H g (some c) :=
    FlyE.make0 (h' := h') (Un.kept M.keeps) (I.hok.kept M.keeps) ffm (fun b o o' z hb zz => by
      have := M.keeps b o z
      rw [zz] at this; cases this
      exact PySem.W.hideAll_get _ z hb) (fun b u o' z zz => by
      obtain ⟨o1, e1⟩ := (I.hok b u z).here
      have := M.keeps b o1 e1
      rw [zz] at this; cases this
      exact PySem.W.hideAll_get _ e1 fun hb => by rw [I.stkFree b hb] at z; cases z) I.stkFree f1 hen f3 f4 sm l'
  unfold cameBackBy
  obtain ⟨oe, vs, T, oT, ts, g1, g2, g4, g5, _⟩ := f4
  refine wpAny_bind (wpAny_field g1 g4 g5 ?_)
  rw [if_neg (by simp)]
  refine set_any (s := { s with heap := g }) F fun h4 F4 _ => ?_
  exact pc pins σ H s [] e cls (.ref t) _ _ H (some c) { s with heap := h4 } I (fun b hb => nomatch hb) rfl I.bare F4 q
def tHn (K : Frag) (D : Addr) (E : XK) (C : Addr) (ta : TA) (th : TH) : TH := fun Dn σ cls e H => ∃ C1 b, cls = .ref C1 ∧ ExcM K C1 D b ∧
  if b = true then ta σ (upd H e (.exc e C1)) (fun vs H1 => vs.length ≤ sizeLine ∧ H1 e = some (.exc e C1) ∧ ∀ c, E (.ref C) (some c) H1) else th Dn σ cls e H
section
variable {X : Cx} {hs : List ExceptHandler} {th : TH} {D C : Addr} {x n : Str} {np pos cp p1 p2 p3 p4 : Pos} {e₀ : Expr} {rest : List Expr} {ta : TA} {E : XK} {k : Nat}
theorem ph_consN (tp : Topp X) (pc : PassC X E) (O : ExcR X.K C) (hg : Gl X x) (hm : X.mg x = some (.ref D)) (hg2 : Gl X n) (hm2 : X.mg n = some (.ref C)) (ha : ∀ e, PA (Xhr X e) (e₀ :: rest) ta) (hr : PH X hs th) (hdb : (x == ("__debug__" : Str)) = false := by decide) (hdb2 : (n == ("__debug__" : Str)) = false := by decide)
    (he : starEach (e₀ :: rest) X.env = (false, eval e₀ X.env) :: starEach rest X.env := by rfl) (hpl : (backTo cp (starEach rest X.env)).any (·.1) = false := by rfl) :
    PH X (.ExceptHandler (some (.Name x np)) none [.Raise (some (.Call (.Name n p1) (e₀ :: rest) [] cp)) (some (.Constant .none k p2)) p3] pos :: hs) (tHn X.K D E C ta th) := by
  intro pins s σ H Dn e cls hh h
  obtain ⟨C1, b, rfl, m, h⟩ := h
  have I := hh.inv
  refine wpAny_handleBy_cons (codeAny_handlers_test (ld_glob (X := Xh X e) (I.toH e) hg hm ?_ hdb)) (by intro q; cases q)
  refine exc_matches m I.kIn hh.eat ?_
  cases b with
  | false => exact hr pins s σ H Dn e _ hh (by rw [if_neg Bool.false_ne_true] at h; exact h)
  | true =>
    rw [if_pos rfl] at h
    refine codeAny_handlers_suite (hh.lands fun h' hh' => ?_)
    have I2 : Inv (Xhr X e) pins σ (upd H e (.exc e C1)) { s with heap := h' } := hh'.track.toHr e
    refine wpAny_execs_cons ?_
    rw [arm_exec_Raise]
    refine wpAny_bind (wpAny_standAt (raise_made_none (e0 := e) (K := X.K) (C := C) rfl O (fun s Q q => ?_) ?_))
    · exact wpAny_bind (Constant_none (wpAny_bind (wpAny_standAt (wpAny_pure q))))
    · refine wpAny_bind (wpAny_Call_Name_kw (ld_glob (X := Xhr X e) I2 hg2 hm2 ?_ hdb2))
      refine PySem.W.callWith_K (h₀ := X.base) I.ok.mod.kin O.kp (wpAny_mono (ha e cp pins _ σ _ _ I2 h) (fun us s1 ⟨vs, H1, I1, r, q⟩ => ⟨I1.kIn, ?_⟩) fun ev s1 z => False.elim z) he hpl
      obtain ⟨z, hx, qE⟩ := q
      obtain ⟨tl, N, nm, q, bs, hdct, sn, sub, ab, col, dd, k0, k1, k2, k3, k5, mN, hC, hN, hni, T⟩ := (own_in I1.mod.kin hm2 O.ec).obj
      obtain ⟨x0, _, _⟩ := I1.hok e _ hx
      have lo := EAt.lone x0
      have T1 := T.keeps I1.bk
      have N1 := hN.keeps I1.bk
      have C1' := I1.bk _ _ hC
      have J := I1.ofHr I.ok
      have kin := I1.kIn
      obtain ⟨h1, g1, d1, t1, os1⟩ := s1
      refine wpAny_call_exc_subT PySem.F.excBase_ValueError T1 C1' N1 hni (fun h2 e2 M => ?_) (by rw [List.nil_append, ← r.length]; exact z)
      refine wpAny_bind (wpAny_standAt (wpAny_pure ⟨e2, _, h1, rfl, kin, lo, M, fun h3 mn => ?_⟩))
      exact noted_out (s := { heap := h1, gens := g1, drawn := d1, toks := t1, os := os1 }) tp pc J mn (qE _)
end
end L2
namespace Sw
open PySem L2
def spReadOrdX (C : Addr) : Sp := fun vs H Q E => ∃ (v : V) (d : PyData), vs = [v] ∧ DT H (fun _ => True) v d ∧ (∀ x, d = .str x → x.length ≤ 990) ∧ (∀ n xs, OrTx d n xs → ∀ t H', H t = none → H' t = some (.tup (xs.map V.int)) → Same H H' → Q (.ref t) H') ∧ ((∀ n xs, ¬ OrTx d n xs) → ∀ bb H', Same H H' → E (.ref C) bb H')
structure TRoX (P : Program) (w : World) (K : PySem.W.Frag) (mg : Str → Option Value) (base : Heap) (C CN : Addr) : Prop extends T1 mg K where
  f_check_text : FnAtX P w K mg base "check_text" 1 ["thing"] (spChkX C)
  f_read_things : FnAtX P w K mg base "read_things" 2 ["text"] (spReadThX C)
  f_many_things : FnAtX P w K mg base "many_things" 1 ["lists"] (spManyX C)
  f_made : FnAtX P w K mg base "made" 4 ["n", "lists"] (spMadeX CN)
  f_show_order : FnAt P w K mg base "show_order" 4 ["order"] spShowOrd
  c_NoText : mg "NoText" = some (.ref C)
  x_NoText : ExcC K C
  n_NoText : ExcR K C
  c_NoRounds : mg "NoRounds" = some (.ref CN)
  em : ExcM K CN CN true
section
variable {P : Program} {w : World} {K : PySem.W.Frag} {mg : Str → Option Value} {base : Heap} {u : Value} {C CN : Addr}
theorem ok_readordX {f : Addr} {fd : FuncData} (F : Fun K "read_order" "read_order" (top 32) f fd) (T : TRoX P w K mg base C CN) : FnOk P w K mg base (CX1 P w) 5 f fd ["text"] (spReadOrdX C) := by
  refine F.okX sc_read_order (fun vs H Q E h => ?_) (fun cdv A outer s H vs Q E hr h => ?_)
  · obtain ⟨v, d, rfl, _⟩ := h
    rfl
  · obtain ⟨v, d, rfl, hd, hlen, kY, kN⟩ := h
    refine ⟨_, (pss_cons (ps_expr (pe_callX1 T.f_check_text pass1 (hr.mono (by decide)) rfl (pa_cons (pv 0) pa_nil)))
      (pss_cons (ps_compX (N := (["inner"] : List Str)) (ix := ([none] : List (Option Nat))) (i := 1) topp1 passC1  sc_read_order.nd rfl rfl  (comp_ok rfl rfl) rfl (pi_listK (K := K) rfl (pe_bmK (K := K) rfl PySem.F.plainAttrs_str PySem.F.slot_str_split PySem.F.type_str_split mt_split (pe_slice sl_str (pv 0) (po_some pe_int) (po_some (pe_un un_neg pe_int))) (pa_cons pe_str pa_nil))) (fun _ _ _ _ => (pg_name (i := 0) (show List.Nodup (["inner"] : List Str) from by decide +kernel) rfl (Or.inl rfl))) (fun _ _ _ _ => pif_nil) (fun _ _ _ _ => (pe_callX1 T.f_read_things (PassC.passes passCC) (hr.mono (by decide)) rfl (pa_cons (pv 0) pa_nil))))
      (pss_cons (ps_set (i := 2) sc_read_order.nd rfl (Or.inl rfl) (pe_callX1 T.f_many_things pass1 (hr.mono (by decide)) rfl (pa_cons (pv 1) pa_nil)))
      (pss_cons (ps_try (fun _ _ => (pss_one (ps_set (i := 3) sc_read_order.nd rfl (Or.inl rfl) (pe_callXT T.f_made (hr.mono (by decide)) rfl (pa_cons (pv 2) (pa_cons (pv 1) pa_nil)))))) (ph_consN topp1 passC1 T.n_NoText rfl T.c_NoRounds rfl T.c_NoText (fun _ => (pa_cons pe_str pa_nil)) ph_nil))
      (pss_cons (ps_if (pt_cmpR op_ne (pe_callF T.f_show_order (hr.mono (by first | decide | omega)) rfl (pa_cons (pv 3) pa_nil)) (pv 0) (nomark _)) (pss_one (ps_raise lvs1 T.x_NoText rfl rfl T.c_NoText (pa_cons pe_str pa_nil))) pss_nil)
      (pss_one (ps_ret (pv 3)))))))), ?_⟩
    have big : (10000000 : Nat) ≤ sizeLine := by decide
    have one : 1 ≤ sizeLine := by decide
    by_cases hst : ∃ x, d = .str x
    case neg => exact ⟨_, rfl, .inr ⟨_, _, _, rfl, hd, fun x z => hst ⟨x, z⟩, kN (fun n S z => hst ⟨_, z.1⟩) none H (Same.refl _)⟩⟩
    obtain ⟨x, rfl⟩ := hst
    cases hd
    have xl := hlen x rfl
    refine ⟨_, rfl, .inl ⟨_, rfl, ?_⟩⟩
    have sll : (Txt.slice x (some 1) (some (-1))).length ≤ x.length := Txt.slice_le _ _ _
    refine ⟨_, rfl, 1, rfl, _, rfl, _, rfl, _, rfl, by omega, rfl, _, _, rfl, rfl, by decide +kernel, by omega, fun l1 f1 => ⟨l1, rfl, ⟨_, SqL.of upd_same⟩, ?_⟩⟩
    have wl := split_le (Txt.slice x (some 1) (some (-1))) (Str.ofString ")(")
    have wp : ∀ z ∈ Txt.split (Txt.slice x (some 1) (some (-1))) (Str.ofString ")("), z.length ≤ (Txt.slice x (some 1) (some (-1))).length := fun z hz => split_part_le hz
    have wne := split_ne (Txt.slice x (some 1) (some (-1))) (Str.ofString ")(")
    have fwd : ∀ n xs, OrTx (.str x) n xs → Txt.split (Txt.slice x (some 1) (some (-1))) (Str.ofString ")(") = (rndM n xs).map thT ∧ (∀ r ∈ rndM n xs, ThOk r) := fun n xs h => h.split rfl
    generalize Txt.split (Txt.slice x (some 1) (some (-1))) (Str.ofString ")(") = ws at wl wp wne fwd ⊢
    have s1 : Same H (upd H l1 (.lst (ws.map V.str))) := Same.new f1
    have h1 : upd H l1 (.lst (ws.map V.str)) l1 = some (.lst (ws.map V.str)) := upd_same
    generalize upd H l1 (.lst (ws.map V.str)) = H1 at s1 h1 ⊢
    have ll : (ws.map V.str).length = ws.length := by rw [List.length_map]
    refine compL (K := K) (a := l1) (xs := ws.map V.str) (k := 0) (fun i ys σ' H' => (∃ v0, σ' = [v0]) ∧ Same H1 H' ∧ ∃ S : List (List Int), Lsts H' ys S ∧ ws.take i = S.map thT ∧ (∀ r ∈ S, ThOk r) ∧ ∀ r ∈ S, r.length ≤ 1000) (by omega) ⟨⟨none, rfl⟩, Same.refl _, [], .nil, rfl, by simp, by simp⟩ (fun i ys σ' H' _ q => SqL.of (q.2.1 _ _ h1)) (fun i ys σ' H' q => ?_) ?_ ?_
    · obtain ⟨_, _, S, e1, e2, _⟩ := q
      have e1 := e1.length
      have e2 := congrArg List.length e2
      rw [List.length_map, List.length_take] at e2
      omega
    · rintro i ys σ' H2 z R hx ⟨⟨v0, rfl⟩, s2, S, x2, eS, bS, lS⟩ done
      obtain ⟨wd, hw, rfl⟩ : ∃ wd, ws[i]? = some wd ∧ V.str wd = z := by
        rw [List.getElem?_map] at hx
        cases e : ws[i]? with
        | none => rw [e] at hx; cases hx
        | some e' => rw [e] at hx; exact ⟨e', rfl, Option.some.inj hx⟩
      have wdl := wp wd (List.mem_of_getElem? hw)
      refine ⟨_, rfl, wd, rfl, by omega, fun r hr' l2 H3 fl2 h3 s3 => ?_, fun no H3 s3 => ?_⟩
      · refine done _ _ _ ⟨⟨_, rfl⟩, s2.trans s3, S ++ [r], (x2.keep s3).snoc h3, ?_, fun q hq => ?_, fun q hq => ?_⟩
        · rw [List.take_succ, hw, eS, List.map_append, hr'.1]
          rfl
        · rcases List.mem_append.mp hq with hq | hq
          · exact bS q hq
          · rw [List.mem_singleton.mp hq]; exact hr'.2
        · rcases List.mem_append.mp hq with hq | hq
          · exact lS q hq
          · rw [List.mem_singleton.mp hq]
            have e := congrArg List.length hr'.split
            rw [List.length_map] at e
            have := split_le wd (Str.ofString " ")
            omega
      · refine kN (fun n Z hZ => ?_) none _ (s1.trans (s2.trans s3))
        obtain ⟨e, b⟩ := fwd n Z hZ
        have m : wd ∈ (rndM n Z).map thT := by rw [← e]; exact List.mem_of_getElem? hw
        obtain ⟨a, ha, rfl⟩ := List.mem_map.mp m
        exact no a ⟨rfl, b a ha⟩
    · rintro ys σ' H2 q ⟨⟨v0, rfl⟩, s2, S, x2, eS, bS, lS⟩ fq
      rw [List.take_of_length_le (by omega)] at eS
      have s3 : Same H2 (upd H2 q (.lst ys)) := Same.new fq
      have x3 := x2.keep s3
      have s13 := s1.trans (s2.trans s3)
      have h3 : upd H2 q (.lst ys) q = some (.lst ys) := upd_same
      have fqH := (s1.trans s2).free fq
      generalize upd H2 q (.lst ys) = H3 at s3 x3 s13 h3 ⊢
      have yl := x3.length
      have sl := congrArg List.length eS
      rw [List.length_map] at sl
      have only : ∀ n Z, OrTx (.str x) n Z → rndM n Z = S ∧ (S.flatten.length : Int) = n ∧ Fine n S ∧ n ≤ 12 ∧ madeM n S = Z ∧ x = ordT S := fun n Z hZ => by
        obtain ⟨e, b⟩ := fwd n Z hZ
        have es := map_th_inj b bS (e.symm.trans eS)
        obtain ⟨h1, o, n1, n12⟩ := hZ
        have := (or_ok o n1 n12).2.2.2
        injection h1 with h1
        refine ⟨es, by rw [← es]; exact this, by rw [← es]; exact rnd_fine o, n12, by rw [← es]; exact made_rnd o, by rw [← es]; exact h1⟩
      have npos : 1 ≤ S.flatten.length := by
        cases S with
        | nil => exact absurd eS wne
        | cons a S =>
          have := List.length_pos_iff.mpr (bS a List.mem_cons_self).1
          rw [List.flatten_cons, List.length_append]; omega
      refine ⟨_, rfl, q, ys, S, rfl, h3, x3, by omega, fun l12 H4 s4 => ?_, fun nl H4 s4 => kN (fun n Z hZ => ?_) none _ (s13.trans s4)⟩
      · obtain ⟨n, hn⟩ : ∃ n : Int, (S.flatten.length : Int) = n := ⟨_, rfl⟩
        rw [hn]
        refine ⟨_, rfl, _, rfl, n, q, ys, S, rfl, by omega, by omega, s4 _ _ h3, x3.keep s4, by omega, lS, fun fn t H5 ft ht s5 => ?_, fun nf H5 s5 e he => ?_⟩
        · have cv : Cov n S := by
            refine cov_of (fun L hL => (bS L hL).1) fn.2 hn fun a a1 a2 => ?_
            have pm := perm_allL fn.2 (bs := ivl 1 (n + 1)) (fun y hy => by
              obtain ⟨r, hr', hy⟩ := List.mem_flatten.mp hy
              exact ivl_mem3.mpr ((fn.1 r hr').2 y hy)) (by rw [ivl_length]; omega)
            exact pm.mem_iff.mpr (ivl_mem3.mpr ⟨a1, a2⟩)
          have o := made_ord cv
          have ft0 := (s13.trans s4).free ft
          refine ⟨_, rfl, t, n, madeM n S, rfl, ht, o, by omega, fun H6 s6 => ⟨_, rfl, rfl, _, rfl, ite2 (fun c => ?_) (fun c => ?_)⟩⟩
          · refine ⟨one, kN (fun m Z hZ => ?_) none _ (s13.trans (s4.trans (s5.trans s6)))⟩
            obtain ⟨e1, e2, _, _, e5, e6⟩ := only m Z hZ
            have : m = n := by omega
            subst this
            rw [e5, e1, ← e6, decide_eq_true rfl] at c
            exact absurd c (by decide)
          · have e : ordT (rndM n (madeM n S)) = x := by
              apply Classical.byContradiction
              intro z
              exact c (by rw [decide_eq_false (fun q => z (by injection q))]; rfl)
            exact ⟨_, rfl, kY n (madeM n S) ⟨by rw [e], o, by omega, by omega⟩ t H6 ft0 (s6 _ _ ht) (s13.trans (s4.trans (s5.trans s6)))⟩
        · refine ⟨CN, true, rfl, T.em, iteT ⟨one, upd_same, fun c => kN (fun m Z hZ => ?_) (some c) _ (s13.trans (s4.trans (s5.trans (Same.new he))))⟩⟩
          obtain ⟨_, e2, e3, _⟩ := only m Z hZ
          have : m = n := by omega
          subst this
          exact nf e3
      · obtain ⟨_, e2, _, n12, _⟩ := only n Z hZ
        exact nl (by omega)
end
end Sw
namespace Sw
open PySem L2
section
variable {P : Program} {w : World} {K : PySem.W.Frag} {mg : Str → Option Value} {base : Heap}
theorem sc__law_rounds : FnScope ["_law_order_here", "_law_found", "_law_met", "_law_first", "_law_some"] ["_law_order_here"] (defScope (top 37)) := ⟨rfl, rfl, rfl, by decide +kernel, rfl, by decide +kernel, by decide +kernel⟩
theorem ok_lrounds {f : Addr} {fd : FuncData} (F : Fun K "_law_rounds" "_law_rounds" (top 37) f fd) (T : T1 mg K) : FnOk P w K mg base CX0 1 f fd ["_law_order_here"] spRounds := by
  refine F.ok sc__law_rounds (fun vs H Q E h => ?_) (fun cdv A outer s H vs Q E hr h => ?_)
  · obtain ⟨t, n, xs, rfl, _⟩ := h
    rfl
  · obtain ⟨t, n, xs, rfl, ht, o, hn, k⟩ := h
    refine ⟨_, (pss_cons (ps_set (i := 1) sc__law_rounds.nd rfl (Or.inl rfl) (pe_lst pa_nil))
      (pss_cons (ps_set (i := 2) sc__law_rounds.nd rfl (Or.inl rfl) (pe_lst pa_nil))
      (pss_cons (ps_for PassesOwn.never rfl (pi_range2 rfl T.b_range (pa_cons pe_int (pa_cons (pe_op op_add (pe_callB (call_lenK (K := K) rfl) rfl T.b_len (by decide +kernel) (pa_cons (pv 0) pa_nil)) pe_int) pa_nil))) (pg_name (i := 3) sc__law_rounds.nd rfl (Or.inl rfl)) (pss_one (ps_if (pt_cmpR (op_notInK (K := K) rfl) (pv 3) (pv 2) rfl) (pss_cons (ps_set (i := 4) sc__law_rounds.nd rfl (Or.inl rfl) (pe_lst (pa_cons (pv 3) pa_nil)))
      (pss_cons (ps_while PassesOwn.never (pt_cmpR op_ne (pe_ix (ix_tupK (K := K) rfl) (pv 0) (pe_op op_sub (pe_ix (ix_listK (K := K) rfl) (pv 4) (pe_un un_neg pe_int) (fun _ _ => rfl)) pe_int) (fun _ _ => rfl)) (pv 3) (nomark _)) (pss_one (ps_expr (pe_bmK (K := K) rfl PySem.F.plainAttrs_list PySem.F.slot_list_append PySem.F.type_list_append mt_append (pv 4) (pa_cons (pe_ix (ix_tupK (K := K) rfl) (pv 0) (pe_op op_sub (pe_ix (ix_listK (K := K) rfl) (pv 4) (pe_un un_neg pe_int) (fun _ _ => rfl)) pe_int) (fun _ _ => rfl)) pa_nil)))))
      (pss_cons (ps_set (i := 2) sc__law_rounds.nd rfl (Or.inl rfl) (pe_op op_cat (pv 2) (pv 4)))
      (pss_one (ps_expr (pe_bmK (K := K) rfl PySem.F.plainAttrs_list PySem.F.slot_list_append PySem.F.type_list_append mt_append (pv 1) (pa_cons (pv 4) pa_nil))))))) pss_nil)))
      (pss_one (ps_ret (pv 1)))))), ?_⟩
    have ol := o.length
    have big : (10000000 : Nat) ≤ sizeLine := by decide
    refine ⟨Nat.zero_le _, fun lf hlf => ⟨Nat.zero_le _, fun lm hlm => ?_⟩⟩
    have nfm : lf ≠ lm := by intro z; subst z; rw [upd_same] at hlm; cases hlm
    have s1 : Same H (upd H lf (.lst [])) := Same.new hlf
    have s2 := s1.trans (Same.new (o := .lst []) hlm)
    refine ⟨_, rfl, t, _, rfl, .inr (SqT.of (s2 _ _ ht)), _, _, rfl, rfl, 1, _, rfl, ⟨by decide, by decide, by omega, by rw [List.length_map]; omega⟩, ?_⟩
    refine for_range (fun i σ H' => ∃ lm ws ms v3 v4, σ = [some (.ref t), some (.ref lf), some (.ref lm), v3, v4] ∧ Same H H' ∧ lf ≠ lm ∧ H' lf = some (.lst ws) ∧ H' lm = some (.lst (ms.map V.int)) ∧ Lsts H' ws ((((ivl 1 (n + 1)).take i).filter (least xs)).map (orb xs)) ∧ Fresh H ws ∧ V.ref lf ∉ ws ∧ ws.length ≤ i ∧ ms.length ≤ i * 1000 ∧ ∀ y, y ∈ ms ↔ ∃ m ∈ ((ivl 1 (n + 1)).take i).filter (least xs), y ∈ orb xs m)
      ⟨lm, [], [], _, _, rfl, s2, nfm, by rw [upd_ne nfm, upd_same], upd_same, .nil, Fresh.nil, by simp, Nat.le_refl _, Nat.le_refl _, by intro y; simp⟩ ?_ ?_
    · rintro i σ H' hi ⟨lm, ws, ms, v3, v4, rfl, s3, nfm, hf3, hm3, x3, fr3, nf3, wl, ml, mm⟩
      rw [List.length_map] at hi
      have hi' : (i : Int) < n := by omega
      have ef : ((ivl 1 (n + 1)).take (i + 1)) = (ivl 1 (n + 1)).take i ++ [1 + (i : Int)] := by rw [List.take_succ, get_ivl (by omega)]; rfl
      have b1 : (1 : Int) ≤ 1 + i := by omega
      have b2 : (1 : Int) + i ≤ n := by omega
      have ml2 := met_least o hi'
      refine ⟨_, rfl, _, rfl, lm, _, rfl, .inl (SqL.of hm3), rfl, flat_ints ms, _, rfl, ?_⟩
      show if (!inV (.int (1 + (i : Int))) (ms.map V.int)) = true then _ else _
      rw [inV_int]
      refine ite2 (fun c => ?_) (fun c => ?_)
      · have c : ¬ (1 + (i : Int)) ∈ ms := by simpa using c
        have hL : least xs (1 + i) = true := ml2.mpr (fun z => c ((mm _).mpr z))
        refine ⟨_, rfl, (by show 1 ≤ sizeLine; decide), fun la hla => ?_⟩
        have fla : H la = none := s3.free hla
        have nfa : lf ≠ la := ne_of_none hf3 hla
        have nma : lm ≠ la := ne_of_none hm3 hla
        have pl := per_le o b1 b2
        have naw : V.ref la ∉ ws := fun z => by
          obtain ⟨ns, e⟩ := x3.mem z
          rw [hla] at e; cases e
        refine ⟨fun m σ H2 => ∃ j, m = per xs (1 + i) - j ∧ 1 ≤ j ∧ j ≤ per xs (1 + i) ∧ σ = [some (.ref t), some (.ref lf), some (.ref lm), some (.int (1 + (i : Int))), some (.ref la)] ∧ H2 = upd H' la (.lst (((List.range j).map fun k => itn (ld xs) k (1 + i)).map V.int)), ⟨_, 1, rfl, Nat.le_refl _, by unfold per; omega, rfl, rfl⟩, ?_⟩
        rintro m σ H2 ⟨j, rfl, j1, j2, rfl, rfl⟩
        have ir := itn_in o b1 b2 (j - 1)
        have s4 : Same H (upd H' la (.lst (((List.range j).map fun k => itn (ld xs) k (1 + i)).map V.int))) := Same.put s3 fla
        have gl : atI (((List.range j).map fun k => itn (ld xs) k (1 + (i : Int))).map V.int) (-1) = some (.int (itn (ld xs) (j - 1) (1 + i))) := by
          refine at_last (k := j - 1) (by rw [List.length_map, List.length_range]; omega) ?_
          rw [List.getElem?_map, List.getElem?_range (by omega)]
          rfl
        have gt : atI (xs.map V.int) (itn (ld xs) (j - 1) (1 + i) - 1) = some (.int (itn (ld xs) j (1 + i))) := by
          have q := at_int (ns := xs) (i := itn (ld xs) (j - 1) (1 + i) - 1) (by omega) (ld_get o ir.1 ir.2)
          rw [q]
          obtain ⟨j', rfl⟩ : ∃ j', j = j' + 1 := ⟨j - 1, by omega⟩
          rfl
        refine ⟨_, rfl, _, rfl, 1, rfl, la, _, _, _, rfl, rfl, SqL.of upd_same, gl, _, _, rfl, rfl, t, _, _, _, rfl, rfl, SqT.of (s4 _ _ ht), gt, _, rfl, rfl, _, rfl, ite2 (fun c2 => ?_) (fun c2 => ?_)⟩
        · have c2 : itn (ld xs) j (1 + i) ≠ 1 + (i : Int) := by simpa using c2
          have lt : j < per xs (1 + i) := by
            by_cases e : j = per xs (1 + i)
            · rw [e] at c2; exact absurd (per_eq o b1 b2) c2
            · omega
          refine ⟨fun σ' H2 => σ' = [some (.ref t), some (.ref lf), some (.ref lm), some (.int (1 + (i : Int))), some (.ref la)] ∧ H2 = upd H' la (.lst (((List.range (j + 1)).map fun k => itn (ld xs) k (1 + i)).map V.int)), fun σ' H2 ⟨e1, e2⟩ => ⟨_, (by show per xs (1 + i) - (j + 1) < _; omega), j + 1, rfl, by omega, by omega, e1, e2⟩, ?_⟩
          refine ⟨_, rfl, .inl ⟨rfl, _, SqL.of upd_same⟩, _, rfl, _, rfl, 1, rfl, la, _, _, _, rfl, rfl, SqL.of upd_same, gl, _, _, rfl, rfl, t, _, _, _, rfl, rfl, SqT.of (s4 _ _ ht), gt, la, _, _, rfl, rfl, upd_same, by simp; omega, rfl, ?_⟩
          rw [upd_upd, List.range_succ, List.map_append, List.map_append]
          rfl
        · have c2 : itn (ld xs) j (1 + i) = 1 + (i : Int) := by simpa using c2
          have e : j = per xs (1 + i) := by
            apply Classical.byContradiction
            intro z
            exact per_ne (by omega) (by omega) c2
          subst e
          have hla4 : upd H' la (.lst (((List.range (per xs (1 + i))).map fun k => itn (ld xs) k (1 + i)).map V.int)) la = some (.lst ((orb xs (1 + i)).map V.int)) := upd_same
          have hf4 : upd H' la (.lst (((List.range (per xs (1 + i))).map fun k => itn (ld xs) k (1 + i)).map V.int)) lf = some (.lst ws) := by rw [upd_ne nfa]; exact hf3
          have hm4 : upd H' la (.lst (((List.range (per xs (1 + i))).map fun k => itn (ld xs) k (1 + i)).map V.int)) lm = some (.lst (ms.map V.int)) := by rw [upd_ne nma]; exact hm3
          have x4 := x3.keep (Same.new (o := .lst (((List.range (per xs (1 + i))).map fun k => itn (ld xs) k (1 + i)).map V.int)) hla)
          generalize upd H' la (.lst (((List.range (per xs (1 + i))).map fun k => itn (ld xs) k (1 + i)).map V.int)) = H4 at s4 hla4 hf4 hm4 x4 ⊢
          have ol2 := orb_length xs (1 + i)
          refine ⟨_, rfl, _, rfl, lm, la, _, _, rfl, rfl, hm4, hla4, by rw [List.length_map, List.length_map]; omega, fun l5 f5 => ?_⟩
          have nf5 : lf ≠ l5 := ne_of_none hf4 f5
          refine ⟨_, rfl, .inl ⟨rfl, _, SqL.of (by rw [upd_ne nf5]; exact hf4)⟩, _, rfl, lf, _, _, rfl, rfl, (by rw [upd_ne nf5]; exact hf4), by omega, ?_⟩
          have s5 := s4.trans (Same.new (o := .lst (ms.map V.int ++ (orb xs (1 + i)).map V.int)) f5)
          refine ⟨l5, ws ++ [.ref la], ms ++ orb xs (1 + i), _, _, rfl, Same.put s5 hlf, nf5, upd_same, ?_, ?_, fr3.snoc x3 hla fla, ?_, ?_, ?_, ?_⟩
          · rw [upd_ne nf5.symm, upd_same, List.map_append]
          · rw [ef, List.filter_append, List.map_append, List.filter_cons_of_pos hL]
            refine Lsts.off ((x4.keep (Same.new f5)).snoc (by rw [upd_ne (ne_of_none hla4 f5)]; exact hla4)) ?_
            intro z
            rcases List.mem_append.mp z with z | z
            · exact nf3 z
            · exact nfa (by simpa using z)
          · intro z
            rcases List.mem_append.mp z with z | z
            · exact nf3 z
            · exact nfa (by simpa using z)
          · rw [List.length_append, List.length_singleton]; omega
          · rw [List.length_append]; omega
          · intro y
            rw [ef, List.filter_append, List.filter_cons_of_pos hL, List.filter_nil, List.mem_append, mm]
            constructor
            · rintro (⟨m, h1, h2⟩ | h)
              · exact ⟨m, List.mem_append_left _ h1, h2⟩
              · exact ⟨1 + i, List.mem_append_right _ (List.mem_singleton.mpr rfl), h⟩
            · rintro ⟨m, h1, h2⟩
              rcases List.mem_append.mp h1 with z | z
              · exact .inl ⟨m, z, h2⟩
              · rw [List.mem_singleton.mp z] at h2; exact .inr h2
      · have c : (1 + (i : Int)) ∈ ms := by simpa using c
        have hL : least xs (1 + i) = false := by
          cases e : least xs (1 + (i : Int)) with
          | false => rfl
          | true => exact absurd ((mm _).mp c) (ml2.mp e)
        have e2 : ((ivl 1 (n + 1)).take (i + 1)).filter (least xs) = ((ivl 1 (n + 1)).take i).filter (least xs) := by
          rw [ef, List.filter_append, List.filter_cons_of_neg (by rw [hL]; decide), List.filter_nil, List.append_nil]
        refine ⟨lm, ws, ms, _, _, rfl, s3, nfm, hf3, hm3, ?_, fr3, nf3, by omega, by omega, ?_⟩
        · rw [e2]; exact x3
        · rw [e2]; exact mm
    · rintro σ H' ⟨lm, ws, ms, v3, v4, rfl, s3, nfm, hf3, hm3, x3, fr3, nf3, wl, ml, mm⟩
      have e3 : (ivl 1 (n + 1)).take (((xs.map V.int).length : Int) + 1 - 1).toNat = ivl 1 (n + 1) := List.take_of_length_le (by rw [ivl_length, List.length_map]; omega)
      rw [e3] at x3
      exact ⟨_, rfl, k lf ws H' hlf hf3 x3 fr3 nf3 s3⟩
end
end Sw
namespace Sw
open PySem L2
theorem Lsts.takeX {H : Hp} : ∀ {vs : List V} {r : List (List Int)} (k : Nat), Lsts H vs r → Lsts H (vs.take k) (r.take k)
  | _, _, 0, _ => .nil
  | _, _, _ + 1, .nil => .nil
  | _, _, k + 1, .cons h x => .cons h (x.takeX k)
theorem Lsts.dropX {H : Hp} : ∀ {vs : List V} {r : List (List Int)} (k : Nat), Lsts H vs r → Lsts H (vs.drop k) (r.drop k)
  | _, _, 0, x => x
  | _, _, _ + 1, .nil => .nil
  | _, _, k + 1, .cons _ x => x.dropX k
def LokO (T : List (List Int)) : Prop := T.length ≤ 24 ∧ ∀ L ∈ T, L.length ≤ 13 ∧ ∀ x ∈ L, 0 ≤ x ∧ x < 100
theorem thT_lenX {r : List Int} (h : ∀ x ∈ r, 0 ≤ x ∧ x < 100) : (thT r).length ≤ r.length * 3 := by
  have h1 := StrLaws.join_length_le (Str.ofString " ") (r.map numT)
  have h2 := StrLaws.sumLen_le (B := 2) (r.map numT) (fun y hy => by
    obtain ⟨a, ha, rfl⟩ := List.mem_map.mp hy
    exact PyProof.Rows.toString_length_le (h a ha).1 (by decide) (show a < 10 ^ 2 by have := (h a ha).2; omega))
  have h3 : (Str.ofString " ").length = 1 := by decide +kernel
  rw [List.length_map] at h1 h2
  rw [h3] at h1
  unfold thT
  omega
theorem rdT_len (r : List Int) : (rdT r).length = (thT r).length + 2 := by
  rw [← signs_len, signs_rd, List.length_cons, List.length_append, signs_len, List.length_singleton]
theorem ordT_lenX {T : List (List Int)} (h : ∀ L ∈ T, L.length ≤ 13 ∧ ∀ x ∈ L, 0 ≤ x ∧ x < 100) : (ordT T).length ≤ T.length * 41 := by
  have h1 := StrLaws.join_length_le (Str.ofString "") (T.map rdT)
  have h2 := StrLaws.sumLen_le (B := 41) (T.map rdT) (fun y hy => by
    obtain ⟨L, hL, rfl⟩ := List.mem_map.mp hy
    have := thT_lenX (h L hL).2
    have := (h L hL).1
    rw [rdT_len]
    omega)
  have h3 : (Str.ofString "").length = 0 := by decide +kernel
  rw [List.length_map] at h1 h2
  rw [h3] at h1
  unfold ordT
  omega
theorem LokO.len {T : List (List Int)} (h : LokO T) : (ordT T).length ≤ 984 := by
  have := ordT_lenX h.2
  have := h.1
  omega
def spLtx1 : Sp := fun vs H Q _ => ∃ (l : Addr) (ws : List V) (T : List (List Int)), vs = [.ref l] ∧ H l = some (.lst ws) ∧ Lsts H ws T ∧ LokO T ∧ ∀ H', Same H H' → Q (.str (ordT T)) H'
structure TLtx1 (mg : Str → Option Value) (K : PySem.W.Frag) : Prop extends T1 mg K where
  b_str : mg "str" = none
def OkTx (d : PyData) : Prop := (∃ x, d = .str x ∧ x.length ≤ 990) ∨ ((∀ x, d ≠ .str x) ∧ d.canLay0 = true ∧ d.depth ≤ 60)
theorem tC_go7 {v : V} {σ : St} {H : Hp} {Q : VK} (h : Q v H) : tC v σ H Q := h
section
variable {P : Program} {w : World} {K : PySem.W.Frag} {mg : Str → Option Value} {base : Heap}
theorem sc__law_text : FnScope ["_law_lists"] ["_law_lists"] (defScope (top 40)) := ⟨rfl, rfl, rfl, by decide +kernel, rfl, by decide +kernel, by decide +kernel⟩
theorem ok_ltx1 {f : Addr} {fd : FuncData} (F : Fun K "_law_text" "_law_text" (top 40) f fd) (T : TLtx1 mg K) : FnOk P w K mg base CX0 1 f fd ["_law_lists"] spLtx1 := by
  refine F.ok sc__law_text (fun vs H Q E h => ?_) (fun cdv A outer s H vs Q E hr h => ?_)
  · obtain ⟨l, ws, S, rfl, _⟩ := h
    rfl
  · obtain ⟨l, ws, S, rfl, hl, xl, ok, k⟩ := h
    refine ⟨_, (pss_one (ps_ret (pe_bmK (K := K) rfl PySem.F.plainAttrs_str PySem.F.slot_str_join PySem.F.type_str_join (mt_join (K := K) rfl) pe_str (pa_cons (pe_comp (N := (["_law_some"] : List Str)) (ix := ([none] : List (Option Nat))) (comp_ok rfl rfl) rfl (pi_listK (K := K) rfl (pv 0)) (fun _ _ _ _ => (pg_name (i := 0) (show List.Nodup (["_law_some"] : List Str) from by decide +kernel) rfl (Or.inl rfl))) (fun _ _ _ _ => pif_nil) (fun _ _ _ _ => (pe_op op_add_str (pe_op op_add_str pe_str (pe_bmK (K := K) rfl PySem.F.plainAttrs_str PySem.F.slot_str_join PySem.F.type_str_join (mt_join (K := K) rfl) pe_str (pa_cons (pe_comp (N := (["_law_thing"] : List Str)) (ix := ([none] : List (Option Nat))) (comp_ok rfl rfl) rfl (pi_listK (K := K) rfl (pv 0)) (fun _ _ _ _ => (pg_name (i := 0) (show List.Nodup (["_law_thing"] : List Str) from by decide +kernel) rfl (Or.inl rfl))) (fun _ _ _ _ => pif_nil) (fun _ _ _ _ => (pe_callTy call_str_int rfl T.b_str (by decide +kernel) (pa_cons (pv 0) pa_nil)))) pa_nil))) pe_str))) pa_nil)))), ?_⟩
    have big : (10000000 : Nat) ≤ sizeLine := by decide
    have wl := xl.length
    have sl := ok.1
    refine ⟨rfl, _, rfl, l, rfl, ⟨_, SqL.of hl⟩, compL (K := K) (a := l) (xs := ws) (k := 0) (fun i ys σ' H' => ys = ((S.take i).map rdT).map V.str ∧ (∃ v0, σ' = [v0]) ∧ Same H H') (by omega) ⟨rfl, ⟨none, rfl⟩, Same.refl _⟩ (fun i ys σ' H' _ q => SqL.of (q.2.2 _ _ hl)) (fun i ys σ' H' q => by rw [q.1, List.length_map, List.length_map, List.length_take]; omega) ?_ ?_⟩
    · rintro i ys σ' H1 x R hx ⟨rfl, ⟨v0, rfl⟩, s1⟩ done
      obtain ⟨b, r, rfl, hb, hr'⟩ := (xl.keep s1).get hx
      have g := ok.2 r (List.mem_of_getElem? hr')
      have tl := thT_lenX g.2
      refine ⟨rfl, _, rfl, b, rfl, ⟨_, SqL.of hb⟩, compL (K := K) (a := b) (xs := r.map V.int) (k := 0) (fun i ys σ' H' => ys = ((r.take i).map numT).map V.str ∧ (∃ v0, σ' = [v0]) ∧ H' = H1) (by rw [List.length_map]; omega) ⟨rfl, ⟨none, rfl⟩, rfl⟩ (fun i ys σ' H' _ q => by rw [q.2.2]; exact SqL.of hb) (fun i ys σ' H' q => by rw [q.1, List.length_map, List.length_map, List.length_take]; omega) ?_ ?_⟩
      · rintro j zs σ2 H' x' R' hx' ⟨rfl, ⟨v1, rfl⟩, rfl⟩ done'
        obtain ⟨z, rfl, hz⟩ := mem_int hx'
        obtain ⟨z0, z9⟩ := g.2 z (List.mem_of_getElem? hz)
        refine ⟨_, rfl, z, rfl, small_log z0 (by omega), done' _ _ _ ⟨?_, ⟨_, rfl⟩, rfl⟩⟩
        rw [take_succ_map numT hz, List.map_append]
        rfl
      · rintro zs σ2 H' q ⟨rfl, ⟨v1, rfl⟩, e0⟩ fq
        have e0 := e0.symm
        subst e0
        rw [List.take_of_length_le (by rw [List.length_map]; omega)]
        have bl : (Str.ofString "(").length = 1 := by decide +kernel
        have cl : (Str.ofString ")").length = 1 := by decide +kernel
        refine ⟨_, q, r.map numT, rfl, rfl, SqL.of upd_same, joinOk_small (B := 9) (by decide +kernel) (fun y hy => ?_) (by decide) (by rw [List.length_map]; omega), _, _, rfl, rfl, (by show (Str.ofString "(").length + (thT r).length ≤ sizeLine; omega), _, _, rfl, rfl, (by show (Str.ofString "(" ++ thT r).length + (Str.ofString ")").length ≤ sizeLine; rw [Str.length_append]; omega), done _ _ _ ⟨?_, ⟨_, rfl⟩, s1.trans (Same.new fq)⟩⟩
        · obtain ⟨z, hz, rfl⟩ := List.mem_map.mp hy
          exact num_len (g.2 z hz).1 (by have := (g.2 z hz).2; omega)
        · rw [take_succ_map rdT hr', List.map_append]
          rfl
    · rintro ys σ' H1 q ⟨rfl, ⟨v0, rfl⟩, s1⟩ fq
      rw [List.take_of_length_le (by omega)]
      refine ⟨_, q, S.map rdT, rfl, rfl, SqL.of upd_same, joinOk_small (B := 202) (by decide +kernel) (fun y hy => ?_) (by decide) (by rw [List.length_map]; omega), k _ (s1.trans (Same.new fq))⟩
      obtain ⟨r, hr', rfl⟩ := List.mem_map.mp hy
      have g := ok.2 r hr'
      have := thT_lenX g.2
      have := g.1
      rw [rdT_len]
      omega
end
end Sw
namespace L2
open PySem PySem.Spec PyProof.Rows
section
variable {X : Cx} {K : PySem.W.Frag}
def rIndexT : V → List V → Hp → VK → Prop := fun x vs H Q => ∃ (t : Addr) (ts : List Str) (w : Str) (j : Nat), x = .ref t ∧ vs = [.str w] ∧ H t = some (.lst (ts.map V.str)) ∧ ts[j]? = some w ∧ (∀ m, m < j → ts[m]? ≠ some w) ∧ Q (.int (j : Int)) H
theorem mt_indexT : MtR X "list.index" rIndexT := by
  intro pins s σ H x vs v us Q I rx rv h
  obtain ⟨l, ts, w, j, rfl, rfl, hH, hj, hno, q⟩ := h
  cases rx
  obtain ⟨u, rfl, ru⟩ := rv.one
  obtain ⟨tk, rfl⟩ := ru
  obtain ⟨z, its, n, r, hl, e⟩ := I.lstM hH
  have at_ : ∀ m (hm : m < its.toArray.size), ∃ (z : Str) (t : Tok), its.toArray[m] = .str z t ∧ ts[m]? = some z := fun m hm => by
    have hm1 : m < its.length := by simpa using hm
    have hm2 : m < (ts.map V.str).length := by have := r.length; omega
    obtain ⟨u, hu', ru⟩ := r.get (List.getElem?_eq_getElem hm2)
    rw [List.getElem?_eq_getElem hm1] at hu'
    have hm3 : m < ts.length := by rw [List.length_map] at hm2; exact hm2
    rw [List.getElem_map] at ru
    obtain ⟨t, ht⟩ := ru
    refine ⟨ts[m], t, ?_, List.getElem?_eq_getElem hm3⟩
    rw [List.getElem_toArray, Option.some.inj hu', ht]
  have jl : j < its.length := by
    have := r.length
    rw [List.length_map] at this
    have := (List.getElem?_eq_some_iff.mp hj).1
    omega
  have sz : its.length ≤ sizeLine := by omega
  refine call_meets F.slot_list_index ⟨_, e, rfl⟩ F.entry_list_index (F.args_list_index_2 _ _) (MeetsSeq.list_index l its.toArray n (.str w tk) (fun y => match y with | .str z _ => z.cps.toList == w.cps.toList | _ => false) (fun y hy => ?_) j (by simpa using jl) ?_ ?_ ?_) ⟨e, ?_⟩
  · obtain ⟨m, hm, rfl⟩ := Array.mem_iff_getElem.mp hy
    obtain ⟨z, tk', e1, e2⟩ := at_ m hm
    rw [e1]
    exact SeqRoads2.EqGives.str z w tk' tk
  · have : sizeLine < 2 ^ 63 - 1 := by decide
    omega
  · obtain ⟨z, tk', e1, e2⟩ := at_ j (by simpa using jl)
    rw [e1]
    rw [hj] at e2
    cases e2
    simp
  · intro m hm lt
    obtain ⟨z, tk', e1, e2⟩ := at_ m hm
    rw [e1]
    have := hno m lt
    rw [e2] at this
    exact beq_eq_false_iff_ne.mpr fun z' => this (by rw [Str.ext' (Array.toList_inj.mp z')])
  · exact ⟨.int (j : Int), H, I.tok _, ⟨_, rfl⟩, q⟩
end
end L2
namespace Sw
open PySem L2
def spRd71 : Sp := fun vs H Q _ => ∃ (v : V) (d : PyData), vs = [v] ∧ DT H (fun _ => True) v d ∧ OkTx d ∧
  (∀ n xs, OrTx d n xs → ∀ t H', H t = none → H' t = some (.tup (xs.map V.int)) → Same H H' → Q (.ref t) H') ∧ ((∀ n xs, ¬ OrTx d n xs) → ∀ H', Same H H' → Q .non H')
structure TRd71 (P : Program) (w : World) (K : PySem.W.Frag) (mg : Str → Option Value) (base : Heap) : Prop extends T1 mg K where
  b_str : mg "str" = none
  b_sorted : mg "sorted" = none
  b_min : mg "min" = none
def KB (a b : Addr) (H H' : Hp) : Prop := ∀ c o, c ≠ a → c ≠ b → H c = some o → H' c = some o
theorem KB.refl {a b : Addr} {H : Hp} : KB a b H H := fun _ _ _ _ e => e
theorem KB.trans {a b : Addr} {H G J : Hp} (h : KB a b H G) (g : KB a b G J) : KB a b H J := fun c o n m e => g c o n m (h c o n m e)
theorem Same.kb {a b : Addr} {H G : Hp} (s : Same H G) : KB a b H G := fun c o _ _ e => s c o e
theorem KB.one {a b : Addr} {H : Hp} {o : HO} : KB a b H (upd H a o) := fun c o' n _ e => by rw [upd_ne n]; exact e
theorem KB.two {a b : Addr} {H : Hp} {o : HO} : KB a b H (upd H b o) := fun c o' _ n e => by rw [upd_ne n]; exact e
theorem KB.same {a b : Addr} {H G J : Hp} (s : Same H G) (k : KB a b G J) (ha : H a = none) (hb : H b = none) : Same H J := fun c o e => k c o (fun z => by rw [z, ha] at e; cases e) (fun z => by rw [z, hb] at e; cases e) (s c o e)
theorem flat_pre {Z : List (List Int)} {i j : Nat} {L : List Int} {a : Int} (nd : Z.flatten.Nodup) (hL : Z[i]? = some L) (ha : L[j]? = some a) : a ∉ (Z.take i).flatten ++ L.take j := by
  obtain ⟨hi, hi'⟩ := List.getElem?_eq_some_iff.mp hL
  obtain ⟨hj, hj'⟩ := List.getElem?_eq_some_iff.mp ha
  have e1 : Z = Z.take i ++ L :: Z.drop (i + 1) := by rw [← hi', ← List.drop_eq_getElem_cons hi, List.take_append_drop]
  have e2 : L = L.take j ++ a :: L.drop (j + 1) := by rw [← hj', ← List.drop_eq_getElem_cons hj, List.take_append_drop]
  rw [e1, List.flatten_append, List.flatten_cons] at nd
  have nd2 : ((Z.take i).flatten ++ (L.take j ++ (a :: (L.drop (j + 1) ++ (Z.drop (i + 1)).flatten)))).Nodup := by
    have e3 : L ++ (Z.drop (i + 1)).flatten = L.take j ++ (a :: (L.drop (j + 1) ++ (Z.drop (i + 1)).flatten)) := by
      conv => lhs; rw [e2]
      simp
    rw [← e3]; exact nd
  rw [← List.append_assoc] at nd2
  intro z
  exact (List.nodup_append.mp nd2).2.2 a z a List.mem_cons_self rfl
theorem lay_strs : ∀ ts : List Str, (∀ t ∈ ts, PyData.strOk t = true) → PyData.canLayAll0 (ts.map PyData.str) = true
  | [], _ => by simp [PyData.canLayAll0]
  | t :: ts, h => by
    have := lay_strs ts fun x hx => h x (List.mem_cons_of_mem _ hx)
    have h0 := h t List.mem_cons_self
    simp [PyData.canLayAll0, PyData.canLay0, this, h0]
theorem depth_strs : ∀ ts : List Str, PyData.depthAll (ts.map PyData.str) ≤ 1
  | [] => by simp [PyData.depthAll]
  | t :: ts => by
    have := depth_strs ts
    simp only [List.map_cons, PyData.depthAll, PyData.depth]
    omega
theorem strs_dat {K : PySem.W.Frag} {H : Hp} : ∀ ts : List Str, DatAll K H (fun _ => True) (ts.map V.str) (ts.map PyData.str)
  | [] => .nil
  | t :: ts => .cons (.str t) (strs_dat ts)
theorem neSt {K : PySem.W.Frag} {H : Hp} {t u : Addr} {ts : List Str} {Q : VK} (h1 : H t = some (.lst (ts.map V.str))) (h2 : H u = some (.lst [])) (ok : ∀ t ∈ ts, PyData.strOk t = true) (q : Q (.bl (!decide (ts = []))) H) : rNeD K (.ref t) (.ref u) H Q := by
  refine ⟨fun _ => True, .list (ts.map PyData.str), .list [], .lst (SqL.of h1) True.intro (strs_dat ts), .lst (SqL.of h2) True.intro .nil, ?_, rfl, ?_, ?_⟩
  · unfold PyData.canLay0; exact lay_strs ts ok
  · unfold PyData.depth; have := depth_strs ts; omega
  · have e : PyData.eqv (.list (ts.map PyData.str)) (.list []) = decide (ts = []) := by
      cases ts with
      | nil => unfold PyData.eqv; rfl
      | cons a r => unfold PyData.eqv; rfl
    rw [e]; exact q
theorem flat_few {S : List (List Int)} (nd : S.flatten.Nodup) (b : ∀ r ∈ S, ∀ x ∈ r, 1 ≤ x ∧ x ≤ 12) : S.flatten.length ≤ 12 := by
  have := sub_leA nd (bs := ivl 1 13) fun x hx => by
    obtain ⟨r, hr, hx⟩ := List.mem_flatten.mp hx
    have := b r hr x hx
    exact mem_ivl.mpr (by omega)
  rw [ivl_length] at this
  exact this
theorem num_memb {ms : List Int} {a : Int} (ha : 1 ≤ a ∧ a ≤ 12) (hm : ∀ x ∈ ms, 1 ≤ x ∧ x ≤ 12) : numT a ∈ ms.map numT ↔ a ∈ ms := by
  rw [List.mem_map]
  constructor
  · rintro ⟨b, hb, e⟩
    have := hm b hb
    rw [num_inj (by omega) (by omega) (by omega) (by omega) e] at hb
    exact hb
  · exact fun h => ⟨a, h, rfl⟩
theorem ex_minL : ∀ {L : List Int}, L ≠ [] → ∃ M ∈ L, ∀ a ∈ L, M ≤ a
  | [], h => absurd rfl h
  | [a], _ => ⟨a, List.mem_singleton.mpr rfl, fun b hb => by rw [List.mem_singleton.mp hb]; omega⟩
  | a :: b :: r, _ => by
    obtain ⟨M, h1, h2⟩ := ex_minL (L := b :: r) (by simp)
    by_cases c : a ≤ M
    · exact ⟨a, List.mem_cons_self, fun z hz => by
        rcases List.mem_cons.mp hz with rfl | hz
        · omega
        · have := h2 z hz; omega⟩
    · exact ⟨M, List.mem_cons_of_mem _ h1, fun z hz => by
        rcases List.mem_cons.mp hz with rfl | hz
        · omega
        · exact h2 z hz⟩
theorem th12 {r : List Int} (ne : r ≠ []) (h : ∀ x ∈ r, 1 ≤ x ∧ x ≤ 12) : ThOk r := ⟨ne, fun x hx => by have := h x hx; omega⟩
section
variable {P : Program} {w : World} {K : PySem.W.Frag} {mg : Str → Option Value} {base : Heap}
theorem sc__law_read : FnScope ["_law_text_here", "_law_words", "_law_lists", "_law_met", "_law_part", "_law_lacking", "_law_goals", "_law_some", "_law_word", "_law_k"] ["_law_text_here"] (defScope (top 42)) := ⟨rfl, rfl, rfl, by decide +kernel, rfl, by decide +kernel, by decide +kernel⟩
theorem ok_rd71 {f : Addr} {fd : FuncData} (F : Fun K "_law_read" "_law_read" (top 42) f fd) (T : TRd71 P w K mg base) : FnOk P w K mg base CX0 2 f fd ["_law_text_here"] spRd71 := by
  refine F.ok sc__law_read (fun vs H Q E h => ?_) (fun cdv A outer s H vs Q E hr h => ?_)
  · obtain ⟨v, d, rfl, _⟩ := h
    rfl
  · obtain ⟨v, d, rfl, hd, ok, kY, kN⟩ := h
    have hu := hu_of hr
    refine ⟨_, (pss_cons (ps_set (i := 1) sc__law_read.nd rfl (Or.inr rfl) (pe_comp (N := (["_law_k"] : List Str)) (ix := ([none] : List (Option Nat))) (comp_ok rfl rfl) rfl (pi_range2 rfl T.b_range (pa_cons pe_int (pa_cons pe_int pa_nil))) (fun _ _ _ _ => (pg_name (i := 0) (show List.Nodup (["_law_k"] : List Str) from by decide +kernel) rfl (Or.inl rfl))) (fun _ _ _ _ => pif_nil) (fun _ _ _ _ => (pe_callTy call_str_int rfl T.b_str (by decide +kernel) (pa_cons (pv 0) pa_nil)))))
      (pss_cons (ps_if (PW.pt (pw_or (pt_not (pt_val (pe_callB (call_isiK (K := K) rfl) rfl T.b_isinstance (by decide +kernel) (pa_cons (pv 0) (pa_cons (pe_bltn (v := .ty "str") rfl T.b_str (by decide +kernel) rfl) pa_nil))))) (pw_or (pt_cmpR op_ne (pe_slice sl_str (pv 0) po_none (po_some pe_int)) pe_str (nomark _)) (pw_or1 (pt_cmpR op_ne (pe_slice sl_str (pv 0) (po_some (pe_un un_neg pe_int)) po_none) pe_str (nomark _)))))) (pss_one (ps_ret pe_non)) pss_nil)
      (pss_cons (ps_set (i := 2) sc__law_read.nd rfl (Or.inl rfl) (pe_lst pa_nil))
      (pss_cons (ps_set (i := 3) sc__law_read.nd rfl (Or.inr rfl) (pe_lst pa_nil))
      (pss_cons (ps_for PassesOwn.never rfl (pi_listK (K := K) rfl (pe_bmK (K := K) rfl PySem.F.plainAttrs_str PySem.F.slot_str_split PySem.F.type_str_split mt_split (pe_slice sl_str (pv 0) (po_some pe_int) (po_some (pe_un un_neg pe_int))) (pa_cons pe_str pa_nil))) (pg_name (i := 4) sc__law_read.nd rfl (Or.inl rfl)) (pss_cons (ps_for PassesOwn.never rfl (pi_listK (K := K) rfl (pe_bmK (K := K) rfl PySem.F.plainAttrs_str PySem.F.slot_str_split PySem.F.type_str_split mt_split (pv 4) (pa_cons pe_str pa_nil))) (pg_name (i := 8) sc__law_read.nd rfl (Or.inl rfl)) (pss_cons (ps_if (PW.pt (pw_or (pt_cmpR (op_notInK (K := K) rfl) (pv 8) (pv 1) rfl) (pw_or1 (pt_cmpR (op_inK (K := K) rfl) (pv 8) (pv 3) rfl)))) (pss_one (ps_ret pe_non)) pss_nil)
      (pss_one (ps_expr (pe_bmK (K := K) rfl PySem.F.plainAttrs_list PySem.F.slot_list_append PySem.F.type_list_append mt_append (pv 3) (pa_cons (pv 8) pa_nil))))))
      (pss_one (ps_expr (pe_bmK (K := K) rfl PySem.F.plainAttrs_list PySem.F.slot_list_append PySem.F.type_list_append mt_append (pv 2) (pa_cons (pe_comp (N := (["_law_word", "_law_words"] : List Str)) (ix := ([none, some 1] : List (Option Nat))) (comp_ok rfl rfl) rfl (pi_listK (K := K) rfl (pe_bmK (K := K) rfl PySem.F.plainAttrs_str PySem.F.slot_str_split PySem.F.type_str_split mt_split (pv 4) (pa_cons pe_str pa_nil))) (fun _ _ _ _ => (pg_name (i := 0) (show List.Nodup (["_law_word", "_law_words"] : List Str) from by decide +kernel) rfl (Or.inl rfl))) (fun _ _ _ _ => pif_nil) (fun _ _ _ _ => (pe_op op_add (pe_bmK (K := K) rfl PySem.F.plainAttrs_list PySem.F.slot_list_index PySem.F.type_list_index mt_indexT (pv 1) (pa_cons (pv 0) pa_nil)) pe_int))) pa_nil))))))
      (pss_cons (ps_comp (i := 5) sc__law_read.nd rfl rfl (N := (["_law_word", "_law_met"] : List Str)) (ix := ([none, some 3] : List (Option Nat))) (comp_ok rfl rfl) rfl (pi_listK (K := K) rfl (pe_slice (sl_listK (K := K) rfl) (pv 1) po_none (po_some (pe_callB (call_lenK (K := K) rfl) rfl T.b_len (by decide +kernel) (pa_cons (pv 3) pa_nil))))) (fun _ _ _ _ => (pg_name (i := 0) (show List.Nodup (["_law_word", "_law_met"] : List Str) from by decide +kernel) rfl (Or.inl rfl))) (fun _ _ _ _ => (pif_one (pt_cmpR (op_notInK (K := K) rfl) (pv 0) (pv 1) rfl))) (fun _ _ _ _ => (pv 0)))
      (pss_cons (ps_if (PW.pt (pw_or (pt_cmpR (op_neD hr.units) (pv 5) (pe_lst pa_nil) (nomark _)) (pw_or1 (pt_cmpR (op_neD hr.units) (pv 2) (pe_callB (call_sortedLL (K := K) rfl hr.units) rfl T.b_sorted (by decide +kernel) (pa_cons (pv 2) pa_nil)) (nomark _))))) (pss_one (ps_ret pe_non)) pss_nil)
      (pss_cons (ps_set (i := 6) sc__law_read.nd rfl (Or.inr rfl) pe_dnewK)
      (pss_cons (ps_for PassesOwn.never rfl (pi_listK (K := K) rfl (pv 2)) (pg_name (i := 7) sc__law_read.nd rfl (Or.inl rfl)) (pss_cons (ps_if (pt_cmpR op_ne (pe_ix (ix_listK (K := K) rfl) (pv 7) pe_int (fun _ _ => rfl)) (pe_callB (call_minL (K := K) rfl rfl) rfl T.b_min (by decide +kernel) (pa_cons (pv 7) pa_nil)) (nomark _)) (pss_one (ps_ret pe_non)) pss_nil)
      (pss_one (ps_for PassesOwn.never rfl (pi_range1 rfl T.b_range (pa_cons (pe_callB (call_lenK (K := K) rfl) rfl T.b_len (by decide +kernel) (pa_cons (pv 7) pa_nil)) pa_nil)) (pg_name (i := 9) sc__law_read.nd rfl (Or.inl rfl)) (pss_one (ps_dput hu (pv 6) (pe_ix (ix_listK (K := K) rfl) (pv 7) (pv 9) (fun _ _ => rfl)) (pe_ix (ix_listK (K := K) rfl) (pe_op op_cat (pv 7) (pv 7)) (pe_op op_add (pv 9) pe_int) (fun _ _ => rfl)) rfl))))))
      (pss_one (ps_ret (pe_callTy (call_tuple_ofK (K := K) rfl) rfl T.b_tuple (by decide +kernel) (pa_cons (pe_comp (N := (["_law_thing", "_law_goals"] : List Str)) (ix := ([none, some 6] : List (Option Nat))) (comp_ok rfl rfl) rfl (pi_range2 rfl T.b_range (pa_cons pe_int (pa_cons (pe_op op_add (pe_callB (call_lenK (K := K) rfl) rfl T.b_len (by decide +kernel) (pa_cons (pv 3) pa_nil)) pe_int) pa_nil))) (fun _ _ _ _ => (pg_name (i := 0) (show List.Nodup (["_law_thing", "_law_goals"] : List Str) from by decide +kernel) rfl (Or.inl rfl))) (fun _ _ _ _ => pif_nil) (fun _ _ _ _ => (pe_dget hu (pv 1) (pv 0) (fun _ _ => rfl)))) pa_nil))))))))))))), ?_⟩
    have big : (10000000 : Nat) ≤ sizeLine := by decide
    have one : 1 ≤ sizeLine := by decide
    refine ⟨1, 13, rfl, ⟨by decide, by decide, by decide, by decide⟩, compR (k := 0) (fun i ys σ' H' => ys = (((ivl 1 13).take i).map numT).map V.str ∧ (∃ v, σ' = [v]) ∧ H' = H) (by decide) ⟨rfl, ⟨none, rfl⟩, rfl⟩ (fun i ys σ' H' q => by rw [q.1, List.length_map, List.length_map, List.length_take]; omega) ?_ ?_⟩
    · rintro i ys σ' H' R hi ⟨rfl, ⟨v0, rfl⟩, rfl⟩ done
      have hi : i < 12 := hi
      refine ⟨_, rfl, 1 + (i : Int), rfl, small_log (by omega) (by omega), done _ _ _ ⟨?_, ⟨_, rfl⟩, rfl⟩⟩
      rw [take_succ_map numT (get_ivl (lo := 1) (hi := 13) (i := i) hi), List.map_append]
      rfl
    rintro ys σ' H' lw ⟨rfl, ⟨v0, rfl⟩, e0⟩ flw
    have e0 := e0.symm
    subst e0
    rw [List.take_of_length_le (by rw [ivl_length]; exact Nat.le_refl _)]
    rw [show (ivl 1 13).map numT = wn 12 from rfl]
    have s1 : Same H (upd H lw (.lst ((wn 12).map V.str))) := Same.new flw
    have hw1 : upd H lw (.lst ((wn 12).map V.str)) lw = some (.lst ((wn 12).map V.str)) := upd_same
    generalize upd H lw (.lst ((wn 12).map V.str)) = H1 at s1 hw1 ⊢
    have hd1 := hd.keep fun b o _ e => s1 b o e
    by_cases hst : ∃ x, d = .str x
    case neg =>
      have no : ∀ n S, ¬ OrTx d n S := fun n S z => hst ⟨_, z.1⟩
      refine ⟨_, rfl, _, _, "str", _, rfl, hd1.ty, kit_strX K hd1, _, rfl, ?_⟩
      cases hd1 <;> first | exact iteT (kN no H1 s1) | exact absurd ⟨_, rfl⟩ hst
    obtain ⟨x, rfl⟩ := hst
    cases hd1
    have xl : x.length ≤ 990 := by
      rcases ok with ⟨y, e, h⟩ | ⟨h, _⟩
      · injection e with e; rw [e]; exact h
      · exact absurd rfl (h x)
    refine ⟨_, rfl, _, _, "str", _, rfl, .str _, kit_self _ _, true, rfl, iteF ?_⟩
    have xls : x.length ≤ sizeLine := by omega
    have brk : ∀ n Z, OrTx (.str x) n Z → Txt.slice x none (some 1) = Str.ofString "(" ∧ Txt.slice x (some (-1)) none = Str.ofString ")" := fun n Z hZ => by
      obtain ⟨h1, o, n1, n12⟩ := hZ
      injection h1 with h1
      have ne := (or_ok o n1 n12).1
      have sg := signs_ord ne
      rw [← h1] at sg
      have sl := signs_len x
      rw [sg, List.length_cons, List.length_append, List.length_singleton] at sl
      refine ⟨signs_ext ?_, signs_ext ?_⟩
      · rw [slc_to x (by decide), sg]
        show [40] = signs (Str.ofString "(")
        decide +kernel
      · rw [slc_last (by omega), sg]
        rw [show x.length - 1 = (glue2 41 40 (((rndM n Z).map thT).map signs)).length + 1 by omega, List.drop_succ_cons, List.drop_left]
        decide +kernel
    refine ⟨_, rfl, 1, rfl, _, rfl, xls, rfl, _, rfl, ite2 (fun c => ?_) (fun c1 => ?_)⟩
    · refine kN (fun n Z hZ => ?_) H1 s1
      rw [(brk n Z hZ).1, decide_eq_true rfl] at c
      exact absurd c (by decide)
    refine ⟨_, rfl, _, rfl, -1, rfl, _, rfl, xls, rfl, _, rfl, ite2 (fun c => ?_) (fun c2 => ?_)⟩
    · refine kN (fun n Z hZ => ?_) H1 s1
      rw [(brk n Z hZ).2, decide_eq_true rfl] at c
      exact absurd c (by decide)
    have b1 : Txt.slice x none (some 1) = Str.ofString "(" := by
      apply Classical.byContradiction
      intro z
      exact c1 (by rw [decide_eq_false (fun q => z (by injection q))]; rfl)
    have b2 : Txt.slice x (some (-1)) none = Str.ofString ")" := by
      apply Classical.byContradiction
      intro z
      exact c2 (by rw [decide_eq_false (fun q => z (by injection q))]; rfl)
    refine ⟨Nat.zero_le _, fun lf ff => ?_⟩
    have s2 : Same H1 (upd H1 lf (.lst [])) := Same.new ff
    have hf2 : upd H1 lf (.lst []) lf = some (.lst []) := upd_same
    have nwf : lw ≠ lf := ne_of_none hw1 ff
    have flf : H lf = none := s1.free ff
    generalize upd H1 lf (.lst []) = H2 at s2 hf2 ⊢
    refine ⟨Nat.zero_le _, fun lm fm => ?_⟩
    have s3 : Same H2 (upd H2 lm (.lst [])) := Same.new fm
    have hm3 : upd H2 lm (.lst []) lm = some (.lst []) := upd_same
    have nwm : lw ≠ lm := ne_of_none (s2 _ _ hw1) fm
    have nfm : lf ≠ lm := ne_of_none hf2 fm
    have flm : H lm = none := (s1.trans s2).free fm
    generalize upd H2 lm (.lst []) = H3 at s3 hm3 ⊢
    have hf3 := s3 _ _ hf2
    have hw3 := s3 _ _ (s2 _ _ hw1)
    have b3 := s1.trans (s2.trans s3)
    have sll : (Txt.slice x (some 1) (some (-1))).length ≤ x.length := Txt.slice_le _ _ _
    refine ⟨_, rfl, 1, rfl, _, rfl, _, rfl, _, rfl, by omega, rfl, _, _, rfl, rfl, by decide +kernel, by omega, fun l1 f1 => ⟨l1, rfl, ⟨_, SqL.of upd_same⟩, ?_⟩⟩
    have wl := split_le (Txt.slice x (some 1) (some (-1))) (Str.ofString ")(")
    have wp : ∀ z ∈ Txt.split (Txt.slice x (some 1) (some (-1))) (Str.ofString ")("), z.length ≤ x.length := fun z hz => Nat.le_trans (split_part_le hz) sll
    have wne := split_ne (Txt.slice x (some 1) (some (-1))) (Str.ofString ")(")
    have fwd : ∀ n Z, OrTx (.str x) n Z → Txt.split (Txt.slice x (some 1) (some (-1))) (Str.ofString ")(") = (rndM n Z).map thT ∧ (∀ r ∈ rndM n Z, ThOk r) := fun n Z h => h.split rfl
    have bwd : ∀ S, S ≠ [] → Txt.split (Txt.slice x (some 1) (some (-1))) (Str.ofString ")(") = S.map thT → x = ordT S := fun S ne h => or_of_words ne b1 b2 h
    generalize Txt.split (Txt.slice x (some 1) (some (-1))) (Str.ofString ")(") = ps at wl wp wne fwd bwd ⊢
    have s4 : Same H3 (upd H3 l1 (.lst (ps.map V.str))) := Same.new f1
    have h4 : upd H3 l1 (.lst (ps.map V.str)) l1 = some (.lst (ps.map V.str)) := upd_same
    have n1f : l1 ≠ lf := (ne_of_none hf3 f1).symm
    have n1m : l1 ≠ lm := (ne_of_none hm3 f1).symm
    generalize upd H3 l1 (.lst (ps.map V.str)) = H4 at s4 h4 ⊢
    have b4 := b3.trans s4
    have hf4 := s4 _ _ hf3
    have hm4 := s4 _ _ hm3
    have hw4 := s4 _ _ hw3
    have sm : ∀ {G : Hp}, KB lf lm H4 G → Same H G := fun kb => KB.same b4 kb flf flm
    have pll : (ps.map V.str).length = ps.length := by rw [List.length_map]
    refine for_list (K := K) (a := l1) (xs := ps.map V.str) (fun i σ H' => ∃ v4 v5 v6 v7 v8 v9 ws S, σ = [some (.str x), some (.ref lw), some (.ref lf), some (.ref lm), v4, v5, v6, v7, v8, v9] ∧ KB lf lm H4 H' ∧ H' lf = some (.lst ws) ∧ Lsts H' ws S ∧ (∀ c, V.ref c ∈ ws → c ≠ lf ∧ c ≠ lm) ∧ S.length = i ∧ ps.take i = S.map thT ∧ (∀ r ∈ S, r ≠ [] ∧ ∀ y ∈ r, 1 ≤ y ∧ y ≤ 12) ∧ H' lm = some (.lst ((S.flatten.map numT).map V.str)) ∧ S.flatten.Nodup) ⟨_, _, _, _, _, _, [], [], rfl, KB.refl, hf4, .nil, (fun c h => nomatch h), rfl, rfl, (fun r h => nomatch h), hm4, List.nodup_nil⟩ (fun i σ H' _ q => by
      obtain ⟨_, _, _, _, _, _, _, _, _, kb, _⟩ := q
      exact SqL.of (kb _ _ n1f n1m h4)) ?_ ?_
    · rintro i z σ H5 hx ⟨v4, v5, v6, v7, v8, v9, ws, S, rfl, kb5, hf5, x5, nws, Sl, tk, bS, hm5, ndS⟩
      obtain ⟨pt, hpt, rfl⟩ : ∃ pt, ps[i]? = some pt ∧ V.str pt = z := by
        rw [List.getElem?_map] at hx
        cases e : ps[i]? with
        | none => rw [e] at hx; cases hx
        | some e' => rw [e] at hx; exact ⟨e', rfl, Option.some.inj hx⟩
      have ptl := wp pt (List.mem_of_getElem? hpt)
      have bS' : ∀ r ∈ S, ∀ y ∈ r, 1 ≤ y ∧ y ≤ 12 := fun r hr' => (bS r hr').2
      have okS : ∀ r ∈ S, ThOk r := fun r hr' => th12 (bS r hr').1 (bS r hr').2
      -- what a sharing written here would be
      have here : ∀ n Z, OrTx (.str x) n Z → (rndM n Z).take i = S ∧ ∃ L, (rndM n Z)[i]? = some L ∧ pt = thT L ∧ ThOk L ∧ (∀ y ∈ L, 1 ≤ y ∧ y ≤ 12) ∧ (rndM n Z).flatten.Nodup := fun n Z hZ => by
        obtain ⟨e, b⟩ := fwd n Z hZ
        obtain ⟨_, o, n1, n12⟩ := hZ
        obtain ⟨_, _, bd, _⟩ := or_ok o n1 n12
        have nd := rnd_nodup o
        rw [e] at hpt tk
        rw [← List.map_take] at tk
        refine ⟨map_th_inj (fun r hr' => b r (List.mem_of_mem_take hr')) okS tk, ?_⟩
        rw [List.getElem?_map] at hpt
        cases e2 : (rndM n Z)[i]? with
        | none => rw [e2] at hpt; cases hpt
        | some L =>
          rw [e2] at hpt
          have m := List.mem_of_getElem? e2
          exact ⟨L, rfl, (Option.some.inj hpt).symm, b L m, fun y hy => by have := bd L m y hy; omega, nd⟩
      refine ⟨_, rfl, rfl, _, _, rfl, rfl, by decide +kernel, by omega, fun l2 f2 => ⟨l2, rfl, ⟨_, SqL.of upd_same⟩, ?_⟩⟩
      have wl2 := split_le pt (Str.ofString " ")
      have wp2 : ∀ z ∈ Txt.split pt (Str.ofString " "), z.length ≤ pt.length := fun z hz => split_part_le hz
      have wne2 := split_ne pt (Str.ofString " ")
      have fwd2 : ∀ L, pt = thT L → ThOk L → Txt.split pt (Str.ofString " ") = L.map numT := fun L e o => ThTx.split ⟨e, o⟩
      have bwd2 : ∀ r, Txt.split pt (Str.ofString " ") = r.map numT → pt = thT r := fun r h => th_of_words h
      generalize hwd : Txt.split pt (Str.ofString " ") = wd at wl2 wp2 wne2 fwd2 bwd2 ⊢
      have s6 : Same H5 (upd H5 l2 (.lst (wd.map V.str))) := Same.new f2
      have h6 : upd H5 l2 (.lst (wd.map V.str)) l2 = some (.lst (wd.map V.str)) := upd_same
      have n2f : l2 ≠ lf := (ne_of_none hf5 f2).symm
      have n2m : l2 ≠ lm := (ne_of_none hm5 f2).symm
      generalize upd H5 l2 (.lst (wd.map V.str)) = H6 at s6 h6 ⊢
      have kb6 := kb5.trans (Same.kb s6)
      have hf6 := s6 _ _ hf5
      have hm6 := s6 _ _ hm5
      have x6 := x5.keep s6
      have hw6 := kb6 _ _ nwf nwm hw4
      refine for_list (K := K) (a := l2) (xs := wd.map V.str) (D := { nx := _, rt := _ }) (fun j σ H' => ∃ v5 v6 v7 v8 v9 r, σ = [some (.str x), some (.ref lw), some (.ref lf), some (.ref lm), some (.str pt), v5, v6, v7, v8, v9] ∧ KB lf lm H6 H' ∧ H' lf = some (.lst ws) ∧ wd.take j = r.map numT ∧ (∀ y ∈ r, 1 ≤ y ∧ y ≤ 12) ∧ H' lm = some (.lst (((S.flatten ++ r).map numT).map V.str)) ∧ (S.flatten ++ r).Nodup) ⟨_, _, _, _, _, [], rfl, KB.refl, hf6, rfl, (fun y h => nomatch h), by rw [List.append_nil]; exact hm6, by rw [List.append_nil]; exact ndS⟩ (fun j σ H' _ q => by
        obtain ⟨_, _, _, _, _, _, _, kb, _⟩ := q
        exact SqL.of (kb _ _ n2f n2m h6)) ?_ ?_
      · rintro j z σ H7 hx7 ⟨v5, v6, v7, v8, v9, r, rfl, kb7, hf7, tk7, br, hm7, nd7⟩
        obtain ⟨wo, hwo, rfl⟩ : ∃ wo, wd[j]? = some wo ∧ V.str wo = z := by
          rw [List.getElem?_map] at hx7
          cases e : wd[j]? with
          | none => rw [e] at hx7; cases hx7
          | some e' => rw [e] at hx7; exact ⟨e', rfl, Option.some.inj hx7⟩
        have hw7 := kb7 _ _ nwf nwm hw6
        have all12 : ∀ y ∈ S.flatten ++ r, 1 ≤ y ∧ y ≤ 12 := fun y hy => by
          rcases List.mem_append.mp hy with hy | hy
          · obtain ⟨q, hq, hy⟩ := List.mem_flatten.mp hy
            exact bS' q hq y hy
          · exact br y hy
        have there : ∀ n Z, OrTx (.str x) n Z → ∃ a, wo = numT a ∧ 1 ≤ a ∧ a ≤ 12 ∧ a ∉ S.flatten ++ r := fun n Z hZ => by
          obtain ⟨e1, L, hL, e2, o, bL, nd⟩ := here n Z hZ
          have e3 := fwd2 L e2 o
          rw [e3] at hwo tk7
          rw [List.getElem?_map] at hwo
          cases e4 : L[j]? with
          | none => rw [e4] at hwo; cases hwo
          | some a =>
            rw [e4] at hwo
            have ba := bL a (List.mem_of_getElem? e4)
            refine ⟨a, (Option.some.inj hwo).symm, ba.1, ba.2, ?_⟩
            rw [← List.map_take] at tk7
            have e5 := map_num_inj (fun y hy => by have := bL y (List.mem_of_mem_take hy); omega) (fun y hy => by have := br y hy; omega) tk7
            rw [← e1, ← e5]
            exact flat_pre nd hL e4
        refine ⟨_, rfl, _, rfl, lw, _, rfl, .inl (SqL.of hw7), rfl, flat_strs _, _, rfl, ite2 (fun c => ?_) (fun c => ?_)⟩
        · refine kN (fun n Z hZ => ?_) H7 (sm (kb6.trans kb7))
          obtain ⟨a, rfl, a1, a2, _⟩ := there n Z hZ
          rw [inV_str, decide_eq_true (wn_mem.mpr ⟨a, a1, a2, rfl⟩)] at c
          exact absurd c (by decide)
        have m1 : wo ∈ wn 12 := by
          rw [inV_str] at c
          by_cases m : wo ∈ wn 12
          · exact m
          · rw [decide_eq_false m] at c; exact absurd rfl c
        obtain ⟨a, a1, a2, rfl⟩ := wn_mem.mp m1
        refine ⟨_, rfl, _, rfl, lm, _, rfl, .inl (SqL.of hm7), rfl, flat_strs _, _, rfl, ite2 (fun c => ?_) (fun c => ?_)⟩
        · refine kN (fun n Z hZ => ?_) H7 (sm (kb6.trans kb7))
          obtain ⟨b, e, b1, b2, no⟩ := there n Z hZ
          have e := num_inj (by omega) (by omega) (by omega) (by omega) e
          subst e
          rw [inV_str] at c
          exact no ((num_memb ⟨b1, b2⟩ all12).mp (of_decide_eq_true c))
        have m2 : a ∉ S.flatten ++ r := fun z => by
          rw [inV_str] at c
          exact c (decide_eq_true ((num_memb ⟨a1, a2⟩ all12).mpr z))
        have few : (S.flatten ++ r).length ≤ 12 := by
          have := sub_leA nd7 (bs := ivl 1 13) fun y hy => mem_ivl.mpr (by have := all12 y hy; omega)
          rw [ivl_length] at this
          exact this
        refine ⟨_, rfl, .inl ⟨rfl, _, SqL.of hm7⟩, _, rfl, lm, _, _, rfl, rfl, hm7, by rw [List.length_map, List.length_map]; omega, ?_⟩
        refine ⟨_, _, _, _, _, r ++ [a], rfl, kb7.trans KB.two, by rw [upd_ne nfm]; exact hf7, ?_, fun y hy => ?_, ?_, ?_⟩
        · rw [List.take_succ, hwo, tk7, List.map_append]
          rfl
        · rcases List.mem_append.mp hy with hy | hy
          · exact br y hy
          · rw [List.mem_singleton.mp hy]; exact ⟨a1, a2⟩
        · rw [upd_same]; simp
        · rw [← List.append_assoc]
          refine List.nodup_append.mpr ⟨nd7, by simp, fun y hy w hw z => ?_⟩
          rw [List.mem_singleton.mp hw] at z
          exact m2 (z ▸ hy)
      · rintro σ H7 ⟨v5, v6, v7, v8, v9, r, rfl, kb7, hf7, tk7, br, hm7, nd7⟩
        rw [List.take_of_length_le (by rw [List.length_map]; exact Nat.le_refl _)] at tk7
        subst tk7
        have rne : r ≠ [] := fun z => wne2 (by rw [z]; rfl)
        have ept := bwd2 r rfl
        have hw7 := kb7 _ _ nwf nwm hw6
        have x7 : Lsts H7 ws S := x6.stay fun {b} {zs} hb e => kb7 _ _ (nws b hb).1 (nws b hb).2 e
        refine ⟨_, rfl, .inl ⟨rfl, _, SqL.of hf7⟩, _, rfl, rfl, _, _, rfl, rfl, by decide +kernel, by omega, fun l3 f3 => ⟨l3, rfl, ⟨_, SqL.of upd_same⟩, ?_⟩⟩
        rw [hwd]
        have s8 : Same H7 (upd H7 l3 (.lst ((r.map numT).map V.str))) := Same.new f3
        have h8 : upd H7 l3 (.lst ((r.map numT).map V.str)) l3 = some (.lst ((r.map numT).map V.str)) := upd_same
        generalize upd H7 l3 (.lst ((r.map numT).map V.str)) = H8 at s8 h8 ⊢
        have hw8 := s8 _ _ hw7
        have rl2 : r.length ≤ 1000 := by rw [List.length_map] at wl2; omega
        refine compL (K := K) (a := l3) (xs := (r.map numT).map V.str) (k := 0) (fun j ys σ' H' => ys = (r.take j).map V.int ∧ (∃ v0, σ' = [v0, some (.ref lw)]) ∧ H' = H8) (by rw [List.length_map, List.length_map]; omega) ⟨rfl, ⟨none, rfl⟩, rfl⟩ (fun j ys σ' H' _ q => by rw [q.2.2]; exact SqL.of h8) (fun j ys σ' H' q => by rw [q.1, List.length_map, List.length_take]; omega) ?_ ?_
        · rintro j ys σ' H' z R hz ⟨rfl, ⟨v0, rfl⟩, rfl⟩ done
          obtain ⟨a, ha, rfl⟩ : ∃ a, r[j]? = some a ∧ V.str (numT a) = z := by
            rw [List.getElem?_map, List.getElem?_map] at hz
            cases e : r[j]? with
            | none => rw [e] at hz; cases hz
            | some e' => rw [e] at hz; exact ⟨e', rfl, Option.some.inj hz⟩
          have ba := br a (List.mem_of_getElem? ha)
          obtain ⟨ja, na⟩ := wn_at (n := 12) ba.1 ba.2 (by decide)
          refine ⟨_, rfl, .inl ⟨rfl, _, SqL.of hw8⟩, _, rfl, lw, _, _, _, rfl, rfl, hw8, ja, na, tC_go7 (add_at (show ((a - 1).toNat : Int) + 1 = a by omega) (done _ _ _ ⟨?_, ⟨_, rfl⟩, rfl⟩))⟩
          rw [take_succ_map V.int ha]
        · rintro ys σ' H' q ⟨rfl, _, e0⟩ fq
          have e0 := e0.symm
          subst e0
          rw [List.take_of_length_le (by rw [List.length_map, List.length_map]; exact Nat.le_refl _)]
          have s9 : Same H8 (upd H8 q (.lst (r.map V.int))) := Same.new fq
          have h9 : upd H8 q (.lst (r.map V.int)) q = some (.lst (r.map V.int)) := upd_same
          have nqf : q ≠ lf := (ne_of_none (s8 _ _ hf7) fq).symm
          have nqm : q ≠ lm := (ne_of_none (s8 _ _ hm7) fq).symm
          generalize upd H8 q (.lst (r.map V.int)) = H9 at s9 h9 ⊢
          have s79 := s8.trans s9
          have hf9 := s79 _ _ hf7
          have il := (List.getElem?_eq_some_iff.mp hpt).1
          have wsl := x7.length
          refine ⟨lf, _, _, rfl, rfl, hf9, by omega, ?_⟩
          refine ⟨_, _, _, _, _, _, ws ++ [.ref q], S ++ [r], rfl, kb6.trans (kb7.trans ((Same.kb s79).trans KB.one)), upd_same, ?_, fun c hc => ?_, by rw [List.length_append]; show _ + 1 = _; omega, ?_, fun q' hq' => ?_, ?_, ?_⟩
          · refine ((x7.keep s79).snoc h9).off fun hv => ?_
            rcases List.mem_append.mp hv with hv | hv
            · exact (nws _ hv).1 rfl
            · exact nqf (V.ref.inj (List.mem_singleton.mp hv)).symm
          · rcases List.mem_append.mp hc with hc | hc
            · exact nws c hc
            · have hc := V.ref.inj (List.mem_singleton.mp hc)
              rw [hc]; exact ⟨nqf, nqm⟩
          · rw [List.take_succ, hpt, tk, List.map_append, ept]
            rfl
          · rcases List.mem_append.mp hq' with hq' | hq'
            · exact bS q' hq'
            · rw [List.mem_singleton.mp hq']; exact ⟨rne, br⟩
          · rw [upd_ne nfm.symm, List.flatten_append]
            simpa using s79 _ _ hm7
          · rw [List.flatten_append]
            simpa using nd7
    · rintro σ H5 ⟨v4, v5, v6, v7, v8, v9, ws, S, rfl, kb5, hf5, x5, nws, Sl, tk, bS, hm5, ndS⟩
      rw [List.take_of_length_le (by omega)] at tk
      have bS' : ∀ r ∈ S, ∀ y ∈ r, 1 ≤ y ∧ y ≤ 12 := fun r hr' => (bS r hr').2
      have okS : ∀ r ∈ S, ThOk r := fun r hr' => th12 (bS r hr').1 (bS r hr').2
      have few := flat_few ndS bS'
      have Sfew := few_in_flat fun r hr' => (bS r hr').1
      have npos : 1 ≤ S.flatten.length := by
        cases S with
        | nil => exact absurd tk wne
        | cons a S =>
          have := List.length_pos_iff.mpr (bS a List.mem_cons_self).1
          rw [List.flatten_cons, List.length_append]; omega
      have Sne : S ≠ [] := fun z => by rw [z] at npos; simp at npos
      have ex := bwd S Sne tk
      have only : ∀ n Z, OrTx (.str x) n Z → (S.flatten.length : Int) = n ∧ rndM n Z = S ∧ Ord n Z := fun n Z hZ => by
        obtain ⟨e, b⟩ := fwd n Z hZ
        have := map_th_inj b okS (e.symm.trans tk)
        obtain ⟨_, o, n1, n12⟩ := hZ
        refine ⟨?_, this, o⟩
        rw [← this]
        exact (or_ok o n1 n12).2.2.2
      have wsl := x5.length
      have all12 : ∀ y ∈ S.flatten, 1 ≤ y ∧ y ≤ 12 := fun y hy => by
        obtain ⟨q, hq, hy⟩ := List.mem_flatten.mp hy
        exact bS' q hq y hy
      obtain ⟨m, hm⟩ : ∃ m : Nat, S.flatten.length = m := ⟨_, rfl⟩
      have hw5 := kb5 _ _ nwf nwm hw4
      have ml : ((S.flatten.map numT).map V.str).length = m := by rw [List.length_map, List.length_map, hm]
      have wtk : ((wn 12).map V.str).take m = ((wn 12).take m).map V.str := by rw [List.map_take]
      refine ⟨_, rfl, _, rfl, lm, _, rfl, .inl (SqL.of hm5), _, rfl, lw, _, rfl, SqL.of hw5, fun l6 f6 => ?_⟩
      rw [ml, cutT9 (by omega) (by rw [List.length_map, wn_len]; show (m : Int) ≤ 12; omega), show ((m : Nat) : Int).toNat = m by omega, wtk]
      have s6 : Same H5 (upd H5 l6 (.lst (((wn 12).take m).map V.str))) := Same.new f6
      have h6 : upd H5 l6 (.lst (((wn 12).take m).map V.str)) l6 = some (.lst (((wn 12).take m).map V.str)) := upd_same
      generalize upd H5 l6 (.lst (((wn 12).take m).map V.str)) = H6 at s6 h6 ⊢
      have hm6 := s6 _ _ hm5
      have wm : ((wn 12).take m).length ≤ 12 := by rw [List.length_take, wn_len]; show min m 12 ≤ 12; omega
      refine ⟨l6, rfl, ⟨_, SqL.of h6⟩, compLif (K := K) (a := l6) (xs := ((wn 12).take m).map V.str) (k := 0) (fun t zs σ' H' => zs = ((((wn 12).take m).take t).filter fun w => decide (w ∉ S.flatten.map numT)).map V.str ∧ (∃ v, σ' = [v, some (.ref lm)]) ∧ H' = H6) (by rw [List.length_map]; omega) ⟨rfl, ⟨none, rfl⟩, rfl⟩ (fun t zs σ' H' _ q => by rw [q.2.2]; exact SqL.of h6) (fun t zs σ' H' q => by rw [q.1, List.length_map]; have := List.length_filter_le (fun w => decide (w ∉ S.flatten.map numT)) (((wn 12).take m).take t); rw [List.length_take] at this; omega) ?_ ?_⟩
      · rintro t zs σ' H' u R hu ⟨rfl, ⟨v', rfl⟩, rfl⟩ done
        obtain ⟨w0, hw0, rfl⟩ : ∃ w0, ((wn 12).take m)[t]? = some w0 ∧ V.str w0 = u := by
          rw [List.getElem?_map] at hu
          cases e : ((wn 12).take m)[t]? with
          | none => rw [e] at hu; cases hu
          | some e' => rw [e] at hu; exact ⟨e', rfl, Option.some.inj hu⟩
        refine ⟨_, rfl, _, rfl, lm, _, rfl, .inl (SqL.of hm6), rfl, flat_strs _, _, rfl, ?_⟩
        rw [inV_str]
        by_cases c : w0 ∈ S.flatten.map numT
        · refine iteE (by rw [decide_eq_true c]; rfl) (done _ _ _ ⟨?_, ⟨_, rfl⟩, rfl⟩)
          rw [take_snoc hw0, List.filter_append, List.filter_cons, if_neg (show ¬ (decide (w0 ∉ S.flatten.map numT) = true) from fun z => (of_decide_eq_true z) c), List.filter_nil, List.append_nil]
        · refine iteP (by rw [decide_eq_false c]; rfl) ⟨_, rfl, done _ _ _ ⟨?_, ⟨_, rfl⟩, rfl⟩⟩
          rw [take_snoc hw0, List.filter_append, List.filter_cons, if_pos (decide_eq_true c), List.map_append]
          rfl
      rintro zs σ' H' l7 ⟨rfl, _, e0⟩ f7
      have e0 := e0.symm
      subst e0
      rw [List.length_map, List.take_length]
      obtain ⟨lk, hlk⟩ : ∃ lk, ((wn 12).take m).filter (fun w => decide (w ∉ S.flatten.map numT)) = lk := ⟨_, rfl⟩
      rw [hlk]
      have s7 : Same H6 (upd H6 l7 (.lst (lk.map V.str))) := Same.new f7
      have h7 : upd H6 l7 (.lst (lk.map V.str)) l7 = some (.lst (lk.map V.str)) := upd_same
      generalize upd H6 l7 (.lst (lk.map V.str)) = H7 at s7 h7 ⊢
      have kb7 := kb5.trans (Same.kb (s6.trans s7))
      have hf7 := s7 _ _ (s6 _ _ hf5)
      have x7 := x5.keep (s6.trans s7)
      have lkok : ∀ t ∈ lk, PyData.strOk t = true := fun t ht => by
        rw [← hlk] at ht
        obtain ⟨a, _, _, rfl⟩ := wn_mem.mp (List.mem_of_mem_take (List.mem_filter.mp ht).1)
        exact strOk_of _
      have wtake : ∀ a : Int, 1 ≤ a → a ≤ m → numT a ∈ (wn 12).take m := fun a h1 h2 => by
        refine List.mem_of_getElem? (i := (a - 1).toNat) ?_
        rw [List.getElem?_take, if_pos (by omega)]
        exact (wn_at h1 (by omega) (by decide)).1
      refine ⟨_, rfl, Nat.zero_le _, fun l8 f8 => ?_⟩
      have s8 : Same H7 (upd H7 l8 (.lst [])) := Same.new f8
      have h8 : upd H7 l8 (.lst []) l8 = some (.lst []) := upd_same
      generalize upd H7 l8 (.lst []) = H8 at s8 h8 ⊢
      refine neSt (s8 _ _ h7) h8 lkok ⟨_, rfl, ?_⟩
      by_cases clk : lk = []
      case neg =>
        refine iteP (by rw [decide_eq_false clk]; rfl) (kN (fun n Z hZ => ?_) H8 (sm (kb7.trans (Same.kb s8))))
        obtain ⟨e, g, o⟩ := only n Z hZ
        obtain ⟨t, ht⟩ := List.exists_mem_of_ne_nil _ clk
        rw [← hlk] at ht
        obtain ⟨t1, t2⟩ := List.mem_filter.mp ht
        obtain ⟨k0, hk0⟩ := List.mem_iff_getElem?.mp t1
        rw [List.getElem?_take] at hk0
        split at hk0
        · rename_i c
          rw [wn_get (by omega)] at hk0
          have hk0 := Option.some.inj hk0
          have t2 : ¬ t ∈ S.flatten.map numT := of_decide_eq_true t2
          apply t2
          rw [← hk0]
          exact List.mem_map.mpr ⟨_, by rw [← g]; exact rnd_all o (by omega) (by omega), rfl⟩
        · cases hk0
      refine iteE (by rw [decide_eq_true clk]; rfl) ?_
      have allm : ∀ a : Int, 1 ≤ a → a ≤ m → a ∈ S.flatten := fun a h1 h2 => by
        apply Classical.byContradiction
        intro z
        have : numT a ∈ lk := by
          rw [← hlk]
          exact List.mem_filter.mpr ⟨wtake a h1 h2, decide_eq_true fun q => z ((num_memb ⟨h1, by omega⟩ all12).mp q)⟩
        rw [clk] at this
        cases this
      have cv : Cov (m : Int) S := cov_of (fun L hL => (bS L hL).1) ndS (by omega) allm
      have hf8 := s8 _ _ hf7
      have x8 := x7.keep s8
      refine ⟨_, rfl, _, rfl, ?_⟩
      dsimp only [tNil]
      refine sortLB hf8 x8 (by omega) fun l9 us Ms H9 f9 h9 x9 p9 s9 uq srt _ _ => ?_
      have hf9 := s9 _ _ hf8
      refine eqLL hf9 (x8.keep s9) h9 x9 ⟨_, rfl, ?_⟩
      have kb9 := kb7.trans (Same.kb (s8.trans s9))
      by_cases cS : S = Ms
      case neg =>
        refine iteP (by rw [decide_eq_false cS]; rfl) (kN (fun n Z hZ => ?_) H9 (sm kb9))
        obtain ⟨_, g, o⟩ := only n Z hZ
        exact cS (uq S (List.Perm.refl _) (by rw [← g]; exact rnd_srt o)).symm
      refine iteE (by rw [decide_eq_true cS]; rfl) ?_
      have srtS : S.Pairwise (fun a b => lexB b a = false) := by rw [cS]; exact srt
      have x9 := x8.keep s9
      have nwl : ∀ L ∈ S, L.length ≤ 12 := fun L hL => by have := len_in_flat hL; omega
      refine fun ld fd => ?_
      have s10 : Same H9 (upd H9 ld (.dK [])) := Same.new fd
      have hd10 : upd H9 ld (.dK []) ld = some (.dK []) := upd_same
      have fldH : H ld = none := (sm kb9).free fd
      have nfd : lf ≠ ld := ne_of_none hf9 fd
      have nmd : lm ≠ ld := ne_of_none ((s6.trans (s7.trans (s8.trans s9))) _ _ hm5) fd
      have nwd : ∀ b, V.ref b ∈ ws → b ≠ ld := fun b hb z => by
        obtain ⟨q, hq⟩ := x9.mem hb
        rw [z, fd] at hq; cases hq
      have s010 : Same H (upd H9 ld (.dK [])) := (sm kb9).trans s10
      have hf10 := s10 _ _ hf9
      have hm10 := s10 _ _ ((s6.trans (s7.trans (s8.trans s9))) _ _ hm5)
      have x10 := x9.keep s10
      generalize upd H9 ld (.dK []) = H10 at s10 hd10 s010 hf10 hm10 x10 ⊢
      have SX : ∀ {G : Hp}, SameX ld H10 G → Same H G := fun sx b o hb => sx b o (fun z => by rw [z, fldH] at hb; cases hb) (s010 b o hb)
      refine ⟨_, rfl, lf, rfl, ⟨_, SqL.of hf10⟩, for_list (K := K) (a := lf) (xs := ws) (fun t σ H' => ∃ v4 v5 v7 v8 v9 kvs, σ = [some (.str x), some (.ref lw), some (.ref lf), some (.ref lm), v4, v5, some (.ref ld), v7, v8, v9] ∧ SameX ld H10 H' ∧ H' ld = some (.dK kvs) ∧ kvs.length ≤ (S.take t).flatten.length ∧ (∀ y ∈ (S.take t).flatten, valV kvs (Sum.inl y : Key) = some (.int (nx S y))) ∧ ∀ L ∈ S.take t, ∀ y ∈ L, hd0 L ≤ y) ⟨_, _, _, _, _, [], rfl, SameX.refl _ _, hd10, Nat.zero_le _, (fun y hy => by rw [List.take_zero] at hy; cases hy), fun L hL => by rw [List.take_zero] at hL; cases hL⟩ (fun t σ H' _ q => by obtain ⟨_, _, _, _, _, _, _, sx, _⟩ := q; exact SqL.of (sx _ _ nfd hf10)) ?_ ?_⟩
      · rintro t v σ H11 hv ⟨v4, v5, v7, v8, v9, kvs, rfl, sx, hd11, kl, kv, hds⟩
        have x11 : Lsts H11 ws S := x10.stay fun {b} {zs} hb e => sx _ _ (nwd b hb) e
        obtain ⟨b, L, rfl, hb, hL⟩ := x11.get hv
        have nbd := nwd b (List.mem_of_getElem? hv)
        have Lm := List.mem_of_getElem? hL
        have Ln := nwl L Lm
        have Lne := (bS L Lm).1
        obtain ⟨M, hM, hmin⟩ := ex_minL Lne
        have h0 := hd0_at Lne
        have h0' : atI (L.map V.int) 0 = some (.int (hd0 L)) := at_int (by decide) h0
        refine ⟨_, rfl, b, _, 0, _, rfl, rfl, SqL.of hb, h0', _, rfl, b, L, M, rfl, SqL.of hb, hM, hmin, rfl, _, rfl, ite2 (fun c => ?_) (fun c => ?_)⟩
        · refine kN (fun n Z hZ => ?_) H11 (SX sx)
          obtain ⟨_, g, o⟩ := only n Z hZ
          have l := rnd_least (n := n) (xs := Z) (r := L) (by rw [g]; exact Lm)
          have e1 := l M hM
          have e2 := hmin (hd0 L) (List.mem_of_getElem? h0)
          have e3 : hd0 L = M := by omega
          rw [e3, decide_eq_true rfl] at c
          exact absurd c (by decide)
        have eM : hd0 L = M := by
          apply Classical.byContradiction
          intro z
          exact c (by rw [decide_eq_false (fun q => z (by injection q))]; rfl)
        have fl' : (S.take (t + 1)).flatten = (S.take t).flatten ++ L := flat_snoc hL
        have few1 : (S.take t).flatten.length ≤ 12 := by
          have := congrArg List.length (congrArg List.flatten (List.take_append_drop t S))
          rw [List.flatten_append, List.length_append] at this
          omega
        refine ⟨_, rfl, b, _, rfl, .inl (SqL.of hb), _, rfl, by rw [List.length_map]; omega, by rw [List.length_map]; omega, ?_⟩
        refine for_range (D := { nx := _, rt := _ }) (fun j σ H' => ∃ v9 kvs, σ = [some (.str x), some (.ref lw), some (.ref lf), some (.ref lm), v4, v5, some (.ref ld), some (.ref b), v8, v9] ∧ SameX ld H10 H' ∧ H' ld = some (.dK kvs) ∧ kvs.length ≤ (S.take t).flatten.length + j ∧ ∀ y ∈ (S.take t).flatten ++ L.take j, valV kvs (Sum.inl y : Key) = some (.int (nx S y))) ⟨_, kvs, rfl, sx, hd11, kl, fun y hy => kv y (by simpa using hy)⟩ ?_ ?_
        · rintro j σ H12 hj ⟨v9, kvs2, rfl, sx2, hd12, kl2, kv2⟩
          have hj : j < L.length := by rw [List.length_map] at hj; omega
          obtain ⟨y, hy⟩ := get_lt (ns := L) (k := j) hj
          have hb12 : H12 b = some (.lst (L.map V.int)) := by
            obtain ⟨b', L', e1, e2, e3⟩ := (x10.stay (H' := H12) fun {b} {zs} hb e => sx2 _ _ (nwd b hb) e).get hv
            have e1 := V.ref.inj e1
            subst e1
            rw [hL] at e3
            cases e3
            exact e2
          have nxy : nx S y = L.getD ((j + 1) % L.length) 0 := nx_at ndS Lm hy
          have hnx : (L ++ L)[j + 1]? = some (nx S y) := by
            rw [nxy, List.getD_eq_getElem?_getD]
            by_cases q : j + 1 < L.length
            · rw [List.getElem?_append_left q, Nat.mod_eq_of_lt q, List.getElem?_eq_getElem q]; rfl
            · have q : j + 1 = L.length := by omega
              rw [List.getElem?_append_right (by omega), q, Nat.mod_self, Nat.sub_self, h0]; rfl
          have e8 : L.map V.int ++ L.map V.int = (L ++ L).map V.int := List.map_append.symm
          refine ⟨_, rfl, _, rfl, b, b, _, _, rfl, rfl, hb12, hb12, by rw [List.length_map]; omega, fun q fq => ?_⟩
          rw [e8]
          have z1 : Same H12 (upd H12 q (.lst ((L ++ L).map V.int))) := Same.new fq
          have h1 : upd H12 q (.lst ((L ++ L).map V.int)) q = some (.lst ((L ++ L).map V.int)) := upd_same
          generalize upd H12 q (.lst ((L ++ L).map V.int)) = H13 at z1 h1 ⊢
          have hd13 := z1 _ _ hd12
          refine ⟨_, rfl, _, _, rfl, rfl, q, _, _, _, rfl, rfl, SqL.of h1, at_int (z := nx S y) (by omega) (by rw [show (0 + (j : Int) + 1).toNat = j + 1 by omega]; exact hnx), ?_⟩
          refine ⟨_, rfl, _, rfl, _, rfl, b, _, _, _, rfl, rfl, SqL.of (z1 _ _ hb12), at_int (z := y) (by omega) (by rw [show (0 + (j : Int)).toNat = j by omega]; exact hy), ld, _, rfl, DPut.k (k := Sum.inl y) hd13 (by omega), ?_⟩
          refine ⟨_, putK kvs2 (Sum.inl y) (.int (nx S y)), rfl, sx2.trans (z1.x.trans SameX.upd), upd_same, ?_, fun z hz => ?_⟩
          · have := length_putK kvs2 (Sum.inl y : Key) (.int (nx S y))
            omega
          · rw [valV_put]
            by_cases e : z = y
            · subst e
              rw [if_pos rfl]
            · rw [if_neg (by intro q; apply e; cases q; rfl)]
              refine kv2 z ?_
              rw [take_snoc hy, ← List.append_assoc] at hz
              rcases List.mem_append.mp hz with hz | hz
              · exact hz
              · exact absurd (List.mem_singleton.mp hz) e
        · rintro σ H12 ⟨v9, kvs2, rfl, sx2, hd12, kl2, kv2⟩
          rw [List.length_map, show ((L.length : Nat) : Int).toNat = L.length by omega] at kl2 kv2
          rw [List.take_length] at kv2
          refine ⟨_, _, _, _, _, kvs2, rfl, sx2, hd12, by rw [fl', List.length_append]; omega, fun y hy => kv2 y (by rw [← fl']; exact hy), fun M' hM' => ?_⟩
          rw [take_snoc hL] at hM'
          rcases List.mem_append.mp hM' with hM' | hM'
          · exact hds M' hM'
          · rw [List.mem_singleton.mp hM', eM]; exact hmin
      · rintro σ H11 ⟨v4, v5, v7, v8, v9, kvs, rfl, sx, hd11, kl, kv, hds⟩
        rw [List.take_of_length_le (by omega)] at kl kv hds
        have hm11 := sx _ _ nmd hm10
        refine ⟨_, rfl, lm, _, rfl, .inl (SqL.of hm11), _, _, rfl, rfl, 1, (m : Int) + 1, by rw [ml], ⟨by decide, by decide, by omega, by omega⟩, compR (k := 0) (fun i ys σ' H'' => ys = ((ivl 1 ((m : Int) + 1)).take i).map (fun x => V.int (nx S x)) ∧ (∃ v, σ' = [v, some (.ref ld)]) ∧ H'' = H11) (by omega) ⟨rfl, ⟨none, rfl⟩, rfl⟩ (fun i ys σ' H'' q => by rw [q.1, List.length_map, List.length_take]; omega) ?_ ?_⟩
        · rintro i ys σ' H'' R hi ⟨rfl, ⟨v, rfl⟩, rfl⟩ done
          have hin : 1 + (i : Int) ∈ S.flatten := allm _ (by omega) (by omega)
          refine ⟨_, rfl, _, rfl, ld, .int (nx S (1 + (i : Int))), rfl, ?_, done _ _ _ ⟨?_, ⟨_, rfl⟩, rfl⟩⟩
          · have q := DGet.k (k := (Sum.inl (1 + (i : Int)) : Key)) hd11
            rw [kv _ hin] at q
            exact q
          · exact (take_succ_map (fun x => V.int (nx S x)) (get_ivl hi)).symm
        · rintro ys σ' H'' pl ⟨rfl, _, e0⟩ hpl
          have e0 := e0.symm
          subst e0
          rw [List.take_of_length_le (by rw [ivl_length]; exact Nat.le_refl _)]
          have t1 : Same H11 (upd H11 pl (.lst ((ivl 1 ((m : Int) + 1)).map (fun x => V.int (nx S x))))) := Same.new hpl
          have hp1 : upd H11 pl (.lst ((ivl 1 ((m : Int) + 1)).map (fun x => V.int (nx S x)))) pl = some (.lst ((ivl 1 ((m : Int) + 1)).map (fun x => V.int (nx S x)))) := upd_same
          generalize upd H11 pl (.lst ((ivl 1 ((m : Int) + 1)).map (fun x => V.int (nx S x)))) = H12 at t1 hp1 ⊢
          refine ⟨pl, _, rfl, .inl ⟨SqL.of hp1, fun tt htt => ?_⟩⟩
          have sF := (SX sx).trans t1
          have rise := heads_rise srtS (fun L hL => (bS L hL).1) ndS
          have er : rndM (m : Int) (madeM (m : Int) S) = S := rnd_of cv hds rise
          refine kY (m : Int) (madeM (m : Int) S) ⟨by rw [er, ← ex], made_ord cv, by omega, by omega⟩ tt _ (sF.free htt) ?_ (sF.trans (Same.new htt))
          rw [upd_same]
          unfold madeM
          rw [List.map_map]
          rfl
end
end Sw
namespace L2
open PySem PySem.Spec PyProof.Rows PySem.W
def PHW (X : Cx) (hs : List ExceptHandler) (th : TH) : Prop :=
  ∀ (pins : List (Addr × Obj)) (s : Shared) (σ : St) (H : Hp) (D : Ends) (e : Addr) (cls : Value) (bb : Option Addr), Held X pins σ H s e cls bb → th D σ cls e H → wpAny (model X.prog X.w) X.A (handleBy (.ref e) X.env hs) (SP X pins D) X.xe s
def tHaW (K : Frag) (D : Addr) (i : Nat) (ts : TS) (th : TH) : TH := fun Dn σ cls e H => ∃ C b, cls = .ref C ∧ ExcM K C D b ∧
  if b = true then ∀ bb, ts { nx := fun σ' H' => Dn.nx (σ'.set i none) H', rt := Dn.rt, bk := fun σ' H' => Dn.bk (σ'.set i none) H', ct := fun σ' H' => Dn.ct (σ'.set i none) H' } (σ.set i (some (.ref e))) (upd H e (.exc e C bb)) else th Dn σ cls e H
def tTryW (tb : (St → XK) → TS) (th : TH) : TS := fun D σ H => tb (fun σ' cls _ H' => ∀ e, H' e = none → th D σ' cls e H') D σ H
section
variable {X : Cx} {hs : List ExceptHandler} {th : TH} {ts : TS} {D : Addr} {x n : Str} {np pos : Pos} {b₀ : Stmt} {suite : List Stmt} {i : Nat}
theorem ph_nilW : PHW X [] thNil := fun _ _ _ _ _ _ _ _ _ h => h.elim
theorem ph_consW (hg : Gl X x) (hm : X.mg x = some (.ref D)) (hb : ∀ e, PSs (Xh X e) (b₀ :: suite) ts) (hr : PHW X hs th) (hdb : (x == ("__debug__" : Str)) = false := by decide) :
    PHW X (.ExceptHandler (some (.Name x np)) none (b₀ :: suite) pos :: hs) (tHd X.K D ts th) := by
  intro pins s σ H Dn e cls bb hh h
  obtain ⟨C, b, rfl, m, h⟩ := h
  have I := hh.inv
  refine wpAny_handleBy_cons (codeAny_handlers_test (ld_glob (X := Xh X e) (I.toH e) hg hm ?_ hdb)) (by intro q; cases q)
  refine exc_matches m I.kIn hh.eat ?_
  cases b with
  | false => exact hr pins s σ H Dn e _ bb hh (by rw [if_neg Bool.false_ne_true] at h; exact h)
  | true =>
    rw [if_pos rfl] at h
    refine codeAny_handlers_suite (hh.lands fun h' hh' => ?_)
    exact wpAny_mono (hb e pins _ σ H Dn (hh'.inv.toH e) h) (fun f s₂ z => z.ofH I.ok) fun _ _ z => False.elim z
theorem ph_consAW (hN : X.N.Nodup) (hi : X.N[i]? = some n) (hk : X.env.scope.names.lookup n = some .local) (hg : Gl X x) (hm : X.mg x = some (.ref D)) (hb : ∀ e, PSs (Xh X e) (b₀ :: suite) ts) (hr : PHW X hs th) (hdb : (x == ("__debug__" : Str)) = false := by decide) :
    PHW X (.ExceptHandler (some (.Name x np)) (some n) (b₀ :: suite) pos :: hs) (tHaW X.K D i ts th) := by
  intro pins s σ H Dn e cls bb hh h
  obtain ⟨C, b, rfl, m, h⟩ := h
  have I := hh.inv
  refine wpAny_handleBy_cons (codeAny_handlers_test (ld_glob (X := Xh X e) (I.toH e) hg hm ?_ hdb)) (by intro q; cases q)
  refine exc_matches m I.kIn hh.eat ?_
  cases b with
  | false => exact hr pins s σ H Dn e _ bb hh (by rw [if_neg Bool.false_ne_true] at h; exact h)
  | true =>
    rw [if_pos rfl] at h
    refine codeAny_handlers_suite_as (hh.lands fun h' hh' => ?_)
    refine store_ok (X := X) (v := .ref e) hh'.track hN hi (.inl hk) rfl (fun s2 I2 => ?_) (.inr hk)
    refine wpAny_mono (hb e pins s2 _ _ _ (I2.toH e) (h bb)) (fun f s₃ z => ?_) fun _ _ z => False.elim z
    have z := z.ofH I.ok
    cases f with
    | next => obtain ⟨σ', H', J, q⟩ := z; exact gone_ok J hN hi hk fun s' J' => ⟨_, H', J', q⟩
    | brk => obtain ⟨σ', H', J, q⟩ := z; exact gone_ok J hN hi hk fun s' J' => ⟨_, H', J', q⟩
    | cont => obtain ⟨σ', H', J, q⟩ := z; exact gone_ok J hN hi hk fun s' J' => ⟨_, H', J', q⟩
    | ret u => obtain ⟨v, σ', H', J, r, q⟩ := z; exact gone_ok J hN hi hk fun s' J' => ⟨v, _, H', J', r, q⟩
end
section
variable {X : Cx}
theorem ps_tryW {body : List Stmt} {h₀ : ExceptHandler} {hs : List ExceptHandler} {pos : Pos} {tb : (St → XK) → TS} {th : TH} (hb : ∀ pins Es, PSs (Xt X pins Es) body (tb Es)) (hh : PHW X (h₀ :: hs) th)
    (hst : X.stack = X.env :: X.outer := by rfl) (hfr : X.env.frame = some X.env.locals := by rfl) : PS X (.Try body (h₀ :: hs) [] [] pos) (tTryW tb th) := by
  intro pins s σ H D I h
  refine wpAny_Try_except (wpAny_mono (hb pins _ [] s σ H D I.toT h) (fun f s₁ z => ?_) fun ev s₁ z => ?_)
  · have z := z.ofT
    cases f with
    | next => exact wpAny_execs_nil z
    | brk => exact z
    | cont => exact z
    | ret u => exact z
  · obtain ⟨σ', H₁, s₁', I', e, cls, a0, B, H', bb, rfl, os, bare, F, q⟩ := z
    have ff := I'.ok.frames
    have fl := F.fl
    rw [hst] at ff fl
    refine note_lone ff hfr fl F.lo fun h₄ held sm lo => ?_
    refine land_lone (s := { s₁ with heap := h₄ }) held.1 held.2.1 held.2.2.1 held.2.2.2 lo fun h₅ fl5 sm5 lo5 => ?_
    have hd : Held X pins σ' H' { s₁ with heap := h₅ } e cls bb := ⟨H₁, s₁', B, a0, I', os, bare, F.move (by rw [hst]; exact fl5) (sm.trans sm5) lo5⟩
    exact hh pins _ σ' H' D e cls bb hd (q e hd.free)
end
end L2
namespace Sw
open PySem L2
structure ClsA where
  (Unlike NoRounds Apart NoMove NotLeast NotGreat NoTree NoCars NoChain NoBound NoText NoName StarError : Addr)
structure TCl (mg : Str → Option Value) (cl : ClsA) : Prop where
  c_Unlike : mg "Unlike" = some (.ref cl.Unlike)
  c_NoRounds : mg "NoRounds" = some (.ref cl.NoRounds)
  c_Apart : mg "Apart" = some (.ref cl.Apart)
  c_NoMove : mg "NoMove" = some (.ref cl.NoMove)
  c_NotLeast : mg "NotLeast" = some (.ref cl.NotLeast)
  c_NotGreat : mg "NotGreat" = some (.ref cl.NotGreat)
  c_NoTree : mg "NoTree" = some (.ref cl.NoTree)
  c_NoCars : mg "NoCars" = some (.ref cl.NoCars)
  c_NoChain : mg "NoChain" = some (.ref cl.NoChain)
  c_NoBound : mg "NoBound" = some (.ref cl.NoBound)
  c_NoText : mg "NoText" = some (.ref cl.NoText)
  c_NoName : mg "NoName" = some (.ref cl.NoName)
  c_StarError : mg "StarError" = some (.ref cl.StarError)
  b_isinstance : mg "isinstance" = none
  b_ValueError : mg "ValueError" = none
structure Alone (K : PySem.W.Frag) (cl : ClsA) (C : Addr) : Prop where
  ei : ExcI K C
  st : PySem.W.kitOne K (.ref C) (.ref cl.StarError) = some true
  ve : PySem.W.kitOne K (.ref C) (.type "ValueError") = some true
  bs : ∃ b1 b2 b3 b4 b5 b6 b7 b8 b9 b10 b11 b12, PySem.W.kitOne K (.ref C) (.ref cl.Unlike) = some b1 ∧ PySem.W.kitOne K (.ref C) (.ref cl.NoRounds) = some b2 ∧ PySem.W.kitOne K (.ref C) (.ref cl.Apart) = some b3 ∧
    PySem.W.kitOne K (.ref C) (.ref cl.NoMove) = some b4 ∧ PySem.W.kitOne K (.ref C) (.ref cl.NotLeast) = some b5 ∧ PySem.W.kitOne K (.ref C) (.ref cl.NotGreat) = some b6 ∧ PySem.W.kitOne K (.ref C) (.ref cl.NoTree) = some b7 ∧
    PySem.W.kitOne K (.ref C) (.ref cl.NoCars) = some b8 ∧ PySem.W.kitOne K (.ref C) (.ref cl.NoChain) = some b9 ∧ PySem.W.kitOne K (.ref C) (.ref cl.NoBound) = some b10 ∧ PySem.W.kitOne K (.ref C) (.ref cl.NoText) = some b11 ∧
    PySem.W.kitOne K (.ref C) (.ref cl.NoName) = some b12 ∧ [b1, b2, b3, b4, b5, b6, b7, b8, b9, b10, b11, b12].count true = 1
def spAlone (K : PySem.W.Frag) (cl : ClsA) : Sp := fun vs H Q _ => ∃ (e C : Addr) (bb : Option Addr), vs = [.ref e] ∧ H e = some (.exc e C bb) ∧ Alone K cl C ∧ ∀ H', Same H H' → Q (.bl true) H'
theorem ref_is {C : Addr} (u : Value) (r : RelV (.ref C) u) : u = .ref C := r
section
variable {P : Program} {w : World} {K : PySem.W.Frag} {mg : Str → Option Value} {base : Heap} {cl : ClsA}
theorem sc__law_alone : FnScope ["_law_e", "_law_some"] ["_law_e"] (defScope (top 39)) := ⟨rfl, rfl, rfl, by decide +kernel, rfl, by decide +kernel, by decide +kernel⟩
theorem ok_alone {f : Addr} {fd : FuncData} (F : Fun K "_law_alone" "_law_alone" (top 39) f fd) (T : TCl mg cl) : FnOkH P w K mg base 1 f fd ["_law_e"] (spAlone K cl) := by
  refine F.okH sc__law_alone (fun vs H Q E h => ?_) (fun cdv A outer s H vs Q E hr h => ?_)
  · obtain ⟨e, C, bb, rfl, _⟩ := h
    rfl
  · obtain ⟨e, C, bb, rfl, he, al, k⟩ := h
    obtain ⟨b1, b2, b3, b4, b5, b6, b7, b8, b9, b10, b11, b12, k1, k2, k3, k4, k5, k6, k7, k8, k9, k10, k11, k12, hc⟩ := al.bs
    refine ⟨_, (@pss_cons _ _ _ _ _ (@ps_set _ _ 1 _ _ _ _ sc__law_alone.nd rfl (Or.inl rfl) (@pe_lst _ _ _ _ (@pa_cons _ _ _ _ _ (pe_callB (call_isiXW (K := K) rfl) rfl T.b_isinstance (by decide +kernel) (pa_cons (pv 0) (pa_cons (pe_cls rfl T.c_Unlike) pa_nil))) (@pa_cons _ _ _ _ _ (pe_callB (call_isiXW (K := K) rfl) rfl T.b_isinstance (by decide +kernel) (pa_cons (pv 0) (pa_cons (pe_cls rfl T.c_NoRounds) pa_nil))) (@pa_cons _ _ _ _ _ (pe_callB (call_isiXW (K := K) rfl) rfl T.b_isinstance (by decide +kernel) (pa_cons (pv 0) (pa_cons (pe_cls rfl T.c_Apart) pa_nil))) (@pa_cons _ _ _ _ _ (pe_callB (call_isiXW (K := K) rfl) rfl T.b_isinstance (by decide +kernel) (pa_cons (pv 0) (pa_cons (pe_cls rfl T.c_NoMove) pa_nil))) pa_nil st_call) st_call) st_call) st_call)) (by rfl) (by first | exact .inl rfl | exact .inr rfl))
      (@pss_cons _ _ _ _ _ (@ps_set _ _ 1 _ _ _ _ sc__law_alone.nd rfl (Or.inl rfl) (pe_op op_cat (pv 1) (@pe_lst _ _ _ _ (@pa_cons _ _ _ _ _ (pe_callB (call_isiXW (K := K) rfl) rfl T.b_isinstance (by decide +kernel) (pa_cons (pv 0) (pa_cons (pe_cls rfl T.c_NotLeast) pa_nil))) (@pa_cons _ _ _ _ _ (pe_callB (call_isiXW (K := K) rfl) rfl T.b_isinstance (by decide +kernel) (pa_cons (pv 0) (pa_cons (pe_cls rfl T.c_NotGreat) pa_nil))) (@pa_cons _ _ _ _ _ (pe_callB (call_isiXW (K := K) rfl) rfl T.b_isinstance (by decide +kernel) (pa_cons (pv 0) (pa_cons (pe_cls rfl T.c_NoTree) pa_nil))) (@pa_cons _ _ _ _ _ (pe_callB (call_isiXW (K := K) rfl) rfl T.b_isinstance (by decide +kernel) (pa_cons (pv 0) (pa_cons (pe_cls rfl T.c_NoCars) pa_nil))) pa_nil st_call) st_call) st_call) st_call))) (by rfl) (by first | exact .inl rfl | exact .inr rfl))
      (@pss_cons _ _ _ _ _ (@ps_set _ _ 1 _ _ _ _ sc__law_alone.nd rfl (Or.inl rfl) (pe_op op_cat (pv 1) (@pe_lst _ _ _ _ (@pa_cons _ _ _ _ _ (pe_callB (call_isiXW (K := K) rfl) rfl T.b_isinstance (by decide +kernel) (pa_cons (pv 0) (pa_cons (pe_cls rfl T.c_NoChain) pa_nil))) (@pa_cons _ _ _ _ _ (pe_callB (call_isiXW (K := K) rfl) rfl T.b_isinstance (by decide +kernel) (pa_cons (pv 0) (pa_cons (pe_cls rfl T.c_NoBound) pa_nil))) (@pa_cons _ _ _ _ _ (pe_callB (call_isiXW (K := K) rfl) rfl T.b_isinstance (by decide +kernel) (pa_cons (pv 0) (pa_cons (pe_cls rfl T.c_NoText) pa_nil))) (@pa_cons _ _ _ _ _ (pe_callB (call_isiXW (K := K) rfl) rfl T.b_isinstance (by decide +kernel) (pa_cons (pv 0) (pa_cons (pe_cls rfl T.c_NoName) pa_nil))) pa_nil st_call) st_call) st_call) st_call))) (by rfl) (by first | exact .inl rfl | exact .inr rfl))
      (pss_one (ps_ret (pe_and (pe_cmpR op_eq (pe_bmK (K := K) rfl PySem.F.plainAttrs_list PySem.F.slot_list_count PySem.F.type_list_count (mt_countB (K := K) rfl) (pv 1) (pa_cons pe_bl pa_nil)) pe_int (nomark _)) (pe_and (pe_callB (call_isiXW (K := K) rfl) rfl T.b_isinstance (by decide +kernel) (pa_cons (pv 0) (pa_cons (pe_cls rfl T.c_StarError) pa_nil))) (pe_one (pe_callB (call_isiXW (K := K) rfl) rfl T.b_isinstance (by decide +kernel) (pa_cons (pv 0) (pa_cons (pe_bltn (v := .ty "ValueError") rfl T.b_ValueError (by decide +kernel) rfl) pa_nil))))))))))), ?_⟩
    refine ⟨_, rfl, e, C, bb, _, _, _, rfl, he, al.ei, ref_is, k1, _, rfl, e, C, bb, _, _, _, rfl, he, al.ei, ref_is, k2, _, rfl, e, C, bb, _, _, _, rfl, he, al.ei, ref_is, k3, _, rfl, e, C, bb, _, _, _, rfl, he, al.ei, ref_is, k4, (by show 4 ≤ sizeLine; decide), fun l1 f1 => ?_⟩
    have h1 := Same.new (o := .lst [.bl b1, .bl b2, .bl b3, .bl b4]) f1 _ _ he
    refine ⟨_, rfl, _, rfl, e, C, bb, _, _, _, rfl, h1, al.ei, ref_is, k5, _, rfl, e, C, bb, _, _, _, rfl, h1, al.ei, ref_is, k6, _, rfl, e, C, bb, _, _, _, rfl, h1, al.ei, ref_is, k7, _, rfl, e, C, bb, _, _, _, rfl, h1, al.ei, ref_is, k8, (by show 4 ≤ sizeLine; decide), fun l2 f2 => ?_⟩
    have s2 := (Same.new (o := .lst [.bl b1, .bl b2, .bl b3, .bl b4]) f1).trans (Same.new (o := .lst [.bl b5, .bl b6, .bl b7, .bl b8]) f2)
    have g1 := Same.new (o := .lst [.bl b5, .bl b6, .bl b7, .bl b8]) f2 _ _ (upd_same (H := H) (a := l1) (o := .lst [.bl b1, .bl b2, .bl b3, .bl b4]))
    refine ⟨l1, l2, _, _, rfl, rfl, g1, upd_same, (by show 8 ≤ sizeLine; decide), fun l3 f3 => ?_⟩
    have s3 := s2.trans (Same.new (o := .lst ([.bl b1, .bl b2, .bl b3, .bl b4] ++ [.bl b5, .bl b6, .bl b7, .bl b8])) f3)
    have h3 := s3 _ _ he
    have g3 : upd (upd (upd H l1 (.lst [.bl b1, .bl b2, .bl b3, .bl b4])) l2 (.lst [.bl b5, .bl b6, .bl b7, .bl b8])) l3 (.lst ([.bl b1, .bl b2, .bl b3, .bl b4] ++ [.bl b5, .bl b6, .bl b7, .bl b8])) l3 = some (.lst ([.bl b1, .bl b2, .bl b3, .bl b4] ++ [.bl b5, .bl b6, .bl b7, .bl b8])) := upd_same
    generalize upd (upd (upd H l1 (.lst [.bl b1, .bl b2, .bl b3, .bl b4])) l2 (.lst [.bl b5, .bl b6, .bl b7, .bl b8])) l3 (.lst ([.bl b1, .bl b2, .bl b3, .bl b4] ++ [.bl b5, .bl b6, .bl b7, .bl b8])) = H3 at s3 h3 g3 ⊢
    refine ⟨_, rfl, _, rfl, e, C, bb, _, _, _, rfl, h3, al.ei, ref_is, k9, _, rfl, e, C, bb, _, _, _, rfl, h3, al.ei, ref_is, k10, _, rfl, e, C, bb, _, _, _, rfl, h3, al.ei, ref_is, k11, _, rfl, e, C, bb, _, _, _, rfl, h3, al.ei, ref_is, k12, (by show 4 ≤ sizeLine; decide), fun l4 f4 => ?_⟩
    have g4 := Same.new (o := .lst [.bl b9, .bl b10, .bl b11, .bl b12]) f4 _ _ g3
    refine ⟨l3, l4, _, _, rfl, rfl, g4, upd_same, (by show 12 ≤ sizeLine; decide), fun l5 f5 => ?_⟩
    have s5 := s3.trans ((Same.new (o := .lst [.bl b9, .bl b10, .bl b11, .bl b12]) f4).trans (Same.new (o := .lst (([.bl b1, .bl b2, .bl b3, .bl b4] ++ [.bl b5, .bl b6, .bl b7, .bl b8]) ++ [.bl b9, .bl b10, .bl b11, .bl b12])) f5))
    have h5 := s5 _ _ he
    refine ⟨_, rfl, .inl ⟨rfl, _, SqL.of upd_same⟩, l5, [b1, b2, b3, b4, b5, b6, b7, b8, b9, b10, b11, b12], true, rfl, rfl, upd_same, rfl, true, ?_, iteT ?_⟩
    · rw [hc]
      rfl
    refine ⟨_, rfl, e, C, bb, _, _, _, rfl, h5, al.ei, ref_is, al.st, true, rfl, iteT ?_⟩
    exact ⟨_, rfl, e, C, bb, _, _, _, rfl, h5, al.ei, (fun u r => r), al.ve, k _ s5⟩
end
end Sw
namespace Sw
open PySem L2
def spTo71 : Sp := fun vs H Q _ => ∃ (v : V) (d : PyData), vs = [v] ∧ DT H (fun _ => True) v d ∧ OkTx d ∧
  (∀ n xs, OrTx d n xs → ∀ t H', H t = none → H' t = some (.tup (xs.map V.int)) → Same H H' → Q (.ref t) H') ∧ ((∀ n xs, ¬ OrTx d n xs) → ∀ H', Same H H' → Q .non H')
structure TTo71 (P : Program) (w : World) (K : PySem.W.Frag) (mg : Str → Option Value) (base : Heap) (cl : ClsA) : Prop extends T1 mg K where
  c_NoText : mg "NoText" = some (.ref cl.NoText)
  c_StarError : mg "StarError" = some (.ref cl.StarError)
  f_read_order : FnAtX P w K mg base "read_order" 5 ["text"] (spReadOrdX cl.NoText)
  f__law_alone : FnAtH P w K mg base "_law_alone" 1 ["_law_e"] (spAlone K cl)
  al : Alone K cl cl.NoText
  e1 : ExcM K cl.NoText cl.NoText true
section
variable {P : Program} {w : World} {K : PySem.W.Frag} {mg : Str → Option Value} {base : Heap} {cl : ClsA}
theorem sc__law_told : FnScope ["_law_text_here", "_law_e", "_law_found"] ["_law_text_here"] (defScope (top 43)) := ⟨rfl, rfl, rfl, by decide +kernel, rfl, by decide +kernel, by decide +kernel⟩
theorem ok_to71 {f : Addr} {fd : FuncData} (F : Fun K "_law_told" "_law_told" (top 43) f fd) (T : TTo71 P w K mg base cl) : FnOk P w K mg base CX0 6 f fd ["_law_text_here"] spTo71 := by
  refine F.ok sc__law_told (fun vs H Q E h => ?_) (fun cdv A outer s H vs Q E hr h => ?_)
  · obtain ⟨v, d, rfl, _⟩ := h
    rfl
  · obtain ⟨v, d, rfl, hd, ok, kY, kN⟩ := h
    refine ⟨_, (pss_cons (ps_tryW (fun _ _ => (pss_one (ps_set (i := 2) sc__law_told.nd rfl (Or.inl rfl) (pe_callXT T.f_read_order (hr.mono (by decide)) rfl (pa_cons (pv 0) pa_nil))))) (ph_consAW (i := 1) sc__law_told.nd rfl rfl rfl T.c_NoText (fun _ => (pss_one (ps_ret (pe_ix (ix_listK (K := K) rfl) (pe_lst (pa_cons (pe_tup (pa_cons pe_str pa_nil)) (pa_cons pe_non pa_nil))) (pe_callTy call_int1 rfl T.b_int (by decide +kernel) (pa_cons (pe_callH T.f__law_alone ((hr.mark _).mono (by decide)) rfl (pa_cons (pv 1) pa_nil)) pa_nil)) (fun _ _ => rfl))))) (ph_consW rfl T.c_StarError (fun _ => (pss_one (ps_ret (pe_tup (pa_cons pe_str pa_nil))))) ph_nilW)))
      (pss_one (ps_ret (pv 2)))), ?_⟩
    have one : 1 ≤ sizeLine := by decide
    have two : 2 ≤ sizeLine := by decide
    refine ⟨_, rfl, v, d, rfl, hd, fun x e => ?_, fun n xs hS t H' ht h' s' => ⟨_, rfl, kY n xs hS t H' ht h' s'⟩, fun no bb H' s' e he => ?_⟩
    · rcases ok with ⟨y, e', h⟩ | ⟨h, _⟩
      · rw [e'] at e; injection e with e; rw [← e]; exact h
      · exact absurd e (h x)
    refine ⟨_, true, rfl, T.e1, iteT fun b2 => ?_⟩
    refine ⟨one, fun t ft => ⟨two, fun l fl => ⟨_, rfl, e, _, b2, rfl, Same.new fl _ _ (Same.new ft _ _ upd_same), T.al, fun H2 s2 => .inr ⟨_, rfl, l, _, _, .non, rfl, rfl, SqL.of (s2 _ _ upd_same), rfl, ?_⟩⟩⟩⟩
    exact kN no H2 (s'.trans ((Same.new he).trans ((Same.new ft).trans ((Same.new fl).trans s2))))
end
end Sw
namespace Sw
open PySem L2
theorem Lsts.setX {H : Hp} {q : Addr} {L : List Int} (h : H q = some (.lst (L.map V.int))) : ∀ {vs : List V} {r : List (List Int)} (i : Nat), Lsts H vs r → Lsts H (vs.set i (.ref q)) (r.set i L)
  | _, _, _, .nil => .nil
  | _, _, 0, .cons _ x => .cons h x
  | _, _, i + 1, .cons g x => .cons g (x.setX h i)
theorem LokO.set {T : List (List Int)} (h : LokO T) {L : List Int} (i : Nat) (hL : L.length ≤ 13 ∧ ∀ x ∈ L, 0 ≤ x ∧ x < 100) : LokO (T.set i L) := by
  refine ⟨by rw [List.length_set]; exact h.1, fun M hM => ?_⟩
  rcases List.mem_or_eq_of_mem_set hM with hM | rfl
  · exact h.2 M hM
  · exact hL
def spOt71 : Sp := fun vs H Q _ => ∃ (p : Addr) (c : Nat) (n : Int) (t : Addr) (xs : List Int), vs = [.ref p, .ref t] ∧ Purse H p c ∧ c ≤ 90000 ∧ H t = some (.tup (xs.map V.int)) ∧ Ord n xs ∧ 1 ≤ n ∧ n ≤ 12 ∧ p ≠ t ∧
  ∀ v d H', DT H' (fun b => b ≠ p) v d → OkTx d → Purse H' p (c + 5) → SameX p H H' → Q v H'
structure TOt71 (P : Program) (w : World) (K : PySem.W.Frag) (mg : Str → Option Value) (base : Heap) : Prop extends T1 mg K where
  f__law_take : FnAt P w K mg base "_law_take" 1 ["_law_purse_here", "_law_many"] spTake
  f__law_rounds : FnAt P w K mg base "_law_rounds" 1 ["_law_order_here"] spRounds
  f__law_text : FnAt P w K mg base "_law_text" 1 ["_law_lists"] spLtx1
section
variable {P : Program} {w : World} {K : PySem.W.Frag} {mg : Str → Option Value} {base : Heap}
theorem sc__law_other : FnScope ["_law_purse_here", "_law_order_here", "_law_sort", "_law_lists", "_law_at", "_law_spot"] ["_law_purse_here", "_law_order_here"] (defScope (top 41)) := ⟨rfl, rfl, rfl, by decide +kernel, rfl, by decide +kernel, by decide +kernel⟩
theorem ok_ot71 {f : Addr} {fd : FuncData} (F : Fun K "_law_other" "_law_other" (top 41) f fd) (T : TOt71 P w K mg base) : FnOk P w K mg base CX0 2 f fd ["_law_purse_here", "_law_order_here"] spOt71 := by
  refine F.ok sc__law_other (fun vs H Q E h => ?_) (fun cdv A outer s H vs Q E hr h => ?_)
  · obtain ⟨p, c, n, t, xs, rfl, _⟩ := h
    rfl
  · obtain ⟨p, c, n, t, xs, rfl, pu, hc, ht, o, n1, n2, npt, k⟩ := h
    refine ⟨_, (@pss_cons _ _ _ _ _ (ps_set (i := 2) sc__law_other.nd rfl (Or.inl rfl) (pe_callF T.f__law_take (hr.mono (by first | decide | omega)) rfl (pa_cons (pv 0) (pa_cons pe_int pa_nil))))
      (@pss_cons _ _ _ _ _ (ps_set (i := 3) sc__law_other.nd rfl (Or.inl rfl) (pe_callF T.f__law_rounds (hr.mono (by first | decide | omega)) rfl (pa_cons (pv 1) pa_nil)))
      (@pss_cons _ _ _ _ _ (ps_set (i := 4) sc__law_other.nd rfl (Or.inl rfl) (pe_callF T.f__law_take (hr.mono (by first | decide | omega)) rfl (pa_cons (pv 0) (pa_cons (pe_callB (call_lenK (K := K) rfl) rfl T.b_len (by decide +kernel) (pa_cons (pv 3) pa_nil)) pa_nil))))
      (@pss_cons _ _ _ _ _ (ps_set (i := 5) sc__law_other.nd rfl (Or.inl rfl) (pe_callF T.f__law_take (hr.mono (by first | decide | omega)) rfl (pa_cons (pv 0) (pa_cons (pe_callB (call_lenK (K := K) rfl) rfl T.b_len (by decide +kernel) (pa_cons (pe_ix (ix_listK (K := K) rfl) (pv 3) (pv 4) (fun _ _ => rfl)) pa_nil)) pa_nil))))
      (@pss_cons _ _ _ _ _ (@ps_if _ _ _ _ _ _ _ _ (pt_cmpR op_eq (pv 2) pe_int (nomark _)) (pss_one (ps_asg (pe_op op_cat (pe_slice (sl_listK (K := K) rfl) (pe_ix (ix_listK (K := K) rfl) (pv 3) (pv 4) (fun _ _ => rfl)) (po_some (pv 5)) po_none) (pe_slice (sl_listK (K := K) rfl) (pe_ix (ix_listK (K := K) rfl) (pv 3) (pv 4) (fun _ _ => rfl)) po_none (po_some (pv 5)))) (pg_sub (pv 3) (pv 4) set_list))) (@pss_one _ _ _ (@ps_if _ _ _ _ _ _ _ _ (pt_cmpR op_eq (pv 2) pe_int (nomark _)) (pss_one (ps_set (i := 3) sc__law_other.nd rfl (Or.inl rfl) (pe_op op_cat (pe_slice (sl_listK (K := K) rfl) (pv 3) (po_some (pv 4)) po_none) (pe_slice (sl_listK (K := K) rfl) (pv 3) po_none (po_some (pv 4)))))) (@pss_one _ _ _ (@ps_if _ _ _ _ _ _ _ _ (pt_cmpR op_eq (pv 2) pe_int (nomark _)) (pss_one (ps_expr (pe_bmK (K := K) rfl PySem.F.plainAttrs_list PySem.F.slot_list_pop PySem.F.type_list_pop mt_popAt (pv 3) (pa_cons (pv 4) pa_nil)))) (@pss_one _ _ _ (@ps_if _ _ _ _ _ _ _ _ (pt_cmpR op_eq (pv 2) pe_int (nomark _)) (pss_one (ps_expr (pe_bmK (K := K) rfl PySem.F.plainAttrs_list PySem.F.slot_list_append PySem.F.type_list_append mt_append (pe_ix (ix_listK (K := K) rfl) (pv 3) (pv 4) (fun _ _ => rfl)) (pa_cons (pe_op op_add pe_int (pe_callF T.f__law_take (hr.mono (by first | decide | omega)) rfl (pa_cons (pv 0) (pa_cons pe_int pa_nil)))) pa_nil)))) (@pss_one _ _ _ (@ps_if _ _ _ _ _ _ _ _ (pt_cmpR op_eq (pv 2) pe_int (nomark _)) (pss_one (ps_ret (pe_callF T.f__law_text (hr.mono (by first | decide | omega)) rfl (pa_cons (pe_comp (N := (["_law_thing"] : List Str)) (ix := ([none] : List (Option Nat))) (comp_ok rfl rfl) rfl (pi_range2 rfl T.b_range (pa_cons pe_int (pa_cons (pe_op op_add pe_int (pv 4)) pa_nil))) (fun _ _ _ _ => (pg_name (i := 0) (show List.Nodup (["_law_thing"] : List Str) from by decide +kernel) rfl (Or.inl rfl))) (fun _ _ _ _ => pif_nil) (fun _ _ _ _ => (pe_lst (pa_cons (pv 0) pa_nil)))) pa_nil)))) (@pss_one _ _ _ (@ps_if _ _ _ _ _ _ _ _ (pt_cmpR op_eq (pv 2) pe_int (nomark _)) (@pss_one _ _ _ (@ps_ret _ _ _ _ (@pe_ix _ _ _ _ _ _ _ (ix_listK (K := K) rfl) (@pe_lst _ _ _ _ (@pa_consts _ _ [V.str (Str.ofString ""), V.str (Str.ofString " "), V.str (Str.ofString "()"), V.str (Str.ofString "(1"), V.str (Str.ofString "1)"), V.str (Str.ofString "1"), V.str (Str.ofString "none"), V.str (Str.ofString ")(")] rfl)) (pe_callF T.f__law_take (hr.mono (by first | decide | omega)) rfl (pa_cons (pv 0) (pa_cons pe_int pa_nil))) (fun _ _ => rfl)))) (@pss_one _ _ _ (@ps_if _ _ _ _ _ _ _ _ (pt_cmpR op_eq (pv 2) pe_int (nomark _)) (@pss_one _ _ _ (@ps_ret _ _ _ _ (@pe_ix _ _ _ _ _ _ _ (ix_listK (K := K) rfl) (@pe_lst _ _ _ _ (@pa_cons _ _ _ _ _ pe_non (@pa_cons _ _ _ _ _ pe_int (@pa_cons _ _ _ _ _ pe_bl (@pa_cons _ _ _ _ _ (pe_lst (pa_cons pe_str pa_nil)) (@pa_cons _ _ _ _ _ (pe_tup (pa_cons pe_int pa_nil)) (@pa_cons _ _ _ _ _ (pv 1) (@pa_cons _ _ _ _ _ (pe_lst pa_nil) (@pa_cons _ _ _ _ _ (pe_tup (pa_cons pe_str pa_nil)) pa_nil st_tup) st_list) st_name) st_tup) st_list) st_con) st_con) st_con)) (pe_callF T.f__law_take (hr.mono (by first | decide | omega)) rfl (pa_cons (pv 0) (pa_cons pe_int pa_nil))) (fun _ _ => rfl)))) pss_nil)))))))))))))
      (pss_one (ps_ret (pe_callF T.f__law_text (hr.mono (by first | decide | omega)) rfl (pa_cons (pv 3) pa_nil))))))))), ?_⟩
    have big : (10000000 : Nat) ≤ sizeLine := by decide
    have one : 1 ≤ sizeLine := by decide
    obtain ⟨Sne, _, Sb, Sfl⟩ := or_ok o n1 n2
    obtain ⟨f1, f2, f3⟩ := rnd_facts o
    have np : ∀ {b : Addr} {G : Hp} {c' : Nat}, Purse G p c' → G b = none → p ≠ b := fun q z => by obtain ⟨_, e⟩ := q.at; exact ne_of_none e z
    have hnS : ∃ S, rndM n xs = S := ⟨_, rfl⟩
    refine ⟨_, rfl, p, c, 8, rfl, pu, by omega, by decide, by decide, fun so H1 so0 so1 pu1 s1 => ?_⟩
    refine ⟨_, rfl, t, n, xs, rfl, s1 _ _ npt.symm ht, o, by omega, fun l ws H2 fl hl xl fr nlw s2 => ?_⟩
    obtain ⟨S, hS⟩ := hnS
    rw [hS] at xl f1 f2 f3 Sb Sne
    have wl := xl.length
    have Spos := List.length_pos_iff.mpr Sne
    have SK : ∀ L ∈ S, L.length ≤ 12 ∧ ∀ x ∈ L, 0 ≤ x ∧ x < 100 := fun L hL => ⟨by have := (f2 L hL).2.1; omega, fun x hx => by have := Sb L hL x hx; omega⟩
    have pu2 := pu1.keep s2
    have s02 := s1.trans s2.x
    refine ⟨_, rfl, _, rfl, l, _, rfl, .inl (SqL.of hl), p, _, _, rfl, pu2, by omega, by omega, by omega, fun at_ H3 a0 a1 pu3 s3 => ?_⟩
    have npl : l ≠ p := (np pu1 fl).symm
    have flH : H l = none := free_of s1 (np pu1 fl) fl
    have fbH : ∀ b, V.ref b ∈ ws → H b = none := fun b hb => by
      obtain ⟨b', e, fb⟩ := fr.2 _ hb
      rw [V.ref.inj e]; exact free_of s1 (np pu1 fb) fb
    have hl3 := s3 _ _ npl hl
    have nwp : ∀ b, V.ref b ∈ ws → b ≠ p := fun b hb => by
      obtain ⟨b', e, fb⟩ := fr.2 _ hb
      rw [V.ref.inj e]; exact (np pu1 fb).symm
    have x3 : Lsts H3 ws S := xl.stay fun {b} {zs} hb e => s3 _ _ (nwp b hb) e
    obtain ⟨aN, rfl⟩ : ∃ aN : Nat, at_ = (aN : Int) := ⟨at_.toNat, by omega⟩
    have aw : aN < ws.length := by omega
    obtain ⟨v, hv⟩ : ∃ v, ws[aN]? = some v := ⟨_, List.getElem?_eq_getElem aw⟩
    obtain ⟨b, L, rfl, hb, hL⟩ := x3.get hv
    have gL := SK L (List.mem_of_getElem? hL)
    have Lne := List.length_pos_iff.mpr (f2 L (List.mem_of_getElem? hL)).1
    refine ⟨_, rfl, _, rfl, _, rfl, l, ws, (aN : Int), _, rfl, rfl, SqL.of hl3, atI_nat hv, b, _, rfl, .inl (SqL.of hb), p, _, _, rfl, pu3, by omega, by rw [List.length_map]; omega, by rw [List.length_map]; omega, fun sp H4 b0 b1 pu4 s4 => ?_⟩
    rw [List.length_map] at b1
    have s04 := s02.trans (s3.trans s4)
    have hl4 := s4 _ _ npl hl3
    have x4 : Lsts H4 ws S := x3.stay fun {b} {zs} hb e => s4 _ _ (nwp b hb) e
    have hb4 := s4 _ _ (nwp b (List.mem_of_getElem? hv)) hb
    have nlb : V.ref l ∉ ws := nlw
    have okS : LokO S := ⟨by omega, fun M hM => ⟨by have := (SK M hM).1; omega, (SK M hM).2⟩⟩
    have htJ0 : H4 t = some (.tup (xs.map V.int)) := s04 _ _ npt.symm ht
    refine gNJ ?_
    dsimp only
    refine seq_byR (t := tIfS _ _ _) (fun σ' H' => ∃ v2 l' us T, σ' = [some (.ref p), some (.ref t), v2, some (.ref l'), some (.int (aN : Int)), some (.int sp)] ∧ H' l' = some (.lst us) ∧ Lsts H' us T ∧ LokO T ∧ Purse H' p (c + 5) ∧ SameX p H H') (fun D' hD hRt => ?_) ?_
    · refine ⟨_, rfl, rfl, _, rfl, ite2 (fun c0 => ?_) (fun c0 => ?_)⟩
      · refine ⟨_, rfl, _, rfl, l, ws, (aN : Int), _, rfl, rfl, SqL.of hl4, atI_nat hv, _, rfl, sp, rfl, b, _, rfl, SqL.of hb4, fun q1 g1 => ?_⟩
        rw [cutD9 b0 (by rw [List.length_map]; omega)]
        have z1 : Same H4 (upd H4 q1 (.lst ((L.map V.int).drop sp.toNat))) := Same.new g1
        have h1 : upd H4 q1 (.lst ((L.map V.int).drop sp.toNat)) q1 = some (.lst ((L.map V.int).drop sp.toNat)) := upd_same
        generalize upd H4 q1 (.lst ((L.map V.int).drop sp.toNat)) = J1 at z1 h1 ⊢
        refine ⟨_, rfl, _, rfl, l, ws, (aN : Int), _, rfl, rfl, SqL.of (z1 _ _ hl4), atI_nat hv, _, rfl, sp, rfl, b, _, rfl, SqL.of (z1 _ _ hb4), fun q2 g2 => ?_⟩
        rw [cutT9 b0 (by rw [List.length_map]; omega)]
        have z2 : Same J1 (upd J1 q2 (.lst ((L.map V.int).take sp.toNat))) := Same.new g2
        have h2 : upd J1 q2 (.lst ((L.map V.int).take sp.toNat)) q2 = some (.lst ((L.map V.int).take sp.toNat)) := upd_same
        generalize upd J1 q2 (.lst ((L.map V.int).take sp.toNat)) = J2 at z2 h2 ⊢
        refine ⟨q1, q2, _, _, rfl, rfl, z2 _ _ h1, h2, by rw [List.length_drop, List.length_take, List.length_map]; omega, fun q3 g3 => ?_⟩
        have e3 : (L.map V.int).drop sp.toNat ++ (L.map V.int).take sp.toNat = (L.drop sp.toNat ++ L.take sp.toNat).map V.int := by rw [List.map_append, List.map_drop, List.map_take]
        rw [e3]
        have z3 : Same J2 (upd J2 q3 (.lst ((L.drop sp.toNat ++ L.take sp.toNat).map V.int))) := Same.new g3
        have h3 : upd J2 q3 (.lst ((L.drop sp.toNat ++ L.take sp.toNat).map V.int)) q3 = some (.lst ((L.drop sp.toNat ++ L.take sp.toNat).map V.int)) := upd_same
        generalize upd J2 q3 (.lst ((L.drop sp.toNat ++ L.take sp.toNat).map V.int)) = J3 at z3 h3 ⊢
        have z13 := z1.trans (z2.trans z3)
        have hl5 := z13 _ _ hl4
        refine ⟨_, rfl, _, rfl, l, ws, (aN : Int), aN, rfl, rfl, hl5, ixN_lt (i := (aN : Int)) (by omega) (by omega), ?_⟩
        have nql : q3 ≠ l := (ne_of_none ((z1.trans z2) _ _ hl4) g3).symm
        have nl5 : V.ref l ∉ ws.set aN (.ref q3) := fun hv' => by
          rcases List.mem_or_eq_of_mem_set hv' with q | q
          · exact nlb q
          · exact nql (V.ref.inj q).symm
        refine hD _ _ ⟨_, l, _, S.set aN (L.drop sp.toNat ++ L.take sp.toNat), rfl, upd_same, ((x4.keep z13).setX h3 aN).off nl5, okS.set aN ⟨?_, fun x hx => ?_⟩, (((pu4.keep z13).upd npl.symm).mono (by omega) (by omega)), SameX.put (s04.trans z13.x) flH⟩
        · rw [List.length_append, List.length_drop, List.length_take]; have := gL.1; omega
        · rcases List.mem_append.mp hx with hx | hx
          · exact gL.2 x (List.mem_of_mem_drop hx)
          · exact gL.2 x (List.mem_of_mem_take hx)
      refine ⟨_, rfl, rfl, _, rfl, ite2 (fun c1 => ?_) (fun c1 => ?_)⟩
      · refine ⟨_, rfl, _, rfl, (aN : Int), rfl, l, ws, rfl, SqL.of hl4, fun q1 g1 => ?_⟩
        rw [cutD9 (by omega) (by omega)]
        have z1 : Same H4 (upd H4 q1 (.lst (ws.drop (aN : Int).toNat))) := Same.new g1
        have h1 : upd H4 q1 (.lst (ws.drop (aN : Int).toNat)) q1 = some (.lst (ws.drop (aN : Int).toNat)) := upd_same
        generalize upd H4 q1 (.lst (ws.drop (aN : Int).toNat)) = J1 at z1 h1 ⊢
        refine ⟨_, rfl, _, rfl, (aN : Int), rfl, l, ws, rfl, SqL.of (z1 _ _ hl4), fun q2 g2 => ?_⟩
        rw [cutT9 (by omega) (by omega)]
        have z2 : Same J1 (upd J1 q2 (.lst (ws.take (aN : Int).toNat))) := Same.new g2
        have h2 : upd J1 q2 (.lst (ws.take (aN : Int).toNat)) q2 = some (.lst (ws.take (aN : Int).toNat)) := upd_same
        generalize upd J1 q2 (.lst (ws.take (aN : Int).toNat)) = J2 at z2 h2 ⊢
        refine ⟨q1, q2, _, _, rfl, rfl, z2 _ _ h1, h2, by rw [List.length_drop, List.length_take]; omega, fun q3 g3 => ?_⟩
        have z3 : Same J2 (upd J2 q3 (.lst (ws.drop (aN : Int).toNat ++ ws.take (aN : Int).toNat))) := Same.new g3
        have z13 := z1.trans (z2.trans z3)
        have x13 := x4.keep z13
        refine hD _ _ ⟨_, q3, _, _, rfl, upd_same, (x13.dropX _).append (x13.takeX _), ⟨by rw [List.length_append, List.length_drop, List.length_take]; omega, fun M hM => ?_⟩, ((pu4.keep z13).mono (by omega) (by omega)), s04.trans z13.x⟩
        rcases List.mem_append.mp hM with hM | hM
        · exact okS.2 M (List.mem_of_mem_drop hM)
        · exact okS.2 M (List.mem_of_mem_take hM)
      refine ⟨_, rfl, rfl, _, rfl, ite2 (fun c2 => ?_) (fun c2 => ?_)⟩
      · refine ⟨_, rfl, .inl ⟨rfl, _, SqL.of hl4⟩, _, rfl, l, ws, (aN : Int), aN, _, rfl, rfl, hl4, by omega, by omega, (ixN_seq (ixN_lt (by omega) (by omega))).1, hv, ?_⟩
        have lfne : V.ref l ∉ ws.eraseIdx aN := fun z => nlb (List.mem_of_mem_eraseIdx z)
        refine hD _ _ ⟨_, l, _, S.eraseIdx aN, rfl, upd_same, (x4.eraseIdx aN).off lfne, ⟨?_, fun M hM => okS.2 M (List.mem_of_mem_eraseIdx hM)⟩, ((pu4.upd npl.symm).mono (by omega) (by omega)), SameX.put s04 flH⟩
        have := List.length_eraseIdx_le S aN; have := okS.1; omega
      refine ⟨_, rfl, rfl, _, rfl, ite2 (fun c3 => ?_) (fun c3 => ?_)⟩
      · refine ⟨_, rfl, _, rfl, l, ws, (aN : Int), _, rfl, rfl, SqL.of hl4, atI_nat hv, .inl ⟨rfl, _, SqL.of hb4⟩, _, rfl, p, _, 13, rfl, pu4, by omega, by decide, by decide, fun r5 H5 d0 d1 pu5 s5 => ?_⟩
        obtain ⟨on, hon⟩ : ∃ on : Int, 1 + r5 = on := ⟨_, rfl⟩
        refine add_at hon ?_
        have nbp := nwp b (List.mem_of_getElem? hv)
        have hb5 := s5 _ _ nbp hb4
        refine ⟨b, _, _, rfl, rfl, hb5, by rw [List.length_map]; have := gL.1; omega, ?_⟩
        have x5 : Lsts H5 ws S := x4.stay fun {b'} {zs} hb' e => s5 _ _ (nwp b' hb') e
        have e5 : L.map V.int ++ [V.int on] = (L ++ [on]).map V.int := by rw [List.map_append]; rfl
        rw [e5]
        have nbl : b ≠ l := fun z => nlb (z ▸ List.mem_of_getElem? hv)
        refine hD _ _ ⟨_, l, ws, S.set aN (L ++ [on]), rfl, by rw [upd_ne nbl.symm]; exact s5 _ _ npl hl4, x5.set fr.1 hv, okS.set aN ⟨by rw [List.length_append]; have := gL.1; show _ + 1 ≤ _; omega, fun x hx => ?_⟩, ((pu5.upd nbp.symm).mono (by omega) (by omega)), SameX.put (s04.trans s5) (fbH _ (List.mem_of_getElem? hv))⟩
        rcases List.mem_append.mp hx with hx | hx
        · exact gL.2 x hx
        · rw [List.mem_singleton.mp hx]; omega
      refine ⟨_, rfl, rfl, _, rfl, ite2 (fun c4 => ?_) (fun c4 => ?_)⟩
      · refine ⟨_, rfl, _, _, rfl, rfl, 1, 13 + (aN : Int), rfl, ⟨by decide, by decide, by omega, by omega⟩, compR (k := 0) (fun i ys σ' H' => (∃ v, σ' = [v]) ∧ Same H4 H' ∧ ∃ T : List (List Int), Lsts H' ys T ∧ T.length = i ∧ ∀ L ∈ T, L.length ≤ 13 ∧ ∀ x ∈ L, 0 ≤ x ∧ x < 100) (by omega) ⟨⟨none, rfl⟩, Same.refl _, [], .nil, rfl, by simp⟩ (fun i ys σ' H' q => by obtain ⟨_, _, T, e, e2, _⟩ := q; have := e.length; omega) ?_ ?_⟩
        · rintro i ys σ' H7 R hi ⟨⟨v, rfl⟩, s7, T, xT, Tl, bT⟩ done
          refine ⟨_, rfl, one, fun lp flp => done _ _ _ ⟨⟨_, rfl⟩, s7.trans (Same.new flp), T ++ [[1 + (i : Int)]], (xT.keep (Same.new flp)).snoc upd_same, by rw [List.length_append]; show _ + 1 = _; omega, fun L hL => ?_⟩⟩
          rcases List.mem_append.mp hL with hL | hL
          · exact bT L hL
          · rw [List.mem_singleton.mp hL]
            exact ⟨(by show 1 ≤ 13; decide), fun x hx => by rw [List.mem_singleton.mp hx]; omega⟩
        · rintro ys σ' H7 q ⟨_, s7, T, xT, Tl, bT⟩ fq
          have okM : LokO T := ⟨by omega, bT⟩
          refine ⟨q, ys, T, rfl, upd_same, xT.keep (Same.new fq), okM, fun H6 s6 => ?_⟩
          show D'.rt _ _
          rw [hRt]
          have z := s7.trans ((Same.new (o := .lst ys) fq).trans s6)
          exact k _ _ _ (.str _) (.inl ⟨_, rfl, by have := okM.len; omega⟩) ((pu4.keep z).mono (by omega) (by omega)) (s04.trans z.x)
      refine ⟨_, rfl, rfl, _, rfl, ite2 (fun c5 => ?_) (fun c5 => ?_)⟩
      · refine ⟨(by show 8 ≤ sizeLine; omega), fun lq fq => ?_⟩
        have e3 : Same H4 (upd H4 lq (.lst [.str (Str.ofString ""), .str (Str.ofString " "), .str (Str.ofString "()"), .str (Str.ofString "(1"), .str (Str.ofString "1)"), .str (Str.ofString "1"), .str (Str.ofString "none"), .str (Str.ofString ")(")])) := Same.new fq
        have hlq : upd H4 lq (.lst [.str (Str.ofString ""), .str (Str.ofString " "), .str (Str.ofString "()"), .str (Str.ofString "(1"), .str (Str.ofString "1)"), .str (Str.ofString "1"), .str (Str.ofString "none"), .str (Str.ofString ")(")]) lq = some (.lst [.str (Str.ofString ""), .str (Str.ofString " "), .str (Str.ofString "()"), .str (Str.ofString "(1"), .str (Str.ofString "1)"), .str (Str.ofString "1"), .str (Str.ofString "none"), .str (Str.ofString ")(")]) := upd_same
        have nq : lq ≠ p := (np pu4 fq).symm
        generalize upd H4 lq (.lst [.str (Str.ofString ""), .str (Str.ofString " "), .str (Str.ofString "()"), .str (Str.ofString "(1"), .str (Str.ofString "1)"), .str (Str.ofString "1"), .str (Str.ofString "none"), .str (Str.ofString ")(")]) = J3 at e3 hlq ⊢
        refine ⟨_, rfl, p, _, 8, rfl, pu4.keep e3, by omega, by decide, by decide, fun wh H5 w0 w1 pu5 s5 => ?_⟩
        have dts : DTs H5 (fun b => b ≠ p) [.str (Str.ofString ""), .str (Str.ofString " "), .str (Str.ofString "()"), .str (Str.ofString "(1"), .str (Str.ofString "1)"), .str (Str.ofString "1"), .str (Str.ofString "none"), .str (Str.ofString ")(")] [.str (Str.ofString ""), .str (Str.ofString " "), .str (Str.ofString "()"), .str (Str.ofString "(1"), .str (Str.ofString "1)"), .str (Str.ofString "1"), .str (Str.ofString "none"), .str (Str.ofString ")(")] := (.cons (.str _) (.cons (.str _) (.cons (.str _) (.cons (.str _) (.cons (.str _) (.cons (.str _) (.cons (.str _) (.cons (.str _) .nil))))))))
        have okd : ∀ d ∈ ([.str (Str.ofString ""), .str (Str.ofString " "), .str (Str.ofString "()"), .str (Str.ofString "(1"), .str (Str.ofString "1)"), .str (Str.ofString "1"), .str (Str.ofString "none"), .str (Str.ofString ")(")] : List PyData), OkTx d := by
          intro d hd
          simp only [List.mem_cons, List.not_mem_nil, or_false] at hd
          rcases hd with rfl | rfl | rfl | rfl | rfl | rfl | rfl | rfl
          all_goals exact .inl ⟨_, rfl, by decide +kernel⟩
        generalize ([.str (Str.ofString ""), .str (Str.ofString " "), .str (Str.ofString "()"), .str (Str.ofString "(1"), .str (Str.ofString "1)"), .str (Str.ofString "1"), .str (Str.ofString "none"), .str (Str.ofString ")(")] : List PyData) = ds at dts okd
        have dl := dts.length
        obtain ⟨v, hv, hd⟩ := dts.getD (i := wh.toNat) (List.getElem?_eq_getElem (by rw [← dl]; show wh.toNat < 8; omega))
        refine ⟨lq, _, wh, v, rfl, rfl, SqL.of (s5 _ _ nq hlq), at_refI w0 hv, ?_⟩
        show D'.rt _ _
        rw [hRt]
        exact k _ _ _ hd (okd _ (List.getElem_mem _)) (pu5.mono (by omega) (by omega)) (s04.trans (e3.x.trans s5))
      refine ⟨_, rfl, rfl, _, rfl, ite2 (fun c6 => ?_) (fun c6 => ?_)⟩
      · refine ⟨one, fun q1 g1 => ⟨one, fun q2 g2 => ⟨_, rfl, Nat.zero_le _, fun q3 g3 => ⟨one, fun q4 g4 => ⟨(by show 8 ≤ sizeLine; omega), fun lq fq => ?_⟩⟩⟩⟩⟩
        have nq1 : q1 ≠ p := (np pu4 g1).symm
        have e1 : Same H4 (upd H4 q1 (.lst [.str (Str.ofString "(1)")])) := Same.new g1
        have hq1 : upd H4 q1 (.lst [.str (Str.ofString "(1)")]) q1 = some (.lst [.str (Str.ofString "(1)")]) := upd_same
        generalize upd H4 q1 (.lst [.str (Str.ofString "(1)")]) = J1 at e1 hq1 g2 g3 g4 fq ⊢
        have nq2 : q2 ≠ p := (np (pu4.keep e1) g2).symm
        have e2 : Same J1 (upd J1 q2 (.tup [.int 1])) := Same.new g2
        have hq2 : upd J1 q2 (.tup [.int 1]) q2 = some (.tup [.int 1]) := upd_same
        generalize upd J1 q2 (.tup [.int 1]) = J2 at e2 hq2 g3 g4 fq ⊢
        have nq3 : q3 ≠ p := (np ((pu4.keep e1).keep e2) g3).symm
        have e3 : Same J2 (upd J2 q3 (.lst [])) := Same.new g3
        have hq3 : upd J2 q3 (.lst []) q3 = some (.lst []) := upd_same
        generalize upd J2 q3 (.lst []) = J3 at e3 hq3 g4 fq ⊢
        have nq4 : q4 ≠ p := (np (((pu4.keep e1).keep e2).keep e3) g4).symm
        have e4 : Same J3 (upd J3 q4 (.tup [.str (Str.ofString "(1)")])) := Same.new g4
        have hq4 : upd J3 q4 (.tup [.str (Str.ofString "(1)")]) q4 = some (.tup [.str (Str.ofString "(1)")]) := upd_same
        generalize upd J3 q4 (.tup [.str (Str.ofString "(1)")]) = J4 at e4 hq4 fq ⊢
        have nq : lq ≠ p := (np ((((pu4.keep e1).keep e2).keep e3).keep e4) fq).symm
        have e5 : Same J4 (upd J4 lq (.lst [.non, .int 1, .bl true, .ref q1, .ref q2, .ref t, .ref q3, .ref q4])) := Same.new fq
        have hlq : upd J4 lq (.lst [.non, .int 1, .bl true, .ref q1, .ref q2, .ref t, .ref q3, .ref q4]) lq = some (.lst [.non, .int 1, .bl true, .ref q1, .ref q2, .ref t, .ref q3, .ref q4]) := upd_same
        generalize upd J4 lq (.lst [.non, .int 1, .bl true, .ref q1, .ref q2, .ref t, .ref q3, .ref q4]) = J5 at e5 hlq ⊢
        have z := e1.trans (e2.trans (e3.trans (e4.trans e5)))
        refine ⟨_, rfl, p, _, 8, rfl, pu4.keep z, by omega, by decide, by decide, fun wh H5 w0 w1 pu5 s5 => ?_⟩
        have hq1 := s5 _ _ nq1 ((e2.trans (e3.trans (e4.trans e5))) _ _ hq1)
        have hq2 := s5 _ _ nq2 ((e3.trans (e4.trans e5)) _ _ hq2)
        have hq3 := s5 _ _ nq3 ((e4.trans e5) _ _ hq3)
        have hq4 := s5 _ _ nq4 (e5 _ _ hq4)
        have htJ := s5 _ _ npt.symm (z _ _ htJ0)
        have dts : DTs H5 (fun b => b ≠ p) [.non, .int 1, .bl true, .ref q1, .ref q2, .ref t, .ref q3, .ref q4] [.none, .int 1, .bool true, .list [.str (Str.ofString "(1)")], .tuple [.int 1], .tuple (xs.map PyData.int), .list [], .tuple [.str (Str.ofString "(1)")]] := (.cons .non (.cons (.int _) (.cons (.bl _) (.cons (.lst hq1 nq1 (.cons (.str _) .nil)) (.cons (.tup hq2 nq2 (.cons (.int _) .nil)) (.cons (.tup htJ npt.symm (DTs.ints xs)) (.cons (.lst hq3 nq3 .nil) (.cons (.tup hq4 nq4 (.cons (.str _) .nil)) .nil))))))))
        have okd : ∀ d ∈ ([.none, .int 1, .bool true, .list [.str (Str.ofString "(1)")], .tuple [.int 1], .tuple (xs.map PyData.int), .list [], .tuple [.str (Str.ofString "(1)")]] : List PyData), OkTx d := by
          intro d hd
          simp only [List.mem_cons, List.not_mem_nil, or_false] at hd
          rcases hd with rfl | rfl | rfl | rfl | rfl | rfl | rfl | rfl
          all_goals first
            | exact .inr ⟨fun x z => (by cases z), (by decide +kernel), (by decide +kernel)⟩
            | exact .inr ⟨fun x z => (by cases z), (by unfold PyData.canLay0; exact lay_ints xs), (by unfold PyData.depth; rw [depth_ints]; decide)⟩
        generalize ([.none, .int 1, .bool true, .list [.str (Str.ofString "(1)")], .tuple [.int 1], .tuple (xs.map PyData.int), .list [], .tuple [.str (Str.ofString "(1)")]] : List PyData) = ds at dts okd
        have dl := dts.length
        obtain ⟨v, hv, hd⟩ := dts.getD (i := wh.toNat) (List.getElem?_eq_getElem (by rw [← dl]; show wh.toNat < 8; omega))
        refine ⟨lq, _, wh, v, rfl, rfl, SqL.of (s5 _ _ nq hlq), at_refI w0 hv, ?_⟩
        show D'.rt _ _
        rw [hRt]
        exact k _ _ _ hd (okd _ (List.getElem_mem _)) (pu5.mono (by omega) (by omega)) (s04.trans (z.x.trans s5))
      · exact hD _ _ ⟨_, l, ws, S, rfl, hl4, x4, okS, pu4.mono (by omega) (by omega), s04⟩
    · rintro σ' H5 ⟨v2, l', us, T', rfl, h5, x5, ok5, pu5, s5⟩
      refine ⟨_, rfl, l', us, T', rfl, h5, x5, ok5, fun H6 s6 => ?_⟩
      exact k _ _ _ (.str _) (.inl ⟨_, rfl, by have := ok5.len; omega⟩) (pu5.keep s6) (s5.trans s6.x)
end
end Sw
namespace Sw
open PySem L2
def spSpT : Sp := fun vs H Q _ => ∃ (p : Addr) (c : Nat) (x : Str), vs = [.ref p, .str x] ∧ Purse H p c ∧ c ≤ 90000 ∧ x.length ≤ 100000 ∧ ∀ (y : Str) H', y.length ≤ x.length + 3 → Purse H' p (c + 3) → SameX p H H' → Q (.str y) H'
structure TSpT (P : Program) (w : World) (K : PySem.W.Frag) (mg : Str → Option Value) (base : Heap) : Prop extends T1 mg K where
  f__law_take : FnAt P w K mg base "_law_take" 1 ["_law_purse_here", "_law_many"] spTake
section
variable {P : Program} {w : World} {K : PySem.W.Frag} {mg : Str → Option Value} {base : Heap}
theorem sign_at {r : Int} (h0 : 0 ≤ r) (h1 : r < 26) : ∃ c, atI (Str.ofString "0123456789()- /,.;noex+=*_").cps.toList r = some c := by
  have l : (Str.ofString "0123456789()- /,.;noex+=*_").cps.toList.length = 26 := by decide +kernel
  obtain ⟨k, rfl⟩ := Int.eq_ofNat_of_zero_le h0
  have hk : k < (Str.ofString "0123456789()- /,.;noex+=*_").cps.toList.length := by omega
  exact ⟨_, atI_nat (List.getElem?_eq_getElem hk)⟩
theorem sc__law_spoilt : FnScope ["_law_purse_here", "_law_text_here", "_law_sort", "_law_at", "_law_sign", "_law_turned"] ["_law_purse_here", "_law_text_here"] (defScope (top 38)) := ⟨rfl, rfl, rfl, by decide +kernel, rfl, by decide +kernel, by decide +kernel⟩
theorem ok_spT {f : Addr} {fd : FuncData} (F : Fun K "_law_spoilt" "_law_spoilt" (top 38) f fd) (T : TSpT P w K mg base) : FnOk P w K mg base CX0 2 f fd ["_law_purse_here", "_law_text_here"] spSpT := by
  refine F.ok sc__law_spoilt (fun vs H Q E h => ?_) (fun cdv A outer s H vs Q E hr h => ?_)
  · obtain ⟨p, c, x, rfl, _⟩ := h
    rfl
  · obtain ⟨p, c, x, rfl, pu, hc, xl, k⟩ := h
    refine ⟨_, (pss_cons (ps_set (i := 2) sc__law_spoilt.nd rfl (Or.inl rfl) (pe_callF T.f__law_take (hr.mono (by first | decide | omega)) rfl (pa_cons (pv 0) (pa_cons pe_int pa_nil))))
      (pss_cons (ps_set (i := 3) sc__law_spoilt.nd rfl (Or.inl rfl) (pe_callF T.f__law_take (hr.mono (by first | decide | omega)) rfl (pa_cons (pv 0) (pa_cons (pe_op op_add (pe_callB call_len_str rfl T.b_len (by decide +kernel) (pa_cons (pv 1) pa_nil)) pe_int) pa_nil))))
      (pss_cons (ps_set (i := 4) sc__law_spoilt.nd rfl (Or.inl rfl) (pe_ix ix_str pe_str (pe_callF T.f__law_take (hr.mono (by first | decide | omega)) rfl (pa_cons (pv 0) (pa_cons pe_int pa_nil))) (fun _ _ => rfl)))
      (pss_cons (ps_if (pt_cmpR op_eq (pv 2) pe_int (nomark _)) (pss_one (ps_ret (pe_op op_add_str (pe_op op_add_str (pe_slice sl_str (pv 1) po_none (po_some (pv 3))) (pv 4)) (pe_slice sl_str (pv 1) (po_some (pe_op op_add (pv 3) pe_int)) po_none)))) pss_nil)
      (pss_cons (ps_if (pt_cmpR op_eq (pv 2) pe_int (nomark _)) (pss_one (ps_ret (pe_op op_add_str (pe_op op_add_str (pe_slice sl_str (pv 1) po_none (po_some (pv 3))) (pv 4)) (pe_slice sl_str (pv 1) (po_some (pv 3)) po_none)))) pss_nil)
      (pss_cons (ps_if (pt_cmpR op_eq (pv 2) pe_int (nomark _)) (pss_one (ps_ret (pe_op op_add_str (pe_slice sl_str (pv 1) po_none (po_some (pv 3))) (pe_slice sl_str (pv 1) (po_some (pe_op op_add (pv 3) pe_int)) po_none)))) pss_nil)
      (pss_cons (ps_if (pt_cmpR op_eq (pv 2) pe_int (nomark _)) (pss_cons (ps_set (i := 5) sc__law_spoilt.nd rfl (Or.inl rfl) (pe_op op_add_str (pe_slice sl_str (pv 1) (po_some (pe_op op_add (pv 3) pe_int)) (po_some (pe_op op_add (pv 3) pe_int))) (pe_slice sl_str (pv 1) (po_some (pv 3)) (po_some (pe_op op_add (pv 3) pe_int)))))
      (pss_one (ps_ret (pe_op op_add_str (pe_op op_add_str (pe_slice sl_str (pv 1) po_none (po_some (pv 3))) (pv 5)) (pe_slice sl_str (pv 1) (po_some (pe_op op_add (pv 3) pe_int)) po_none))))) pss_nil)
      (pss_one (ps_ret (pe_op op_add_str (pe_op op_add_str (pe_slice sl_str (pv 1) po_none (po_some (pv 3))) (pe_slice sl_str (pv 1) (po_some (pv 3)) (po_some (pe_op op_add (pv 3) pe_int)))) (pe_slice sl_str (pv 1) (po_some (pv 3)) po_none))))))))))), ?_⟩
    have big : (10000000 : Nat) ≤ sizeLine := by decide
    refine ⟨_, rfl, p, c, 5, rfl, pu, by omega, by decide, by decide, fun so H1 so0 so1 pu1 s1 => ?_⟩
    refine ⟨_, rfl, _, rfl, _, rfl, by omega, _, _, rfl, rfl, p, _, _, rfl, pu1, by omega, by omega, by omega, fun at_ H2 a0 a1 pu2 s2 => ?_⟩
    refine ⟨_, rfl, p, _, 26, rfl, pu2, by omega, by decide, by decide, fun sg H3 g0 g1 pu3 s3 => ?_⟩
    obtain ⟨cc, hcc⟩ := sign_at g0 g1
    refine ⟨_, _, _, rfl, rfl, by decide +kernel, hcc, ?_⟩
    have s03 := s1.trans (s2.trans s3)
    have sl : ∀ lo hi, (Txt.slice x lo hi).length ≤ x.length := fun lo hi => Txt.slice_le _ _ _
    have toL : (Txt.slice x none (some at_)).length ≤ at_.toNat := slc_toL x a0
    have ccl : (⟨#[cc]⟩ : Str).length = 1 := rfl
    have f0 := slc_fromL x a0
    have f1 := slc_fromL x (i := at_ + 1) (by omega)
    have f2 := slc_fromL x (i := at_ + 2) (by omega)
    have m1 := slc_midL x (i := at_ + 1) (j := at_ + 2) (by omega) (by omega)
    have m0 := slc_midL x (i := at_) (j := at_ + 1) (by omega) (by omega)
    have m3 := slc_midL x (i := at_) (j := at_ + 3) (by omega) (by omega)
    have fin : ∀ y : Str, y.length ≤ x.length + 3 → Q (.str y) H3 := fun y hy => k y H3 hy pu3 s03
    refine ⟨_, rfl, rfl, _, rfl, ite2 (fun c => ?_) (fun c => ?_)⟩
    · refine ⟨_, rfl, _, rfl, at_, rfl, _, rfl, by omega, _, rfl, _, _, rfl, rfl, by omega, ?_⟩
      refine ⟨_, rfl, _, rfl, _, _, rfl, rfl, _, rfl, _, rfl, by omega, _, _, rfl, rfl, by rw [Str.length_append]; omega, fin _ ?_⟩
      rw [Str.length_append, Str.length_append]; omega
    refine ⟨_, rfl, rfl, _, rfl, ite2 (fun c => ?_) (fun c => ?_)⟩
    · refine ⟨_, rfl, _, rfl, at_, rfl, _, rfl, by omega, _, rfl, _, _, rfl, rfl, by omega, ?_⟩
      refine ⟨_, rfl, _, rfl, at_, rfl, _, rfl, by omega, _, _, rfl, rfl, by rw [Str.length_append]; omega, fin _ ?_⟩
      rw [Str.length_append, Str.length_append]; omega
    refine ⟨_, rfl, rfl, _, rfl, ite2 (fun c => ?_) (fun c => ?_)⟩
    · refine ⟨_, rfl, _, rfl, at_, rfl, _, rfl, by omega, ?_⟩
      refine ⟨_, rfl, _, rfl, _, _, rfl, rfl, _, rfl, _, rfl, by omega, _, _, rfl, rfl, by omega, fin _ ?_⟩
      rw [Str.length_append]; omega
    refine ⟨_, rfl, rfl, _, rfl, ite2 (fun c => ?_) (fun c => ?_)⟩
    · refine ⟨_, rfl, _, rfl, _, _, rfl, rfl, _, rfl, _, rfl, _, _, rfl, rfl, _, rfl, _, rfl, by omega, ?_⟩
      refine ⟨_, rfl, _, rfl, at_, rfl, _, rfl, _, _, rfl, rfl, _, rfl, _, rfl, by omega, _, _, rfl, rfl, by omega, ?_⟩
      obtain ⟨tu, htu⟩ : ∃ tu, Txt.slice x (some (at_ + 1)) (some (at_ + 2)) ++ Txt.slice x (some at_) (some (at_ + 1)) = tu := ⟨_, rfl⟩
      have tl := congrArg Str.length htu
      rw [Str.length_append] at tl
      rw [htu]
      refine ⟨_, rfl, _, rfl, at_, rfl, _, rfl, by omega, _, rfl, _, _, rfl, rfl, by omega, ?_⟩
      refine ⟨_, rfl, _, rfl, _, _, rfl, rfl, _, rfl, _, rfl, by omega, _, _, rfl, rfl, by rw [Str.length_append]; omega, fin _ ?_⟩
      rw [Str.length_append, Str.length_append]; omega
    · refine ⟨_, rfl, _, rfl, at_, rfl, _, rfl, by omega, ?_⟩
      refine ⟨_, rfl, _, rfl, at_, rfl, _, rfl, _, _, rfl, rfl, _, rfl, _, rfl, by omega, _, _, rfl, rfl, by omega, ?_⟩
      refine ⟨_, rfl, _, rfl, at_, rfl, _, rfl, by omega, _, _, rfl, rfl, by rw [Str.length_append]; omega, fin _ ?_⟩
      rw [Str.length_append, Str.length_append]; omega
end
end Sw
namespace Sw
open PySem L2
structure TO (P : Program) (w : World) (K : PySem.W.Frag) (mg : Str → Option Value) (base : Heap) : Prop extends T1 mg K where
  f__law_take : FnAt P w K mg base "_law_take" 1 ["_law_purse_here", "_law_many"] spTake
section
variable {P : Program} {w : World} {K : PySem.W.Frag} {mg : Str → Option Value} {base : Heap}
theorem sc__law_order : FnScope ["_law_purse_here", "_law_n", "_law_sort", "_law_left", "_law_at", "_law_some", "_law_goals", "_law_k", "_law_found", "_law_one", "_law_other_here"] ["_law_purse_here", "_law_n"] (defScope (top 36)) := ⟨rfl, rfl, rfl, by decide +kernel, rfl, by decide +kernel, by decide +kernel⟩
theorem ok_order {f : Addr} {fd : FuncData} (F : Fun K "_law_order" "_law_order" (top 36) f fd) (T : TO P w K mg base) : FnOk P w K mg base CX0 3 f fd ["_law_purse_here", "_law_n"] spOrder := by
  refine F.ok sc__law_order (fun vs H Q E h => ?_) (fun cdv A outer s H vs Q E hr h => ?_)
  · obtain ⟨p, c, n, rfl, _⟩ := h
    rfl
  · obtain ⟨p, c, n, rfl, pu, hc, hn, hn2, k⟩ := h
    have hu := hu_of hr
    refine ⟨_, (pss_cons (ps_set (i := 2) sc__law_order.nd rfl (Or.inl rfl) (pe_callF T.f__law_take (hr.mono (by first | decide | omega)) rfl (pa_cons (pv 0) (pa_cons pe_int pa_nil))))
      (pss_cons (ps_set (i := 3) sc__law_order.nd rfl (Or.inr rfl) (pe_callTy (call_list_rng rfl) rfl T.b_list (by decide +kernel) (pa_cons (pe_callTy call_range rfl T.b_range (by decide +kernel) (pa_cons pe_int (pa_cons (pe_op op_add (pv 1) pe_int) pa_nil))) pa_nil)))
      (pss_cons (ps_if (pt_cmpR op_lt (pv 2) pe_int (nomark _)) (pss_cons (ps_set (i := 8) sc__law_order.nd rfl (Or.inl rfl) (pe_lst pa_nil))
      (pss_cons (ps_for PassesOwn.never rfl (pi_range1 rfl T.b_range (pa_cons (pv 1) pa_nil)) (pg_name (i := 7) sc__law_order.nd rfl (Or.inl rfl)) (pss_one (ps_expr (pe_bmK (K := K) rfl PySem.F.plainAttrs_list PySem.F.slot_list_append PySem.F.type_list_append mt_append (pv 8) (pa_cons (pe_bmK (K := K) rfl PySem.F.plainAttrs_list PySem.F.slot_list_pop PySem.F.type_list_pop mt_popAt (pv 3) (pa_cons (pe_callF T.f__law_take (hr.mono (by first | decide | omega)) rfl (pa_cons (pv 0) (pa_cons (pe_callB (call_lenK (K := K) rfl) rfl T.b_len (by decide +kernel) (pa_cons (pv 3) pa_nil)) pa_nil))) pa_nil)) pa_nil)))))
      (pss_one (ps_ret (pe_callTy (call_tuple_ofK (K := K) rfl) rfl T.b_tuple (by decide +kernel) (pa_cons (pv 8) pa_nil)))))) pss_nil)
      (pss_cons (ps_if (pt_cmpR op_eq (pv 2) pe_int (nomark _)) (pss_cons (ps_for PassesOwn.never rfl (pi_range1 rfl T.b_range (pa_cons (pe_callF T.f__law_take (hr.mono (by first | decide | omega)) rfl (pa_cons (pv 0) (pa_cons pe_int pa_nil))) pa_nil)) (pg_name (i := 7) sc__law_order.nd rfl (Or.inl rfl)) (pss_cons (ps_set (i := 9) sc__law_order.nd rfl (Or.inl rfl) (pe_callF T.f__law_take (hr.mono (by first | decide | omega)) rfl (pa_cons (pv 0) (pa_cons (pv 1) pa_nil))))
      (pss_cons (ps_set (i := 10) sc__law_order.nd rfl (Or.inl rfl) (pe_callF T.f__law_take (hr.mono (by first | decide | omega)) rfl (pa_cons (pv 0) (pa_cons (pv 1) pa_nil))))
      (pss_one (ps_asg (pe_tup (pa_cons (pe_ix (ix_listK (K := K) rfl) (pv 3) (pv 10) (fun _ _ => rfl)) (pa_cons (pe_ix (ix_listK (K := K) rfl) (pv 3) (pv 9) (fun _ _ => rfl)) pa_nil))) (pg_tupK (K := K) (n := 2) rfl rfl (pgs_cons (pg_sub (pv 3) (pv 9) set_list) (pgs_cons (pg_sub (pv 3) (pv 10) set_list) pgs_nil))))))))
      (pss_one (ps_ret (pe_callTy (call_tuple_ofK (K := K) rfl) rfl T.b_tuple (by decide +kernel) (pa_cons (pv 3) pa_nil))))) pss_nil)
      (pss_cons (ps_set (i := 4) sc__law_order.nd rfl (Or.inr rfl) (pe_callF T.f__law_take (hr.mono (by first | decide | omega)) rfl (pa_cons (pv 0) (pa_cons (pv 1) pa_nil))))
      (pss_cons (ps_comp (i := 5) sc__law_order.nd rfl rfl (N := (["_law_k", "_law_left", "_law_at", "_law_purse_here", "_law_n"] : List Str)) (ix := ([none, some 3, some 4, some 0, some 1] : List (Option Nat))) (comp_ok rfl rfl) rfl (pi_range1 rfl T.b_range (pa_cons (pv 1) pa_nil)) (fun _ _ _ _ => (pg_name (i := 0) (show List.Nodup (["_law_k", "_law_left", "_law_at", "_law_purse_here", "_law_n"] : List Str) from by decide +kernel) rfl (Or.inl rfl))) (fun _ _ _ _ => pif_nil) (fun _ _ _ _ => (pe_bmK (K := K) rfl PySem.F.plainAttrs_list PySem.F.slot_list_pop PySem.F.type_list_pop mt_popAt (pv 1) (pa_cons (pe_op op_mod (pe_op op_add (pv 2) (pe_callF T.f__law_take (hr.mono (by first | decide | omega)) rfl (pa_cons (pv 3) (pa_cons (pv 4) pa_nil)))) (pe_callB (call_lenK (K := K) rfl) rfl T.b_len (by decide +kernel) (pa_cons (pv 1) pa_nil))) pa_nil))))
      (pss_cons (ps_set (i := 6) sc__law_order.nd rfl (Or.inr rfl) pe_dnewK)
      (pss_cons (ps_for PassesOwn.never rfl (pi_range1 rfl T.b_range (pa_cons (pv 1) pa_nil)) (pg_name (i := 7) sc__law_order.nd rfl (Or.inl rfl)) (pss_one (ps_dput hu (pv 6) (pe_ix (ix_listK (K := K) rfl) (pv 5) (pv 7) (fun _ _ => rfl)) (pe_ix (ix_listK (K := K) rfl) (pv 5) (pe_op op_mod (pe_op op_add (pv 7) pe_int) (pv 1)) (fun _ _ => rfl)) rfl)))
      (pss_one (ps_ret (pe_callTy (call_tuple_ofK (K := K) rfl) rfl T.b_tuple (by decide +kernel) (pa_cons (pe_comp (N := (["_law_thing", "_law_goals"] : List Str)) (ix := ([none, some 6] : List (Option Nat))) (comp_ok rfl rfl) rfl (pi_range2 rfl T.b_range (pa_cons pe_int (pa_cons (pe_op op_add (pv 1) pe_int) pa_nil))) (fun _ _ _ _ => (pg_name (i := 0) (show List.Nodup (["_law_thing", "_law_goals"] : List Str) from by decide +kernel) rfl (Or.inl rfl))) (fun _ _ _ _ => pif_nil) (fun _ _ _ _ => (pe_dget hu (pv 1) (pv 0) (fun _ _ => rfl)))) pa_nil)))))))))))), ?_⟩
    refine ⟨_, rfl, p, c, 4, rfl, pu, by omega, by decide, by decide, fun r H1 r0 r1 pu1 s1 => ?_⟩
    refine ⟨_, rfl, _, _, rfl, rfl, .inr ⟨_, _, rfl, fun rg hrg => ⟨rg, _, _, rfl, upd_same, by omega, by omega, by omega, by omega, fun l hl => ?_⟩⟩⟩
    have sa : SameX p H (upd H1 rg (.rng 1 (n + 1))) := s1.trans (SameX.new hrg)
    have nl : H l = none := by
      cases e : H l with
      | none => rfl
      | some o =>
        by_cases z : l = p
        · obtain ⟨xs, e'⟩ := (pu1.upd (pu1.ne hrg) (o := .rng 1 (n + 1))).at
          rw [z, e'] at hl
          cases hl
        · rw [sa l o z e] at hl
          cases hl
    have pu2 : Purse (upd (upd H1 rg (.rng 1 (n + 1))) l (.lst ((ivl 1 (n + 1)).map V.int))) p (c + 1) := by
      have p2 := pu1.upd (pu1.ne hrg) (o := .rng 1 (n + 1))
      exact p2.upd (p2.ne hl)
    have npl : p ≠ l := pu.ne nl
    have s2 : SameX p H (upd (upd H1 rg (.rng 1 (n + 1))) l (.lst ((ivl 1 (n + 1)).map V.int))) := SameX.put sa nl
    have h2 : upd (upd H1 rg (.rng 1 (n + 1))) l (.lst ((ivl 1 (n + 1)).map V.int)) l = some (.lst ((ivl 1 (n + 1)).map V.int)) := upd_same
    generalize upd (upd H1 rg (.rng 1 (n + 1))) l (.lst ((ivl 1 (n + 1)).map V.int)) = H2 at pu2 s2 h2 ⊢
    clear sa s1 pu1 hl hrg
    have big : (100000 : Nat) ≤ sizeLine := by decide
    refine ⟨_, rfl, _, _, rfl, rfl, _, rfl, ite2 (fun _ => ?_) (fun _ => ?_)⟩
    · -- any order
      refine ⟨Nat.zero_le _, fun lf hlf => ?_⟩
      have nlf : l ≠ lf := ne_of_none h2 hlf
      have npf : p ≠ lf := pu2.ne hlf
      have hf : H lf = none := free_of s2 npf hlf
      refine ⟨_, rfl, _, rfl, by omega, by omega, ?_⟩
      refine for_range (fun i σ H' => ∃ fs ls v4 v5 v6 v7 v9 v10, σ = [some (.ref p), some (.int n), some (.int r), some (.ref l), v4, v5, v6, v7, some (.ref lf), v9, v10] ∧ SameX p H H' ∧ H' l = some (.lst (ls.map V.int)) ∧ H' lf = some (.lst (fs.map V.int)) ∧ fs.length = i ∧ Ord n (fs ++ ls) ∧ Purse H' p (c + 1 + i))
        ⟨[], ivl 1 (n + 1), _, _, _, _, _, _, rfl, SameX.put s2 hf, by rw [upd_ne nlf]; exact h2, upd_same, rfl, ord_plain n, pu2.upd npf⟩ ?_ ?_
      · rintro i σ H' hi ⟨fs, ls, v4, v5, v6, v7, v9, v10, rfl, s3, hl, hF, fl, o, pu3⟩
        have ol := o.length
        rw [List.length_append] at ol
        refine ⟨_, rfl, .inl ⟨rfl, _, SqL.of hF⟩, _, rfl, .inl ⟨rfl, _, SqL.of hl⟩, _, rfl, _, rfl, l, _, rfl, .inl (SqL.of hl), ?_⟩
        refine ⟨p, _, _, rfl, pu3, by omega, by rw [List.length_map]; omega, by rw [List.length_map]; omega, fun r3 H4 r30 r31 pu4 s4 => ?_⟩
        rw [List.length_map] at r31
        obtain ⟨y, hy⟩ := get_lt (ns := ls) (k := r3.toNat) (by omega)
        have hl4 := s4 l _ npl.symm hl
        have hF4 := s4 lf _ npf.symm hF
        refine ⟨l, _, r3, r3.toNat, _, rfl, rfl, hl4, by omega, by omega, (ixN_seq (ixN_lt r30 (by rw [List.length_map]; exact r31))).1, map_get hy, ?_⟩
        refine ⟨lf, fs.map V.int, _, rfl, rfl, by rw [upd_ne nlf.symm]; exact hF4, by rw [List.length_map]; omega, ?_⟩
        refine ⟨fs ++ [y], ls.eraseIdx r3.toNat, v4, v5, v6, _, v9, v10, rfl, SameX.put (SameX.put (s3.trans s4) nl) hf, ?_, ?_, ?_, pop_perm o hy, ?_⟩
        · rw [upd_ne nlf, upd_same, eraseIdx_map]
        · rw [upd_same, List.map_append]; rfl
        · rw [List.length_append, fl]; rfl
        · exact (pu4.upd npl).upd npf
      · rintro σ H' ⟨fs, ls, v4, v5, v6, v7, v9, v10, rfl, s3, hl, hF, fl, o, pu3⟩
        have ol := o.length
        rw [List.length_append] at ol
        have : ls = [] := List.length_eq_zero_iff.mp (by omega)
        subst this
        rw [List.append_nil] at o
        refine ⟨_, rfl, lf, _, rfl, .inl ⟨SqL.of hF, fun t ht => ?_⟩⟩
        have npt : p ≠ t := pu3.ne ht
        exact k t fs _ (free_of s3 npt ht) upd_same o ((pu3.upd npt).mono (by omega) (by omega)) (SameX.put s3 (free_of s3 npt ht))
    · refine ⟨_, rfl, rfl, _, rfl, ite2 (fun _ => ?_) (fun _ => ?_)⟩
      · -- few exchanges
        refine ⟨_, rfl, p, c + 1, 4, rfl, pu2, by omega, by decide, by decide, fun r2 H3 r20 r21 pu3 s3 => ⟨_, rfl, by omega, by omega, ?_⟩⟩
        refine for_range (fun i σ H' => ∃ ls v4 v5 v6 v7 v8 v9 v10, σ = [some (.ref p), some (.int n), some (.int r), some (.ref l), v4, v5, v6, v7, v8, v9, v10] ∧ SameX p H H' ∧ H' l = some (.lst (ls.map V.int)) ∧ Ord n ls ∧ Purse H' p (c + 2 + 2 * i))
          ⟨ivl 1 (n + 1), _, _, _, _, _, _, _, rfl, s2.trans s3, s3 l _ npl.symm h2, ord_plain n, pu3⟩ ?_ ?_
        · rintro i σ H' hi ⟨ls, v4, v5, v6, v7, v8, v9, v10, rfl, s4, hl, o, pu4⟩
          have ol := o.length
          refine ⟨_, rfl, _, rfl, p, _, _, rfl, pu4, by omega, by omega, by omega, fun a H5 a0 a1 pu5 s5 => ?_⟩
          refine ⟨_, rfl, _, rfl, p, _, _, rfl, pu5, by omega, by omega, by omega, fun b H6 b0 b1 pu6 s6 => ?_⟩
          have hl6 := s6 l _ npl.symm (s5 l _ npl.symm hl)
          obtain ⟨x, hx⟩ := get_lt (ns := ls) (k := a.toNat) (by omega)
          obtain ⟨y, hy⟩ := get_lt (ns := ls) (k := b.toNat) (by omega)
          refine ⟨_, rfl, _, rfl, l, _, _, _, rfl, rfl, SqL.of hl6, at_int b0 hy, _, rfl, _, rfl, l, _, _, _, rfl, rfl, SqL.of hl6, at_int a0 hx, (by show 2 ≤ sizeLine; decide), fun t ht => ?_⟩
          have nlt : l ≠ t := ne_of_none hl6 ht
          have npt : p ≠ t := pu6.ne ht
          refine ⟨t, _, rfl, SqT.of upd_same, rfl, _, _, rfl, _, rfl, _, rfl, l, _, _, a.toNat, rfl, rfl, (by rw [upd_ne nlt]; exact hl6), ixN_lt a0 (by rw [List.length_map]; omega), ?_⟩
          refine ⟨_, _, rfl, _, rfl, _, rfl, l, _, _, b.toNat, rfl, rfl, upd_same, ixN_lt b0 (by rw [List.length_set, List.length_map]; omega), rfl, ?_⟩
          refine ⟨(ls.set a.toNat y).set b.toNat x, v4, v5, v6, _, v8, _, _, rfl, SameX.put (SameX.put (SameX.put (s4.trans (s5.trans s6)) (free_of (s4.trans (s5.trans s6)) npt ht)) nl) nl, ?_, swap_perm o hx hy, ?_⟩
          · rw [upd_same, List.map_set, List.map_set]
          · exact ((((pu6.upd npt).upd npl).upd npl)).mono (by omega) (by omega)
        · rintro σ H' ⟨ls, v4, v5, v6, v7, v8, v9, v10, rfl, s4, hl, o, pu4⟩
          refine ⟨_, rfl, l, _, rfl, .inl ⟨SqL.of hl, fun t ht => ?_⟩⟩
          have npt : p ≠ t := pu4.ne ht
          exact k t ls _ (free_of s4 npt ht) upd_same o ((pu4.upd npt).mono (by omega) (by omega)) (SameX.put s4 (free_of s4 npt ht))
      · -- one long round
        refine ⟨_, rfl, _, rfl, p, _, _, rfl, pu2, by omega, by omega, by omega, fun a H3 a0 a1 pu3 s3 => ?_⟩
        have hl3 := s3 l _ npl.symm h2
        refine ⟨_, rfl, _, rfl, by omega, by omega, compR (k := 0) (fun i ys σ' H' => ∃ fs ls v, ys = fs.map V.int ∧ σ' = [v, some (.ref l), some (.int a), some (.ref p), some (.int n)] ∧ SameX p H H' ∧ H' l = some (.lst (ls.map V.int)) ∧ fs.length = i ∧ Ord n (fs ++ ls) ∧ Purse H' p (c + 2 + i)) (by omega)
          ⟨[], ivl 1 (n + 1), none, rfl, rfl, s2.trans s3, hl3, rfl, ord_plain n, pu3⟩ (fun i ys σ' H' ⟨fs, _, _, e, _, _, _, e2, _⟩ => by rw [e, List.length_map, e2]; exact Nat.le_refl _) ?_ ?_⟩
        · rintro i ys σ' H' R hi ⟨fs, ls, v, rfl, rfl, s4, hl, fl, o, pu4⟩ done
          have ol := o.length
          rw [List.length_append] at ol
          refine ⟨_, rfl, .inl ⟨rfl, _, SqL.of hl⟩, _, rfl, _, rfl, _, rfl, p, _, _, rfl, pu4, by omega, by omega, by omega, fun r3 H5 r30 r31 pu5 s5 => ?_⟩
          have hl5 := s5 l _ npl.symm hl
          have lpos : (0 : Int) < ((ls.map V.int).length : Int) := by rw [List.length_map]; omega
          refine ⟨_, _, rfl, rfl, _, rfl, l, _, rfl, .inl (SqL.of hl5), _, _, rfl, rfl, lpos, ?_⟩
          have m0 := Int.emod_nonneg (a + r3) (Int.ne_of_gt lpos)
          have m1 := Int.emod_lt_of_pos (a + r3) lpos
          obtain ⟨m, em⟩ : ∃ m, (a + r3) % ((ls.map V.int).length : Int) = m := ⟨_, rfl⟩
          rw [em] at m0 m1
          obtain ⟨y, hy⟩ := get_lt (ns := ls) (k := m.toNat) (by rw [List.length_map] at m1; omega)
          refine ⟨l, _, m, m.toNat, _, rfl, (by rw [← em]), hl5, by omega, (by rw [List.length_map] at m1; omega), (ixN_seq (ixN_lt m0 m1)).1, map_get hy, done _ _ _ ?_⟩
          refine ⟨fs ++ [y], ls.eraseIdx m.toNat, _, by rw [List.map_append]; rfl, rfl, SameX.put (s4.trans s5) nl, ?_, ?_, pop_perm o hy, pu5.upd npl⟩
          · rw [upd_same, eraseIdx_map]
          · rw [List.length_append, fl]; rfl
        · rintro ys σ' H' ps ⟨fs, ls, v, rfl, rfl, s4, hl, fl, o, pu4⟩ hps
          have ol := o.length
          rw [List.length_append] at ol
          have : ls = [] := List.length_eq_zero_iff.mp (by omega)
          subst this
          rw [List.append_nil] at o
          have np1 : p ≠ ps := pu4.ne hps
          have f1 : H ps = none := free_of s4 np1 hps
          have s5 := SameX.put s4 f1 (o := .lst (fs.map V.int))
          have pu5 := pu4.upd np1 (o := .lst (fs.map V.int))
          have h5 : upd H' ps (.lst (fs.map V.int)) ps = some (.lst (fs.map V.int)) := upd_same
          generalize upd H' ps (.lst (fs.map V.int)) = H5 at s5 pu5 h5 ⊢
          refine fun pd hpd => ?_
          have np2 : p ≠ pd := pu5.ne hpd
          have f2 : H pd = none := free_of s5 np2 hpd
          have n12 : ps ≠ pd := ne_of_none h5 hpd
          have nz : ∀ {i : Nat} {x : Int}, fs[i]? = some x → nxt fs x = fs.getD ((i + 1) % fs.length) 0 := fun h => nxt_at o.nodup h
          refine ⟨_, rfl, _, rfl, by omega, by omega, ?_⟩
          refine for_range (fun i σ H' => ∃ kvs v7 v8 v9 v10, σ = [some (.ref p), some (.int n), some (.int r), some (.ref l), some (.int a), some (.ref ps), some (.ref pd), v7, v8, v9, v10] ∧ SameX p H H' ∧ H' ps = some (.lst (fs.map V.int)) ∧ H' pd = some (.dK kvs) ∧ kvs.length ≤ i ∧ (∀ j x, j < i → fs[j]? = some x → valV kvs (Sum.inl x : Key) = some (.int (nxt fs x))) ∧ Purse H' p (c + 200))
            ⟨[], _, _, _, _, rfl, SameX.put s5 f2, by rw [upd_ne n12]; exact h5, upd_same, Nat.le_refl _, fun j x h => absurd h (Nat.not_lt_zero _), (pu5.upd np2).mono (by omega) (by omega)⟩ ?_ ?_
          · rintro i σ H' hi ⟨kvs, v7, v8, v9, v10, rfl, s6, h6, hd6, kl, kv, pu6⟩
            obtain ⟨x, hx⟩ := get_lt (ns := fs) (k := i) (by omega)
            have lpos : (0 : Int) < n := by omega
            have fln : (fs.length : Int) = n := by omega
            have ei : ((i : Int) + 1) % n = (((i + 1) % fs.length : Nat) : Int) := by rw [← fln]; rfl
            obtain ⟨y, hy⟩ := get_lt (ns := fs) (k := (i + 1) % fs.length) (Nat.mod_lt _ (by omega))
            have hy' : fs[(((i : Int) + 1) % n).toNat]? = some y := by rw [ei, Int.toNat_natCast]; exact hy
            have hx' : fs[(0 + (i : Int)).toNat]? = some x := by rw [Int.zero_add, Int.toNat_natCast]; exact hx
            have ny : nxt fs x = y := by rw [nz hx, List.getD_eq_getElem?_getD, hy]; rfl
            refine ⟨_, rfl, _, rfl, _, _, rfl, rfl, _, rfl, _, _, rfl, rfl, lpos, ps, _, _, _, rfl, rfl, SqL.of h6, at_int (Int.emod_nonneg _ (by omega)) (by rw [Int.zero_add]; exact hy'), ?_⟩
            refine ⟨_, rfl, _, rfl, _, rfl, ps, _, _, _, rfl, rfl, SqL.of h6, at_int (by omega) hx', pd, _, rfl, DPut.k (k := Sum.inl x) hd6 (by omega), ?_⟩
            refine ⟨putK kvs (Sum.inl x) (.int y), _, v8, v9, v10, rfl, SameX.put s6 f2, by rw [upd_ne n12]; exact h6, upd_same, ?_, ?_, pu6.upd np2⟩
            · have := length_putK kvs (Sum.inl x : Key) (.int y)
              omega
            · intro j z hj hz
              rw [valV_put]
              by_cases e : z = x
              · subst e
                rw [if_pos rfl, ny]
              · rw [if_neg (by intro q; apply e; cases q; rfl)]
                have : j ≠ i := by intro q; subst q; rw [hx] at hz; cases hz; exact e rfl
                exact kv j z (by omega) hz
          · rintro σ H' ⟨kvs, v7, v8, v9, v10, rfl, s6, h6, hd6, kl, kv, pu6⟩
            refine ⟨_, rfl, _, _, rfl, rfl, 1, n + 1, rfl, ⟨by decide, by decide, by omega, by omega⟩, compR (k := 0) (fun i ys σ' H'' => ys = ((ivl 1 (n + 1)).take i).map (fun x => V.int (nxt fs x)) ∧ (∃ v, σ' = [v, some (.ref pd)]) ∧ H'' = H') (by omega) ⟨rfl, ⟨none, rfl⟩, rfl⟩
              (fun i ys σ' H'' q => by rw [q.1, List.length_map, List.length_take]; omega) ?_ ?_⟩
            · rintro i ys σ' H'' R hi ⟨rfl, ⟨v, rfl⟩, rfl⟩ done
              have hin : 1 + (i : Int) ∈ fs := o.mem.mpr (by omega)
              obtain ⟨j, hj, hj2⟩ := idx_of hin
              refine ⟨_, rfl, _, rfl, pd, .int (nxt fs (1 + (i : Int))), rfl, ?_, done _ _ _ ⟨?_, ⟨_, rfl⟩, rfl⟩⟩
              · have q := DGet.k (k := (Sum.inl (1 + (i : Int)) : Key)) hd6
                rw [kv j _ (by omega) hj] at q
                exact q
              · exact (take_succ_map (fun x => V.int (nxt fs x)) (get_ivl hi)).symm
            · rintro ys σ' H'' pl ⟨rfl, _, rfl⟩ hpl
              have np3 : p ≠ pl := pu6.ne hpl
              have f3 := free_of s6 np3 hpl
              refine ⟨pl, _, rfl, .inl ⟨SqL.of upd_same, fun t ht => ?_⟩⟩
              have pu7 := pu6.upd np3 (o := .lst (((ivl 1 (n + 1)).take (n + 1 - 1).toNat).map (fun x => V.int (nxt fs x))))
              have s7 := SameX.put s6 f3 (o := .lst (((ivl 1 (n + 1)).take (n + 1 - 1).toNat).map (fun x => V.int (nxt fs x))))
              have npt : p ≠ t := pu7.ne ht
              refine k t ((ivl 1 (n + 1)).map (nxt fs)) _ (free_of s7 npt ht) ?_ (nxt_ord o) ((pu7.upd npt).mono (by omega) (by omega)) (SameX.put s7 (free_of s7 npt ht))
              rw [upd_same, List.map_map, List.take_of_length_le (by rw [ivl_length]; exact Nat.le_refl _)]
              rfl
end
end Sw
namespace Sw
open PySem L2
theorem neTup {K : PySem.W.Frag} {H : Hp} {t u : Addr} {ns ms : List Int} {Q : VK} (h1 : H t = some (.tup (ns.map V.int))) (h2 : H u = some (.tup (ms.map V.int))) (q : Q (.bl (!decide (ns = ms))) H) : rNeD K (.ref t) (.ref u) H Q := by
  refine ⟨fun _ => True, .tuple (ns.map PyData.int), .tuple (ms.map PyData.int), .tup (SqT.of h1) True.intro (ints_dat ns), .tup (SqT.of h2) True.intro (ints_dat ms), ?_, ?_, ?_, ?_⟩
  · unfold PyData.canLay0; exact lay_ints ns
  · unfold PyData.canLay0; exact lay_ints ms
  · unfold PyData.depth; rw [depth_ints]; decide
  · unfold PyData.eqv; rw [eqv_ints]; exact q
structure TL (P : Program) (w : World) (K : PySem.W.Frag) (mg : Str → Option Value) (base : Heap) : Prop extends T1 mg K where
  b_min : mg "min" = none
  b_max : mg "max" = none
  f__law_take : FnAt P w K mg base "_law_take" 1 ["_law_purse_here", "_law_many"] spTake
  f__law_purse : FnAt P w K mg base "_law_purse" 1 ["_law_script", "_law_at"] (spPurse K)
  f__law_order : FnAt P w K mg base "_law_order" 3 ["_law_purse_here", "_law_n"] spOrder
  f__law_rounds : FnAt P w K mg base "_law_rounds" 1 ["_law_order_here"] spRounds
  f__law_text : FnAt P w K mg base "_law_text" 1 ["_law_lists"] spLtx1
  f__law_other : FnAt P w K mg base "_law_other" 2 ["_law_purse_here", "_law_order_here"] spOt71
  f__law_spoilt : FnAt P w K mg base "_law_spoilt" 2 ["_law_purse_here", "_law_text_here"] spSpT
  f__law_told : FnAt P w K mg base "_law_told" 6 ["_law_text_here"] spTo71
  f__law_read : FnAt P w K mg base "_law_read" 2 ["_law_text_here"] spRd71
section
variable {P : Program} {w : World} {K : PySem.W.Frag} {mg : Str → Option Value} {base : Heap} {C : Addr}
theorem sc_law : FnScope ["_law_script", "_law_k", "_law_purse_here", "_law_order_here", "_law_text_here", "_law_turn"] ["_law_script"] (defScope (top 44)) := ⟨rfl, rfl, rfl, by decide +kernel, rfl, by decide +kernel, by decide +kernel⟩
theorem ok_law {f : Addr} {fd : FuncData} (F : Fun K "law" "law" (top 44) f fd) (T : TL P w K mg base) : FnOk P w K mg base CX0 7 f fd ["_law_script"] (spLaw K) := by
  refine F.ok sc_law (fun vs H Q E h => ?_) (fun cdv A outer s H vs Q E hr h => ?_)
  · obtain ⟨a, ns, rfl, _⟩ := h
    rfl
  · obtain ⟨a, ns, rfl, hS, hl, k⟩ := h
    refine ⟨_, (pss_cons (ps_for PassesOwn.never rfl (pi_range1 rfl T.b_range (pa_cons (pe_callB (call_max2 rfl) rfl T.b_max (by decide +kernel) (pa_cons pe_int (pa_cons (pe_callB (call_min2 rfl) rfl T.b_min (by decide +kernel) (pa_cons (pe_callB (call_lenK (K := K) rfl) rfl T.b_len (by decide +kernel) (pa_cons (pv 0) pa_nil)) (pa_cons pe_int pa_nil))) pa_nil))) pa_nil)) (pg_name (i := 1) sc_law.nd rfl (Or.inl rfl)) (pss_cons (ps_set (i := 2) sc_law.nd rfl (Or.inl rfl) (pe_callF T.f__law_purse (hr.mono (by first | decide | omega)) rfl (pa_cons (pv 0) (pa_cons (pv 1) pa_nil))))
      (pss_cons (ps_set (i := 3) sc_law.nd rfl (Or.inl rfl) (pe_callF T.f__law_order (hr.mono (by first | decide | omega)) rfl (pa_cons (pv 2) (pa_cons (pe_op op_add pe_int (pe_callF T.f__law_take (hr.mono (by first | decide | omega)) rfl (pa_cons (pv 2) (pa_cons pe_int pa_nil)))) pa_nil))))
      (pss_cons (ps_set (i := 4) sc_law.nd rfl (Or.inl rfl) (pe_callF T.f__law_text (hr.mono (by first | decide | omega)) rfl (pa_cons (pe_callF T.f__law_rounds (hr.mono (by first | decide | omega)) rfl (pa_cons (pv 3) pa_nil)) pa_nil)))
      (pss_cons (ps_if (pt_cmpR op_eq (pe_callF T.f__law_take (hr.mono (by first | decide | omega)) rfl (pa_cons (pv 2) (pa_cons pe_int pa_nil))) pe_int (nomark _)) (pss_one (ps_set (i := 4) sc_law.nd rfl (Or.inl rfl) (pe_callF T.f__law_other (hr.mono (by first | decide | omega)) rfl (pa_cons (pv 2) (pa_cons (pv 3) pa_nil))))) (pss_one (ps_for PassesOwn.never rfl (pi_range1 rfl T.b_range (pa_cons (pe_op op_add pe_int (pe_callF T.f__law_take (hr.mono (by first | decide | omega)) rfl (pa_cons (pv 2) (pa_cons pe_int pa_nil)))) pa_nil)) (pg_name (i := 5) sc_law.nd rfl (Or.inl rfl)) (pss_one (ps_set (i := 4) sc_law.nd rfl (Or.inl rfl) (pe_callF T.f__law_spoilt (hr.mono (by first | decide | omega)) rfl (pa_cons (pv 2) (pa_cons (pv 4) pa_nil))))))))
      (pss_one (ps_if (pt_cmpR (op_ne.or (op_neD hr.units)) (pe_callF T.f__law_told (hr.mono (by first | decide | omega)) rfl (pa_cons (pv 4) pa_nil)) (pe_callF T.f__law_read (hr.mono (by first | decide | omega)) rfl (pa_cons (pv 4) pa_nil)) (nomark _)) (pss_one (ps_ret pe_bl)) pss_nil)))))))
      (pss_one (ps_ret pe_bl))), ?_⟩
    have big : (10000000 : Nat) ≤ sizeLine := by decide
    refine ⟨_, rfl, a, _, rfl, .inl hS, _, _, rfl, _, _, rfl, _, rfl, ?b1, ?b2, ?_⟩
    case b1 => rw [List.length_map]; split <;> (try split) <;> omega
    case b2 => rw [List.length_map]; split <;> (try split) <;> omega
    refine for_range (fun i σ H' => (∃ v1 v2 v3 v4 v5, σ = [some (.ref a), v1, v2, v3, v4, v5]) ∧ Same H H') ⟨⟨_, _, _, _, _, rfl⟩, Same.refl _⟩ ?_ ?_
    · rintro i σ H0 hi ⟨⟨v1, v2, v3, v4, v5, rfl⟩, s0⟩
      have hi : i < 1000 := by
        refine Nat.lt_of_lt_of_le hi ?_
        split <;> (try split) <;> omega
      refine ⟨_, rfl, _, rfl, a, ns, _, rfl, s0.seq hS, by omega, by omega, fun p H1 hp pu1 s1 => ?_⟩
      have np : H p = none := s0.free hp
      have a1 : Same H H1 := s0.trans s1
      refine ⟨_, rfl, _, rfl, p, 0, 12, rfl, pu1, by decide, by decide, by decide, fun r H2 r0 r1 pu2 s2 => ?_⟩
      have a2 := Same.of a1 np s2
      obtain ⟨n, hn⟩ : ∃ n : Int, 1 + r = n := ⟨_, rfl⟩
      refine add_at hn ?_
      have n1 : 1 ≤ n := by omega
      have n2 : n ≤ 12 := by omega
      refine ⟨p, 1, n, rfl, pu2, by decide, n1, by omega, fun t xs H3 ft ht o pu3 s3 => ?_⟩
      have a3 := Same.of a2 np s3
      obtain ⟨Sne, _, Sb, Sfl⟩ := or_ok o n1 n2
      obtain ⟨f1, f2, f3⟩ := rnd_facts o
      refine ⟨_, rfl, t, n, xs, rfl, ht, o, by omega, fun lr us H3' flr hlr xr fus nlr s3' => ?_⟩
      have okS : LokO (rndM n xs) := ⟨by omega, fun L hL => ⟨by have := (f2 L hL).2.1; omega, fun x hx => by have := Sb L hL x hx; omega⟩⟩
      have tl : (ordT (rndM n xs)).length ≤ 492 := by
        have := ordT_lenX okS.2
        omega
      refine ⟨lr, us, rndM n xs, rfl, hlr, xr, okS, fun H4 s4 => ?_⟩
      have a4 := a3.trans (s3'.trans s4)
      have pu4 := (pu3.keep s3').keep s4
      have ht4 := s4 _ _ (s3' _ _ ht)
      have npt : p ≠ t := fun z => by rw [z] at pu2; obtain ⟨_, e⟩ := pu2.at; rw [ft] at e; cases e
      refine gNJ ?_
      dsimp only
      refine seq_byR (t := tIfS _ _ _) (fun σ' H' => ∃ v1 v5 v d c, σ' = [some (.ref a), v1, some (.ref p), some (.ref t), some v, v5] ∧ DT H' (fun b => b ≠ p) v d ∧ OkTx d ∧ Purse H' p c ∧ c ≤ 1000 ∧ Same H H') (fun D' hD _ => ?_) ?_
      · refine ⟨_, rfl, p, _, 3, rfl, pu4, by omega, by decide, by decide, fun r3 H5 _ _ pu5 s5 => ⟨rfl, _, rfl, ite2 (fun c => ?_) (fun c => ?_)⟩⟩
        · refine ⟨_, rfl, _, rfl, p, _, n, t, xs, rfl, pu5, by omega, s5 _ _ npt.symm ht4, o, n1, n2, npt, fun v d H6 hd ok pu6 s6 => ?_⟩
          exact hD _ _ ⟨_, _, v, d, _, rfl, hd, ok, pu6, by omega, Same.of (Same.of a4 np s5) np s6⟩
        · refine ⟨_, rfl, p, _, 2, rfl, pu5, by omega, by decide, by decide, fun r4 H6 q0 q1 pu6 s6 => ?_⟩
          refine ⟨_, _, rfl, rfl, _, rfl, by omega, by omega, ?_⟩
          refine for_range (fun j σ' H' => ∃ v1 v5 y, σ' = [some (.ref a), v1, some (.ref p), some (.ref t), some (.str y), v5] ∧ y.length ≤ 492 + 3 * j ∧ Purse H' p (400 + 3 * j) ∧ Same H H') ⟨_, _, _, rfl, by omega, pu6.mono (by omega) (by omega), Same.of (Same.of a4 np s5) np s6⟩ ?_ ?_
          · rintro j σ' H7 hj ⟨v1, v5, y, rfl, yl, pu7, s7⟩
            have hj : j < 2 := by omega
            refine ⟨_, rfl, _, rfl, p, _, y, rfl, pu7, by omega, by omega, fun y' H8 yl' pu8 s8 => ?_⟩
            exact ⟨_, _, y', rfl, by omega, pu8, Same.of s7 np s8⟩
          · rintro σ' H7 ⟨v1, v5, y, rfl, yl, pu7, s7⟩
            exact hD _ _ ⟨_, _, _, _, _, rfl, .str y, .inl ⟨y, rfl, by omega⟩, pu7, by omega, s7⟩
      rintro σ' H5 ⟨v1, v5, v, d, c, rfl, hd, ok, pu5, c1, a5⟩
      have hd6 := hd.imp (R := fun _ => True) fun _ _ => trivial
      refine ⟨_, rfl, v, d, rfl, hd6, ok, fun n1' x1 t1 l1 H7 f1 h1 s7 => ?_, fun no H7 s7 => ?_⟩
      · refine ⟨_, rfl, v, d, rfl, hd6.keep (fun b o _ e => s7 b o e), ok, fun n2' x2 t2 l2 H8 f2 h2 s8 => ?_, fun z => absurd t1 (z _ _)⟩
        obtain ⟨er, _⟩ := t1.uniq t2
        subst er
        exact .inr (neTup (s8 _ _ h1) h2 ⟨_, rfl, iteE (by rw [decide_eq_true rfl]; rfl) ⟨⟨_, _, _, _, _, rfl⟩, a5.trans (s7.trans s8)⟩⟩)
      · refine ⟨_, rfl, v, d, rfl, hd6.keep (fun b o _ e => s7 b o e), ok, fun n2' x2 t2 => absurd t2 (no _ _), fun _ H8 s8 => ?_⟩
        exact .inl ⟨rfl, _, rfl, iteE rfl ⟨⟨_, _, _, _, _, rfl⟩, a5.trans (s7.trans s8)⟩⟩
    · rintro σ H' _
      exact k H'
end
end Sw
namespace Sw
open PySem L2
section
variable {P : Program} {w : World} {K : PySem.W.Frag} {mg : Str → Option Value} {base : Heap}
theorem sc_plain : FnScope ["n"] ["n"] (defScope (top 19)) := ⟨rfl, rfl, rfl, by decide +kernel, rfl, by decide +kernel, by decide +kernel⟩
theorem ok_plain {f : Addr} {fd : FuncData} (F : Fun K "plain" "plain" (top 19) f fd) (T : T1 mg K) : FnOk P w K mg base CX0 1 f fd ["n"] spPlain := by
  refine F.ok sc_plain (fun vs H Q E h => ?_) (fun cdv A outer s H vs Q E hr h => ?_)
  · obtain ⟨t, rfl, _⟩ := h
    rfl
  · obtain ⟨n, rfl, h0, h1, k⟩ := h
    refine ⟨_, (pss_one (ps_ret (pe_callTy (call_tuple_rng rfl) rfl T.b_tuple (by decide +kernel) (pa_cons (pe_callTy call_range rfl T.b_range (by decide +kernel) (pa_cons pe_int (pa_cons (pe_op op_add (pv 0) pe_int) pa_nil))) pa_nil)))), ?_⟩
    refine ⟨_, rfl, _, _, rfl, rfl, .inr ⟨_, _, rfl, fun r hr => ⟨r, _, _, rfl, upd_same, by omega, by omega, by omega, by omega, fun t ht => ?_⟩⟩⟩
    have ne : t ≠ r := by intro z; subst z; rw [upd_same] at ht; cases ht
    rw [upd_ne ne] at ht
    exact k t _ ht upd_same fun b o e => by rw [upd_ne (ne_of_none e ht), upd_ne (ne_of_none e hr)]; exact e
end
end Sw
namespace Sw
open PySem L2
theorem all_mk {l : PySem.W.OpenLaw} {w : World} {K : PySem.W.Frag} {h : Heap} {mg : Str → Option Value} {fa : Addr} {tk_MOST_THINGS tk_MOST_FIGURES : Tok} (X : K.In h) (G : h.Ns mainGlobals mg) (hfa : mg "law" = some (.ref fa))
    {f0 : Addr} {od0 an0 : Option Addr} {sl0 : Array (Option Value)} {oc0 kV0 dc0 pm0 cd0 ct0 : Value}
    {f1 : Addr} {od1 an1 : Option Addr} {sl1 : Array (Option Value)} {oc1 kV1 dc1 pm1 cd1 ct1 : Value}
    {f2 : Addr} {od2 an2 : Option Addr} {sl2 : Array (Option Value)} {oc2 kV2 dc2 pm2 cd2 ct2 : Value}
    {f3 : Addr} {od3 an3 : Option Addr} {sl3 : Array (Option Value)} {oc3 kV3 dc3 pm3 cd3 ct3 : Value}
    {f4 : Addr} {od4 an4 : Option Addr} {sl4 : Array (Option Value)} {oc4 kV4 dc4 pm4 cd4 ct4 : Value}
    {f5 : Addr} {od5 an5 : Option Addr} {sl5 : Array (Option Value)} {oc5 kV5 dc5 pm5 cd5 ct5 : Value}
    {f6 : Addr} {od6 an6 : Option Addr} {sl6 : Array (Option Value)} {oc6 kV6 dc6 pm6 cd6 ct6 : Value}
    {f7 : Addr} {od7 an7 : Option Addr} {sl7 : Array (Option Value)} {oc7 kV7 dc7 pm7 cd7 ct7 : Value}
    {f8 : Addr} {od8 an8 : Option Addr} {sl8 : Array (Option Value)} {oc8 kV8 dc8 pm8 cd8 ct8 : Value}
    {f9 : Addr} {od9 an9 : Option Addr} {sl9 : Array (Option Value)} {oc9 kV9 dc9 pm9 cd9 ct9 : Value}
    {f10 : Addr} {od10 an10 : Option Addr} {sl10 : Array (Option Value)} {oc10 kV10 dc10 pm10 cd10 ct10 : Value}
    {f11 : Addr} {od11 an11 : Option Addr} {sl11 : Array (Option Value)} {oc11 kV11 dc11 pm11 cd11 ct11 : Value}
    {f12 : Addr} {od12 an12 : Option Addr} {sl12 : Array (Option Value)} {oc12 kV12 dc12 pm12 cd12 ct12 : Value}
    {f13 : Addr} {od13 an13 : Option Addr} {sl13 : Array (Option Value)} {oc13 kV13 dc13 pm13 cd13 ct13 : Value}
    {f14 : Addr} {od14 an14 : Option Addr} {sl14 : Array (Option Value)} {oc14 kV14 dc14 pm14 cd14 ct14 : Value}
    {f15 : Addr} {od15 an15 : Option Addr} {sl15 : Array (Option Value)} {oc15 kV15 dc15 pm15 cd15 ct15 : Value}
    {f16 : Addr} {od16 an16 : Option Addr} {sl16 : Array (Option Value)} {oc16 kV16 dc16 pm16 cd16 ct16 : Value}
    {f17 : Addr} {od17 an17 : Option Addr} {sl17 : Array (Option Value)} {oc17 kV17 dc17 pm17 cd17 ct17 : Value}
    {f18 : Addr} {od18 an18 : Option Addr} {sl18 : Array (Option Value)} {oc18 kV18 dc18 pm18 cd18 ct18 : Value}
    {f19 : Addr} {od19 an19 : Option Addr} {sl19 : Array (Option Value)} {oc19 kV19 dc19 pm19 cd19 ct19 : Value}
    {f20 : Addr} {od20 an20 : Option Addr} {sl20 : Array (Option Value)} {oc20 kV20 dc20 pm20 cd20 ct20 : Value}
    {f21 : Addr} {od21 an21 : Option Addr} {sl21 : Array (Option Value)} {oc21 kV21 dc21 pm21 cd21 ct21 : Value}
    {f22 : Addr} {od22 an22 : Option Addr} {sl22 : Array (Option Value)} {oc22 kV22 dc22 pm22 cd22 ct22 : Value}
    {f23 : Addr} {od23 an23 : Option Addr} {sl23 : Array (Option Value)} {oc23 kV23 dc23 pm23 cd23 ct23 : Value}
    {f24 : Addr} {od24 an24 : Option Addr} {sl24 : Array (Option Value)} {oc24 kV24 dc24 pm24 cd24 ct24 : Value}
    (a0 : PySem.W.nsIn K mainGlobals "is_whole" = some (some (.ref f0))) (l0 : K.lookup f0 = some ⟨oc0, od0, .func (PySem.W.fnOf "is_whole" "is_whole" (defArgs (top 15)) (defBody (top 15)) (defScope (top 15)) .none kV0 dc0 pm0 an0 cd0 ct0), sl0⟩) (c0 : PySem.W.codeIn K cd0 "is_whole" = true) (k0 : PySem.W.keepIn K (.ref f0) = true)
    (a1 : PySem.W.nsIn K mainGlobals "is_between" = some (some (.ref f1))) (l1 : K.lookup f1 = some ⟨oc1, od1, .func (PySem.W.fnOf "is_between" "is_between" (defArgs (top 16)) (defBody (top 16)) (defScope (top 16)) .none kV1 dc1 pm1 an1 cd1 ct1), sl1⟩) (c1 : PySem.W.codeIn K cd1 "is_between" = true) (k1 : PySem.W.keepIn K (.ref f1) = true)
    (a2 : PySem.W.nsIn K mainGlobals "plain" = some (some (.ref f2))) (l2 : K.lookup f2 = some ⟨oc2, od2, .func (PySem.W.fnOf "plain" "plain" (defArgs (top 19)) (defBody (top 19)) (defScope (top 19)) .none kV2 dc2 pm2 an2 cd2 ct2), sl2⟩) (c2 : PySem.W.codeIn K cd2 "plain" = true) (k2 : PySem.W.keepIn K (.ref f2) = true)
    (a3 : PySem.W.nsIn K mainGlobals "round_from" = some (some (.ref f3))) (l3 : K.lookup f3 = some ⟨oc3, od3, .func (PySem.W.fnOf "round_from" "round_from" (defArgs (top 20)) (defBody (top 20)) (defScope (top 20)) .none kV3 dc3 pm3 an3 cd3 ct3), sl3⟩) (c3 : PySem.W.codeIn K cd3 "round_from" = true) (k3 : PySem.W.keepIn K (.ref f3) = true)
    (a4 : PySem.W.nsIn K mainGlobals "rounds" = some (some (.ref f4))) (l4 : K.lookup f4 = some ⟨oc4, od4, .func (PySem.W.fnOf "rounds" "rounds" (defArgs (top 21)) (defBody (top 21)) (defScope (top 21)) .none kV4 dc4 pm4 an4 cd4 ct4), sl4⟩) (c4 : PySem.W.codeIn K cd4 "rounds" = true) (k4 : PySem.W.keepIn K (.ref f4) = true)
    (a5 : PySem.W.nsIn K mainGlobals "check_rounds" = some (some (.ref f5))) (l5 : K.lookup f5 = some ⟨oc5, od5, .func (PySem.W.fnOf "check_rounds" "check_rounds" (defArgs (top 22)) (defBody (top 22)) (defScope (top 22)) .none kV5 dc5 pm5 an5 cd5 ct5), sl5⟩) (c5 : PySem.W.codeIn K cd5 "check_rounds" = true) (k5 : PySem.W.keepIn K (.ref f5) = true)
    (a6 : PySem.W.nsIn K mainGlobals "made" = some (some (.ref f6))) (l6 : K.lookup f6 = some ⟨oc6, od6, .func (PySem.W.fnOf "made" "made" (defArgs (top 23)) (defBody (top 23)) (defScope (top 23)) .none kV6 dc6 pm6 an6 cd6 ct6), sl6⟩) (c6 : PySem.W.codeIn K cd6 "made" = true) (k6 : PySem.W.keepIn K (.ref f6) = true)
    (a7 : PySem.W.nsIn K mainGlobals "show_things" = some (some (.ref f7))) (l7 : K.lookup f7 = some ⟨oc7, od7, .func (PySem.W.fnOf "show_things" "show_things" (defArgs (top 26)) (defBody (top 26)) (defScope (top 26)) .none kV7 dc7 pm7 an7 cd7 ct7), sl7⟩) (c7 : PySem.W.codeIn K cd7 "show_things" = true) (k7 : PySem.W.keepIn K (.ref f7) = true)
    (a8 : PySem.W.nsIn K mainGlobals "show_order" = some (some (.ref f8))) (l8 : K.lookup f8 = some ⟨oc8, od8, .func (PySem.W.fnOf "show_order" "show_order" (defArgs (top 27)) (defBody (top 27)) (defScope (top 27)) .none kV8 dc8 pm8 an8 cd8 ct8), sl8⟩) (c8 : PySem.W.codeIn K cd8 "show_order" = true) (k8 : PySem.W.keepIn K (.ref f8) = true)
    (a9 : PySem.W.nsIn K mainGlobals "check_text" = some (some (.ref f9))) (l9 : K.lookup f9 = some ⟨oc9, od9, .func (PySem.W.fnOf "check_text" "check_text" (defArgs (top 28)) (defBody (top 28)) (defScope (top 28)) .none kV9 dc9 pm9 an9 cd9 ct9), sl9⟩) (c9 : PySem.W.codeIn K cd9 "check_text" = true) (k9 : PySem.W.keepIn K (.ref f9) = true)
    (a10 : PySem.W.nsIn K mainGlobals "read_number" = some (some (.ref f10))) (l10 : K.lookup f10 = some ⟨oc10, od10, .func (PySem.W.fnOf "read_number" "read_number" (defArgs (top 29)) (defBody (top 29)) (defScope (top 29)) .none kV10 dc10 pm10 an10 cd10 ct10), sl10⟩) (c10 : PySem.W.codeIn K cd10 "read_number" = true) (k10 : PySem.W.keepIn K (.ref f10) = true)
    (a11 : PySem.W.nsIn K mainGlobals "read_things" = some (some (.ref f11))) (l11 : K.lookup f11 = some ⟨oc11, od11, .func (PySem.W.fnOf "read_things" "read_things" (defArgs (top 30)) (defBody (top 30)) (defScope (top 30)) .none kV11 dc11 pm11 an11 cd11 ct11), sl11⟩) (c11 : PySem.W.codeIn K cd11 "read_things" = true) (k11 : PySem.W.keepIn K (.ref f11) = true)
    (a12 : PySem.W.nsIn K mainGlobals "many_things" = some (some (.ref f12))) (l12 : K.lookup f12 = some ⟨oc12, od12, .func (PySem.W.fnOf "many_things" "many_things" (defArgs (top 31)) (defBody (top 31)) (defScope (top 31)) .none kV12 dc12 pm12 an12 cd12 ct12), sl12⟩) (c12 : PySem.W.codeIn K cd12 "many_things" = true) (k12 : PySem.W.keepIn K (.ref f12) = true)
    (a13 : PySem.W.nsIn K mainGlobals "read_order" = some (some (.ref f13))) (l13 : K.lookup f13 = some ⟨oc13, od13, .func (PySem.W.fnOf "read_order" "read_order" (defArgs (top 32)) (defBody (top 32)) (defScope (top 32)) .none kV13 dc13 pm13 an13 cd13 ct13), sl13⟩) (c13 : PySem.W.codeIn K cd13 "read_order" = true) (k13 : PySem.W.keepIn K (.ref f13) = true)
    (a14 : PySem.W.nsIn K mainGlobals "_law_purse" = some (some (.ref f14))) (l14 : K.lookup f14 = some ⟨oc14, od14, .func (PySem.W.fnOf "_law_purse" "_law_purse" (defArgs (top 34)) (defBody (top 34)) (defScope (top 34)) .none kV14 dc14 pm14 an14 cd14 ct14), sl14⟩) (c14 : PySem.W.codeIn K cd14 "_law_purse" = true) (k14 : PySem.W.keepIn K (.ref f14) = true)
    (a15 : PySem.W.nsIn K mainGlobals "_law_take" = some (some (.ref f15))) (l15 : K.lookup f15 = some ⟨oc15, od15, .func (PySem.W.fnOf "_law_take" "_law_take" (defArgs (top 35)) (defBody (top 35)) (defScope (top 35)) .none kV15 dc15 pm15 an15 cd15 ct15), sl15⟩) (c15 : PySem.W.codeIn K cd15 "_law_take" = true) (k15 : PySem.W.keepIn K (.ref f15) = true)
    (a16 : PySem.W.nsIn K mainGlobals "_law_order" = some (some (.ref f16))) (l16 : K.lookup f16 = some ⟨oc16, od16, .func (PySem.W.fnOf "_law_order" "_law_order" (defArgs (top 36)) (defBody (top 36)) (defScope (top 36)) .none kV16 dc16 pm16 an16 cd16 ct16), sl16⟩) (c16 : PySem.W.codeIn K cd16 "_law_order" = true) (k16 : PySem.W.keepIn K (.ref f16) = true)
    (a17 : PySem.W.nsIn K mainGlobals "_law_rounds" = some (some (.ref f17))) (l17 : K.lookup f17 = some ⟨oc17, od17, .func (PySem.W.fnOf "_law_rounds" "_law_rounds" (defArgs (top 37)) (defBody (top 37)) (defScope (top 37)) .none kV17 dc17 pm17 an17 cd17 ct17), sl17⟩) (c17 : PySem.W.codeIn K cd17 "_law_rounds" = true) (k17 : PySem.W.keepIn K (.ref f17) = true)
    (a18 : PySem.W.nsIn K mainGlobals "_law_spoilt" = some (some (.ref f18))) (l18 : K.lookup f18 = some ⟨oc18, od18, .func (PySem.W.fnOf "_law_spoilt" "_law_spoilt" (defArgs (top 38)) (defBody (top 38)) (defScope (top 38)) .none kV18 dc18 pm18 an18 cd18 ct18), sl18⟩) (c18 : PySem.W.codeIn K cd18 "_law_spoilt" = true) (k18 : PySem.W.keepIn K (.ref f18) = true)
    (a19 : PySem.W.nsIn K mainGlobals "_law_alone" = some (some (.ref f19))) (l19 : K.lookup f19 = some ⟨oc19, od19, .func (PySem.W.fnOf "_law_alone" "_law_alone" (defArgs (top 39)) (defBody (top 39)) (defScope (top 39)) .none kV19 dc19 pm19 an19 cd19 ct19), sl19⟩) (c19 : PySem.W.codeIn K cd19 "_law_alone" = true) (k19 : PySem.W.keepIn K (.ref f19) = true)
    (a20 : PySem.W.nsIn K mainGlobals "_law_text" = some (some (.ref f20))) (l20 : K.lookup f20 = some ⟨oc20, od20, .func (PySem.W.fnOf "_law_text" "_law_text" (defArgs (top 40)) (defBody (top 40)) (defScope (top 40)) .none kV20 dc20 pm20 an20 cd20 ct20), sl20⟩) (c20 : PySem.W.codeIn K cd20 "_law_text" = true) (k20 : PySem.W.keepIn K (.ref f20) = true)
    (a21 : PySem.W.nsIn K mainGlobals "_law_other" = some (some (.ref f21))) (l21 : K.lookup f21 = some ⟨oc21, od21, .func (PySem.W.fnOf "_law_other" "_law_other" (defArgs (top 41)) (defBody (top 41)) (defScope (top 41)) .none kV21 dc21 pm21 an21 cd21 ct21), sl21⟩) (c21 : PySem.W.codeIn K cd21 "_law_other" = true) (k21 : PySem.W.keepIn K (.ref f21) = true)
    (a22 : PySem.W.nsIn K mainGlobals "_law_read" = some (some (.ref f22))) (l22 : K.lookup f22 = some ⟨oc22, od22, .func (PySem.W.fnOf "_law_read" "_law_read" (defArgs (top 42)) (defBody (top 42)) (defScope (top 42)) .none kV22 dc22 pm22 an22 cd22 ct22), sl22⟩) (c22 : PySem.W.codeIn K cd22 "_law_read" = true) (k22 : PySem.W.keepIn K (.ref f22) = true)
    (a23 : PySem.W.nsIn K mainGlobals "_law_told" = some (some (.ref f23))) (l23 : K.lookup f23 = some ⟨oc23, od23, .func (PySem.W.fnOf "_law_told" "_law_told" (defArgs (top 43)) (defBody (top 43)) (defScope (top 43)) .none kV23 dc23 pm23 an23 cd23 ct23), sl23⟩) (c23 : PySem.W.codeIn K cd23 "_law_told" = true) (k23 : PySem.W.keepIn K (.ref f23) = true)
    (a24 : PySem.W.nsIn K mainGlobals "law" = some (some (.ref f24))) (l24 : K.lookup f24 = some ⟨oc24, od24, .func (PySem.W.fnOf "law" "law" (defArgs (top 44)) (defBody (top 44)) (defScope (top 44)) .none kV24 dc24 pm24 an24 cd24 ct24), sl24⟩) (c24 : PySem.W.codeIn K cd24 "law" = true) (k24 : PySem.W.keepIn K (.ref f24) = true)
    (z_len : PySem.W.nsIn K mainGlobals "len" = some none)
    (z_abs : PySem.W.nsIn K mainGlobals "abs" = some none)
    (z_int : PySem.W.nsIn K mainGlobals "int" = some none)
    (z_all : PySem.W.nsIn K mainGlobals "all" = some none)
    (z_isinstance : PySem.W.nsIn K mainGlobals "isinstance" = some none)
    (z_bool : PySem.W.nsIn K mainGlobals "bool" = some none)
    (z_tuple : PySem.W.nsIn K mainGlobals "tuple" = some none)
    (z_list : PySem.W.nsIn K mainGlobals "list" = some none)
    (z_range : PySem.W.nsIn K mainGlobals "range" = some none)
    (z_min : PySem.W.nsIn K mainGlobals "min" = some none)
    (z_max : PySem.W.nsIn K mainGlobals "max" = some none)
    (z_sorted : PySem.W.nsIn K mainGlobals "sorted" = some none)
    (z_sum : PySem.W.nsIn K mainGlobals "sum" = some none)
    (z_enumerate : PySem.W.nsIn K mainGlobals "enumerate" = some none)
    (z_str : PySem.W.nsIn K mainGlobals "str" = some none)
    (z_ValueError : PySem.W.nsIn K mainGlobals "ValueError" = some none)
    {C_Unlike C_NoRounds C_Apart C_NoMove C_NotLeast C_NotGreat C_NoTree C_NoCars C_NoChain C_NoBound C_NoText C_NoName C_StarError : Addr}
    (ac_Unlike : PySem.W.nsIn K mainGlobals "Unlike" = some (some (.ref C_Unlike)))
    (ac_NoRounds : PySem.W.nsIn K mainGlobals "NoRounds" = some (some (.ref C_NoRounds)))
    (ac_Apart : PySem.W.nsIn K mainGlobals "Apart" = some (some (.ref C_Apart)))
    (ac_NoMove : PySem.W.nsIn K mainGlobals "NoMove" = some (some (.ref C_NoMove)))
    (ac_NotLeast : PySem.W.nsIn K mainGlobals "NotLeast" = some (some (.ref C_NotLeast)))
    (ac_NotGreat : PySem.W.nsIn K mainGlobals "NotGreat" = some (some (.ref C_NotGreat)))
    (ac_NoTree : PySem.W.nsIn K mainGlobals "NoTree" = some (some (.ref C_NoTree)))
    (ac_NoCars : PySem.W.nsIn K mainGlobals "NoCars" = some (some (.ref C_NoCars)))
    (ac_NoChain : PySem.W.nsIn K mainGlobals "NoChain" = some (some (.ref C_NoChain)))
    (ac_NoBound : PySem.W.nsIn K mainGlobals "NoBound" = some (some (.ref C_NoBound)))
    (ac_NoText : PySem.W.nsIn K mainGlobals "NoText" = some (some (.ref C_NoText)))
    (ac_NoName : PySem.W.nsIn K mainGlobals "NoName" = some (some (.ref C_NoName)))
    (ac_StarError : PySem.W.nsIn K mainGlobals "StarError" = some (some (.ref C_StarError)))
    (xc_NoText : ExcC K C_NoText)
    (ei_NoText : ExcI K C_NoText)
    (kv_NoText : PySem.W.kitOne K (.ref C_NoText) (.type "ValueError") = some true)
    (kx_NoText_Unlike : PySem.W.kitOne K (.ref C_NoText) (.ref C_Unlike) = some false)
    (kx_NoText_NoRounds : PySem.W.kitOne K (.ref C_NoText) (.ref C_NoRounds) = some false)
    (kx_NoText_Apart : PySem.W.kitOne K (.ref C_NoText) (.ref C_Apart) = some false)
    (kx_NoText_NoMove : PySem.W.kitOne K (.ref C_NoText) (.ref C_NoMove) = some false)
    (kx_NoText_NotLeast : PySem.W.kitOne K (.ref C_NoText) (.ref C_NotLeast) = some false)
    (kx_NoText_NotGreat : PySem.W.kitOne K (.ref C_NoText) (.ref C_NotGreat) = some false)
    (kx_NoText_NoTree : PySem.W.kitOne K (.ref C_NoText) (.ref C_NoTree) = some false)
    (kx_NoText_NoCars : PySem.W.kitOne K (.ref C_NoText) (.ref C_NoCars) = some false)
    (kx_NoText_NoChain : PySem.W.kitOne K (.ref C_NoText) (.ref C_NoChain) = some false)
    (kx_NoText_NoBound : PySem.W.kitOne K (.ref C_NoText) (.ref C_NoBound) = some false)
    (kx_NoText_NoText : PySem.W.kitOne K (.ref C_NoText) (.ref C_NoText) = some true)
    (em_NoText_NoText : ExcM K C_NoText C_NoText true)
    (kx_NoText_NoName : PySem.W.kitOne K (.ref C_NoText) (.ref C_NoName) = some false)
    (kx_NoText_StarError : PySem.W.kitOne K (.ref C_NoText) (.ref C_StarError) = some true)
    (xc_NoRounds : ExcC K C_NoRounds)
    (ei_NoRounds : ExcI K C_NoRounds)
    (kv_NoRounds : PySem.W.kitOne K (.ref C_NoRounds) (.type "ValueError") = some true)
    (kx_NoRounds_Unlike : PySem.W.kitOne K (.ref C_NoRounds) (.ref C_Unlike) = some false)
    (kx_NoRounds_NoRounds : PySem.W.kitOne K (.ref C_NoRounds) (.ref C_NoRounds) = some true)
    (em_NoRounds_NoRounds : ExcM K C_NoRounds C_NoRounds true)
    (kx_NoRounds_Apart : PySem.W.kitOne K (.ref C_NoRounds) (.ref C_Apart) = some false)
    (kx_NoRounds_NoMove : PySem.W.kitOne K (.ref C_NoRounds) (.ref C_NoMove) = some false)
    (kx_NoRounds_NotLeast : PySem.W.kitOne K (.ref C_NoRounds) (.ref C_NotLeast) = some false)
    (kx_NoRounds_NotGreat : PySem.W.kitOne K (.ref C_NoRounds) (.ref C_NotGreat) = some false)
    (kx_NoRounds_NoTree : PySem.W.kitOne K (.ref C_NoRounds) (.ref C_NoTree) = some false)
    (kx_NoRounds_NoCars : PySem.W.kitOne K (.ref C_NoRounds) (.ref C_NoCars) = some false)
    (kx_NoRounds_NoChain : PySem.W.kitOne K (.ref C_NoRounds) (.ref C_NoChain) = some false)
    (kx_NoRounds_NoBound : PySem.W.kitOne K (.ref C_NoRounds) (.ref C_NoBound) = some false)
    (kx_NoRounds_NoText : PySem.W.kitOne K (.ref C_NoRounds) (.ref C_NoText) = some false)
    (kx_NoRounds_NoName : PySem.W.kitOne K (.ref C_NoRounds) (.ref C_NoName) = some false)
    (kx_NoRounds_StarError : PySem.W.kitOne K (.ref C_NoRounds) (.ref C_StarError) = some true)
    (ag_MOST_THINGS : PySem.W.nsIn K mainGlobals "MOST_THINGS" = some (some (.int 12 tk_MOST_THINGS)))
    (ag_MOST_FIGURES : PySem.W.nsIn K mainGlobals "MOST_FIGURES" = some (some (.int 9 tk_MOST_FIGURES)))
    (kpc : PySem.W.keepIn K (.ref C_NoText) = true)
    (kib : PySem.W.kitOne K (.type "int") (.type "bool") = some false) :
    ∃ fd : FuncData, (∀ (s : Shared) (v : Value), BindsTo s fd ⟨[v], []⟩ [("_law_script", v)]) ∧ ∀ base : Heap, K.In base → base.Ns mainGlobals mg → FnOk l.prog w K mg base CX0 7 fa fd ["_law_script"] (spLaw K) := by
  have F_is_whole := fun_mk (st := top 15) l0 c0 k0
  have b_is_whole := F_is_whole.binds (ps := ["thing"]) fun _ _ _ _ _ _ us hl => match us, hl with | [_], _ => rfl
  have m_is_whole := PySem.W.mg_of X G a0
  have F_is_between := fun_mk (st := top 16) l1 c1 k1
  have b_is_between := F_is_between.binds (ps := ["thing", "low", "high"]) fun _ _ _ _ _ _ us hl => match us, hl with | [_, _, _], _ => rfl
  have m_is_between := PySem.W.mg_of X G a1
  have F_plain := fun_mk (st := top 19) l2 c2 k2
  have b_plain := F_plain.binds (ps := ["n"]) fun _ _ _ _ _ _ us hl => match us, hl with | [_], _ => rfl
  have m_plain := PySem.W.mg_of X G a2
  have F_round_from := fun_mk (st := top 20) l3 c3 k3
  have b_round_from := F_round_from.binds (ps := ["order", "first"]) fun _ _ _ _ _ _ us hl => match us, hl with | [_, _], _ => rfl
  have m_round_from := PySem.W.mg_of X G a3
  have F_rounds := fun_mk (st := top 21) l4 c4 k4
  have b_rounds := F_rounds.binds (ps := ["order"]) fun _ _ _ _ _ _ us hl => match us, hl with | [_], _ => rfl
  have m_rounds := PySem.W.mg_of X G a4
  have F_check_rounds := fun_mk (st := top 22) l5 c5 k5
  have b_check_rounds := F_check_rounds.binds (ps := ["n", "lists"]) fun _ _ _ _ _ _ us hl => match us, hl with | [_, _], _ => rfl
  have m_check_rounds := PySem.W.mg_of X G a5
  have F_made := fun_mk (st := top 23) l6 c6 k6
  have b_made := F_made.binds (ps := ["n", "lists"]) fun _ _ _ _ _ _ us hl => match us, hl with | [_, _], _ => rfl
  have m_made := PySem.W.mg_of X G a6
  have F_show_things := fun_mk (st := top 26) l7 c7 k7
  have b_show_things := F_show_things.binds (ps := ["things"]) fun _ _ _ _ _ _ us hl => match us, hl with | [_], _ => rfl
  have m_show_things := PySem.W.mg_of X G a7
  have F_show_order := fun_mk (st := top 27) l8 c8 k8
  have b_show_order := F_show_order.binds (ps := ["order"]) fun _ _ _ _ _ _ us hl => match us, hl with | [_], _ => rfl
  have m_show_order := PySem.W.mg_of X G a8
  have F_check_text := fun_mk (st := top 28) l9 c9 k9
  have b_check_text := F_check_text.binds (ps := ["thing"]) fun _ _ _ _ _ _ us hl => match us, hl with | [_], _ => rfl
  have m_check_text := PySem.W.mg_of X G a9
  have F_read_number := fun_mk (st := top 29) l10 c10 k10
  have b_read_number := F_read_number.binds (ps := ["word"]) fun _ _ _ _ _ _ us hl => match us, hl with | [_], _ => rfl
  have m_read_number := PySem.W.mg_of X G a10
  have F_read_things := fun_mk (st := top 30) l11 c11 k11
  have b_read_things := F_read_things.binds (ps := ["text"]) fun _ _ _ _ _ _ us hl => match us, hl with | [_], _ => rfl
  have m_read_things := PySem.W.mg_of X G a11
  have F_many_things := fun_mk (st := top 31) l12 c12 k12
  have b_many_things := F_many_things.binds (ps := ["lists"]) fun _ _ _ _ _ _ us hl => match us, hl with | [_], _ => rfl
  have m_many_things := PySem.W.mg_of X G a12
  have F_read_order := fun_mk (st := top 32) l13 c13 k13
  have b_read_order := F_read_order.binds (ps := ["text"]) fun _ _ _ _ _ _ us hl => match us, hl with | [_], _ => rfl
  have m_read_order := PySem.W.mg_of X G a13
  have F__law_purse := fun_mk (st := top 34) l14 c14 k14
  have b__law_purse := F__law_purse.binds (ps := ["_law_script", "_law_at"]) fun _ _ _ _ _ _ us hl => match us, hl with | [_, _], _ => rfl
  have m__law_purse := PySem.W.mg_of X G a14
  have F__law_take := fun_mk (st := top 35) l15 c15 k15
  have b__law_take := F__law_take.binds (ps := ["_law_purse_here", "_law_many"]) fun _ _ _ _ _ _ us hl => match us, hl with | [_, _], _ => rfl
  have m__law_take := PySem.W.mg_of X G a15
  have F__law_order := fun_mk (st := top 36) l16 c16 k16
  have b__law_order := F__law_order.binds (ps := ["_law_purse_here", "_law_n"]) fun _ _ _ _ _ _ us hl => match us, hl with | [_, _], _ => rfl
  have m__law_order := PySem.W.mg_of X G a16
  have F__law_rounds := fun_mk (st := top 37) l17 c17 k17
  have b__law_rounds := F__law_rounds.binds (ps := ["_law_order_here"]) fun _ _ _ _ _ _ us hl => match us, hl with | [_], _ => rfl
  have m__law_rounds := PySem.W.mg_of X G a17
  have F__law_spoilt := fun_mk (st := top 38) l18 c18 k18
  have b__law_spoilt := F__law_spoilt.binds (ps := ["_law_purse_here", "_law_text_here"]) fun _ _ _ _ _ _ us hl => match us, hl with | [_, _], _ => rfl
  have m__law_spoilt := PySem.W.mg_of X G a18
  have F__law_alone := fun_mk (st := top 39) l19 c19 k19
  have b__law_alone := F__law_alone.binds (ps := ["_law_e"]) fun _ _ _ _ _ _ us hl => match us, hl with | [_], _ => rfl
  have m__law_alone := PySem.W.mg_of X G a19
  have F__law_text := fun_mk (st := top 40) l20 c20 k20
  have b__law_text := F__law_text.binds (ps := ["_law_lists"]) fun _ _ _ _ _ _ us hl => match us, hl with | [_], _ => rfl
  have m__law_text := PySem.W.mg_of X G a20
  have F__law_other := fun_mk (st := top 41) l21 c21 k21
  have b__law_other := F__law_other.binds (ps := ["_law_purse_here", "_law_order_here"]) fun _ _ _ _ _ _ us hl => match us, hl with | [_, _], _ => rfl
  have m__law_other := PySem.W.mg_of X G a21
  have F__law_read := fun_mk (st := top 42) l22 c22 k22
  have b__law_read := F__law_read.binds (ps := ["_law_text_here"]) fun _ _ _ _ _ _ us hl => match us, hl with | [_], _ => rfl
  have m__law_read := PySem.W.mg_of X G a22
  have F__law_told := fun_mk (st := top 43) l23 c23 k23
  have b__law_told := F__law_told.binds (ps := ["_law_text_here"]) fun _ _ _ _ _ _ us hl => match us, hl with | [_], _ => rfl
  have m__law_told := PySem.W.mg_of X G a23
  have F_law := fun_mk (st := top 44) l24 c24 k24
  have b_law := F_law.binds (ps := ["_law_script"]) fun _ _ _ _ _ _ us hl => match us, hl with | [_], _ => rfl
  have m_law := PySem.W.mg_of X G a24
  have z_len := PySem.W.mg_none_of X G z_len
  have z_abs := PySem.W.mg_none_of X G z_abs
  have z_int := PySem.W.mg_none_of X G z_int
  have z_all := PySem.W.mg_none_of X G z_all
  have z_isinstance := PySem.W.mg_none_of X G z_isinstance
  have z_bool := PySem.W.mg_none_of X G z_bool
  have z_tuple := PySem.W.mg_none_of X G z_tuple
  have z_list := PySem.W.mg_none_of X G z_list
  have z_range := PySem.W.mg_none_of X G z_range
  have z_min := PySem.W.mg_none_of X G z_min
  have z_max := PySem.W.mg_none_of X G z_max
  have z_sorted := PySem.W.mg_none_of X G z_sorted
  have z_sum := PySem.W.mg_none_of X G z_sum
  have z_enumerate := PySem.W.mg_none_of X G z_enumerate
  have z_str := PySem.W.mg_none_of X G z_str
  have z_ValueError := PySem.W.mg_none_of X G z_ValueError
  have mc_Unlike := PySem.W.mg_of X G ac_Unlike
  have mc_NoRounds := PySem.W.mg_of X G ac_NoRounds
  have mc_Apart := PySem.W.mg_of X G ac_Apart
  have mc_NoMove := PySem.W.mg_of X G ac_NoMove
  have mc_NotLeast := PySem.W.mg_of X G ac_NotLeast
  have mc_NotGreat := PySem.W.mg_of X G ac_NotGreat
  have mc_NoTree := PySem.W.mg_of X G ac_NoTree
  have mc_NoCars := PySem.W.mg_of X G ac_NoCars
  have mc_NoChain := PySem.W.mg_of X G ac_NoChain
  have mc_NoBound := PySem.W.mg_of X G ac_NoBound
  have mc_NoText := PySem.W.mg_of X G ac_NoText
  have mc_NoName := PySem.W.mg_of X G ac_NoName
  have mc_StarError := PySem.W.mg_of X G ac_StarError
  have mg_MOST_THINGS := PySem.W.mg_of X G ag_MOST_THINGS
  have mg_MOST_FIGURES := PySem.W.mg_of X G ag_MOST_FIGURES
  have e := hfa.symm.trans m_law
  cases e
  refine ⟨PySem.W.fnOf "law" "law" (defArgs (top 44)) (defBody (top 44)) (defScope (top 44)) .none kV24 dc24 pm24 an24 cd24 ct24, fun s v => .of_eq rfl, fun base _ _ => ?_⟩
  have t0 : TPurse mg := ⟨z_len, z_abs, z_int⟩
  have t1 : T1 mg K := { t0 with b_all := z_all, b_isinstance := z_isinstance, b_bool := z_bool, b_tuple := z_tuple, b_list := z_list, b_range := z_range, k_ib := kib }
  have ftake : FnAt l.prog w K mg base "_law_take" 1 ["_law_purse_here", "_law_many"] spTake := ⟨⟨_, _, ok_take F__law_take, m__law_take, k15, b__law_take⟩⟩
  have tcl : TCl mg ⟨C_Unlike, C_NoRounds, C_Apart, C_NoMove, C_NotLeast, C_NotGreat, C_NoTree, C_NoCars, C_NoChain, C_NoBound, C_NoText, C_NoName, C_StarError⟩ := ⟨mc_Unlike, mc_NoRounds, mc_Apart, mc_NoMove, mc_NotLeast, mc_NotGreat, mc_NoTree, mc_NoCars, mc_NoChain, mc_NoBound, mc_NoText, mc_NoName, mc_StarError, z_isinstance, z_ValueError⟩
  have al : Alone K ⟨C_Unlike, C_NoRounds, C_Apart, C_NoMove, C_NotLeast, C_NotGreat, C_NoTree, C_NoCars, C_NoChain, C_NoBound, C_NoText, C_NoName, C_StarError⟩ C_NoText :=
    ⟨ei_NoText, kx_NoText_StarError, kv_NoText, _, _, _, _, _, _, _, _, _, _, _, _, kx_NoText_Unlike, kx_NoText_NoRounds, kx_NoText_Apart, kx_NoText_NoMove, kx_NoText_NotLeast, kx_NoText_NotGreat, kx_NoText_NoTree, kx_NoText_NoCars, kx_NoText_NoChain, kx_NoText_NoBound, kx_NoText_NoText, kx_NoText_NoName, rfl⟩
  have tb : TB l.prog w K mg base := { t1 with f_is_whole := ⟨⟨_, _, ok_iw F_is_whole t1, m_is_whole, k0, b_is_whole⟩⟩ }
  have tcx : TCx l.prog w K mg base C_NoRounds := { t1 with f_is_between := ⟨⟨_, _, ok_bt F_is_between tb, m_is_between, k1, b_is_between⟩⟩, c_NoRounds := mc_NoRounds, x_NoRounds := xc_NoRounds }
  have tmx : TMx l.prog w K mg base C_NoRounds := { t1 with b_enumerate := z_enumerate, f_plain := ⟨⟨_, _, ok_plain F_plain t1, m_plain, k2, b_plain⟩⟩, f_check_rounds := ⟨⟨_, _, ok_checkX F_check_rounds tcx, m_check_rounds, k5, b_check_rounds⟩⟩ }
  have tr0 : TR0 l.prog w K mg base := { t1 with b_min := z_min, f_round_from := ⟨⟨_, _, ok_rf F_round_from, m_round_from, k3, b_round_from⟩⟩ }
  have ttx : TTx mg K (.int 9 tk_MOST_FIGURES) := { t1 with b_str := z_str, g_MOST_FIGURES := mg_MOST_FIGURES, r_MOST_FIGURES := ⟨_, rfl⟩ }
  have ttn : TTxN mg K (.int 9 tk_MOST_FIGURES) C_NoText := { ttx with c_NoText := mc_NoText, x_NoText := xc_NoText }
  have trt : TRtX l.prog w K mg base C_NoText := { t1 with f_read_number := ⟨⟨_, _, ok_numX F_read_number ttn, m_read_number, k10, b_read_number⟩⟩ }
  have tma : TMaX mg K (.int 12 tk_MOST_THINGS) C_NoText := { t1 with b_sum := z_sum, g_MOST_THINGS := mg_MOST_THINGS, r_MOST_THINGS := ⟨_, rfl⟩, c_NoText := mc_NoText, x_NoText := xc_NoText }
  have tso : TSo l.prog w K mg base := { t1 with b_str := z_str, f_show_things := ⟨⟨_, _, ok_showth F_show_things ttx, m_show_things, k7, b_show_things⟩⟩, f_rounds := ⟨⟨_, _, ok_rounds F_rounds tr0, m_rounds, k4, b_rounds⟩⟩ }
  have tro : TRoX l.prog w K mg base C_NoText C_NoRounds := { t1 with
    f_check_text := ⟨⟨_, _, ok_chkX F_check_text ttn, m_check_text, k9, b_check_text⟩⟩
    f_read_things := ⟨⟨_, _, ok_readthX F_read_things trt, m_read_things, k11, b_read_things⟩⟩
    f_many_things := ⟨⟨_, _, ok_manyX F_many_things tma, m_many_things, k12, b_many_things⟩⟩
    f_made := ⟨⟨_, _, ok_madeX F_made tmx, m_made, k6, b_made⟩⟩
    f_show_order := ⟨⟨_, _, ok_showord F_show_order tso, m_show_order, k8, b_show_order⟩⟩
    c_NoText := mc_NoText
    x_NoText := xc_NoText
    n_NoText := ⟨xc_NoText, ei_NoText, em_NoText_NoText.ty, kpc⟩
    c_NoRounds := mc_NoRounds
    em := em_NoRounds_NoRounds }
  have fro : FnAt l.prog w K mg base "_law_rounds" 1 ["_law_order_here"] spRounds := ⟨⟨_, _, ok_lrounds F__law_rounds t1, m__law_rounds, k17, b__law_rounds⟩⟩
  have to : TO l.prog w K mg base := { t1 with f__law_take := ftake }
  have tto : TTo71 l.prog w K mg base ⟨C_Unlike, C_NoRounds, C_Apart, C_NoMove, C_NotLeast, C_NotGreat, C_NoTree, C_NoCars, C_NoChain, C_NoBound, C_NoText, C_NoName, C_StarError⟩ := { t1 with
    c_NoText := mc_NoText
    c_StarError := mc_StarError
    f_read_order := ⟨⟨_, _, ok_readordX F_read_order tro, m_read_order, k13, b_read_order⟩⟩
    f__law_alone := ⟨⟨_, _, ok_alone F__law_alone tcl, m__law_alone, k19, b__law_alone⟩⟩
    al := al
    e1 := em_NoText_NoText }
  have tlx : TLtx1 mg K := { t1 with b_str := z_str }
  have flx : FnAt l.prog w K mg base "_law_text" 1 ["_law_lists"] spLtx1 := ⟨⟨_, _, ok_ltx1 F__law_text tlx, m__law_text, k20, b__law_text⟩⟩
  have tot : TOt71 l.prog w K mg base := { t1 with f__law_take := ftake, f__law_rounds := fro, f__law_text := flx }
  have tsp : TSpT l.prog w K mg base := { t1 with f__law_take := ftake }
  have trd : TRd71 l.prog w K mg base := { t1 with b_str := z_str, b_sorted := z_sorted, b_min := z_min }
  have tl : TL l.prog w K mg base := { t1 with
    b_min := z_min
    b_max := z_max
    f__law_take := ftake
    f__law_purse := ⟨⟨_, _, ok_purse F__law_purse t0, m__law_purse, k14, b__law_purse⟩⟩
    f__law_order := ⟨⟨_, _, ok_order F__law_order to, m__law_order, k16, b__law_order⟩⟩
    f__law_rounds := fro
    f__law_text := flx
    f__law_other := ⟨⟨_, _, ok_ot71 F__law_other tot, m__law_other, k21, b__law_other⟩⟩
    f__law_spoilt := ⟨⟨_, _, ok_spT F__law_spoilt tsp, m__law_spoilt, k18, b__law_spoilt⟩⟩
    f__law_told := ⟨⟨_, _, ok_to71 F__law_told tto, m__law_told, k23, b__law_told⟩⟩
    f__law_read := ⟨⟨_, _, ok_rd71 F__law_read trd, m__law_read, k22, b__law_read⟩⟩ }
  exact ok_law F_law tl
theorem walk {l : PySem.W.OpenLaw} {q : Program} {loose : List Str} {XP : (Str → Option Value) → Heap → Prop} {YP : World → Heap → Prop} {d : DefRec} {K : Params → PySem.W.Frag} (hn : l.most = some 63) (hdf : d.params.defaults = [])
    (hY : ∀ (w : World) (h : Heap), YP w h → (K w.params).In h)
    (F : ∀ (w : World) (mg : Str → Option Value) (fa : Addr) (h : Heap), (K w.params).In h → h.Ns mainGlobals mg → mg d.name = some (.ref fa) →
      ∃ fd : FuncData, (∀ (s : Shared) (u : Value), BindsTo s fd ⟨[u], []⟩ [("_law_script", u)]) ∧ ∀ base : Heap, (K w.params).In base → base.Ns mainGlobals mg → FnOk l.prog w (K w.params) mg base CX0 7 fa fd ["_law_script"] (spLaw (K w.params))) :
    PySem.W.WalkO q loose XP YP l.row.toRowW d [] (fun f vs => PySem.call f vs) :=
  L2.walk_of (n := 63) (k := 7) (x := "_law_script") (CX := fun _ => CX0) (sp := fun w => spLaw (K w.params)) hn (by decide) hdf ⟨rfl, rfl, by decide, by decide⟩ hY F (fun _ _ a ns hl _ hS => ⟨a, ns, rfl, hS, hl, fun _ => rfl⟩) fun _ _ _ _ _ z => z
end Sw
def PySem.W.Fast.tw592870825566655172 : Nat := 0
def PySem.W.Fast.tw4961275797326727636 : Nat := 0
def PySem.W.Fast.tw13860758653793362166 : Nat := 0
def PySem.W.Fast.tw12811803182576901281 : Nat := 0
def PySem.W.Fast.tw6053682715103981855 : Nat := 0
def PySem.W.Fast.tw5204660785521767679 : Nat := 0
def PySem.W.Fast.tw1222819518655817751 : Nat := 0
def PySem.W.Fast.tw5987748979266912416 : Nat := 0
def PySem.W.Fast.tw17294649766242702270 : Nat := 0
def PySem.W.Fast.tw599109410622528229 : Nat := 0
def PySem.W.Fast.tw17136564936836327100 : Nat := 0
def PySem.W.Fast.tw14528380151794870348 : Nat := 0
def PySem.W.Fast.tw8176666838301862715 : Nat := 0
def PySem.W.Fast.tw403387284583963857 : Nat := 0
def PySem.W.Fast.tw11987683020789008878 : Nat := 0
def PySem.W.Fast.tw11451030971374290714 : Nat := 0
def PySem.W.Fast.tw1138839311157147522 : Nat := 0
def PySem.W.Fast.tw2427736959274185599 : Nat := 0
def PySem.W.Fast.tw3976303803548520456 : Nat := 0
def PySem.W.Fast.tw17860667781341141815 : Nat := 0
def PySem.W.Fast.tw11900559060808512957 : Nat := 0
def PySem.W.Fast.tw5839398750376331892 : Nat := 0
def PySem.W.Fast.tw11481602642748288805 : Nat := 0
def PySem.W.Fast.tw15581961339768601340 : Nat := 0
def PySem.W.Fast.tw1757876871293762050 : Nat := 0
def PySem.W.Fast.tw4941030221760772810 : Nat := 0
def PySem.W.Fast.tw7989788209235370641 : Nat := 0
def PySem.W.Fast.tw4068812008793548003 : Nat := 0
def PySem.W.Fast.tw16569716350090132681 : Nat := 0
def PySem.W.Fast.tw7157716735059015335 : Nat := 0
def PySem.W.Fast.tw9894283167207584863 : Nat := 0
def PySem.W.Fast.tw15023933600184587243 : Nat := 0
def PySem.W.Fast.tw820525729349190372 : Nat := 0
def PySem.W.Fast.tw13566082554589975675 : Nat := 0
def PySem.W.Fast.tw17052075271505073962 : Nat := 0
def PySem.W.Fast.tw9452185646832176910 : Nat := 0
def PySem.W.Fast.tw11210579759284749198 : Nat := 0
def PySem.W.Fast.tw4647455984349996899 : Nat := 0
open PySem PySem.W PyProof.Rows
set_option maxRecDepth 100000 in
set_option maxHeartbeats 0 in
theorem PySem.Challenge.cw_swapstars_k71_no_orders_written_holds : PySem.Challenge.rw_swapstars_k71_no_orders_written.Holds := by
  w_on; o_law; k_head; (case hw => w_witness2)
  k_fill
  refine Sw.walk (l := PySem.Challenge.rw_swapstars_k71_no_orders_written) rfl rfl (fun w h Y => PySem.W.kIn_of Y) ?F
  case F =>
    intro w mg fa h KX G hmg
    refine' Sw.all_mk KX G hmg ?a0 ?l0 ?c0 ?k0 ?a1 ?l1 ?c1 ?k1 ?a2 ?l2 ?c2 ?k2 ?a3 ?l3 ?c3 ?k3 ?a4 ?l4 ?c4 ?k4 ?a5 ?l5 ?c5 ?k5 ?a6 ?l6 ?c6 ?k6 ?a7 ?l7 ?c7 ?k7 ?a8 ?l8 ?c8 ?k8 ?a9 ?l9 ?c9 ?k9 ?a10 ?l10 ?c10 ?k10 ?a11 ?l11 ?c11 ?k11 ?a12 ?l12 ?c12 ?k12 ?a13 ?l13 ?c13 ?k13 ?a14 ?l14 ?c14 ?k14 ?a15 ?l15 ?c15 ?k15 ?a16 ?l16 ?c16 ?k16 ?a17 ?l17 ?c17 ?k17 ?a18 ?l18 ?c18 ?k18 ?a19 ?l19 ?c19 ?k19 ?a20 ?l20 ?c20 ?k20 ?a21 ?l21 ?c21 ?k21 ?a22 ?l22 ?c22 ?k22 ?a23 ?l23 ?c23 ?k23 ?a24 ?l24 ?c24 ?k24 ?z_len ?z_abs ?z_int ?z_all ?z_isinstance ?z_bool ?z_tuple ?z_list ?z_range ?z_min ?z_max ?z_sorted ?z_sum ?z_enumerate ?z_str ?z_ValueError ?ac_Unlike ?ac_NoRounds ?ac_Apart ?ac_NoMove ?ac_NotLeast ?ac_NotGreat ?ac_NoTree ?ac_NoCars ?ac_NoChain ?ac_NoBound ?ac_NoText ?ac_NoName ?ac_StarError ?xc_NoText ?ei_NoText ?kv_NoText ?kx_NoText_Unlike ?kx_NoText_NoRounds ?kx_NoText_Apart ?kx_NoText_NoMove ?kx_NoText_NotLeast ?kx_NoText_NotGreat ?kx_NoText_NoTree ?kx_NoText_NoCars ?kx_NoText_NoChain ?kx_NoText_NoBound ?kx_NoText_NoText ?em_NoText_NoText ?kx_NoText_NoName ?kx_NoText_StarError ?xc_NoRounds ?ei_NoRounds ?kv_NoRounds ?kx_NoRounds_Unlike ?kx_NoRounds_NoRounds ?em_NoRounds_NoRounds ?kx_NoRounds_Apart ?kx_NoRounds_NoMove ?kx_NoRounds_NotLeast ?kx_NoRounds_NotGreat ?kx_NoRounds_NoTree ?kx_NoRounds_NoCars ?kx_NoRounds_NoChain ?kx_NoRounds_NoBound ?kx_NoRounds_NoText ?kx_NoRounds_NoName ?kx_NoRounds_StarError ?ag_MOST_THINGS ?ag_MOST_FIGURES ?kpc ?kib
    (case a0 => k_is); (case l0 => k_is); (case c0 => k_is); (case k0 => k_is)
    (case a1 => k_is); (case l1 => k_is); (case c1 => k_is); (case k1 => k_is)
    (case a2 => k_is); (case l2 => k_is); (case c2 => k_is); (case k2 => k_is)
    (case a3 => k_is); (case l3 => k_is); (case c3 => k_is); (case k3 => k_is)
    (case a4 => k_is); (case l4 => k_is); (case c4 => k_is); (case k4 => k_is)
    (case a5 => k_is); (case l5 => k_is); (case c5 => k_is); (case k5 => k_is)
    (case a6 => k_is); (case l6 => k_is); (case c6 => k_is); (case k6 => k_is)
    (case a7 => k_is); (case l7 => k_is); (case c7 => k_is); (case k7 => k_is)
    (case a8 => k_is); (case l8 => k_is); (case c8 => k_is); (case k8 => k_is)
    (case a9 => k_is); (case l9 => k_is); (case c9 => k_is); (case k9 => k_is)
    (case a10 => k_is); (case l10 => k_is); (case c10 => k_is); (case k10 => k_is)
    (case a11 => k_is); (case l11 => k_is); (case c11 => k_is); (case k11 => k_is)
    (case a12 => k_is); (case l12 => k_is); (case c12 => k_is); (case k12 => k_is)
    (case a13 => k_is); (case l13 => k_is); (case c13 => k_is); (case k13 => k_is)
    (case a14 => k_is); (case l14 => k_is); (case c14 => k_is); (case k14 => k_is)
    (case a15 => k_is); (case l15 => k_is); (case c15 => k_is); (case k15 => k_is)
    (case a16 => k_is); (case l16 => k_is); (case c16 => k_is); (case k16 => k_is)
    (case a17 => k_is); (case l17 => k_is); (case c17 => k_is); (case k17 => k_is)
    (case a18 => k_is); (case l18 => k_is); (case c18 => k_is); (case k18 => k_is)
    (case a19 => k_is); (case l19 => k_is); (case c19 => k_is); (case k19 => k_is)
    (case a20 => k_is); (case l20 => k_is); (case c20 => k_is); (case k20 => k_is)
    (case a21 => k_is); (case l21 => k_is); (case c21 => k_is); (case k21 => k_is)
    (case a22 => k_is); (case l22 => k_is); (case c22 => k_is); (case k22 => k_is)
    (case a23 => k_is); (case l23 => k_is); (case c23 => k_is); (case k23 => k_is)
    (case a24 => k_is); (case l24 => k_is); (case c24 => k_is); (case k24 => k_is)
    (case z_len => k_is); (case z_abs => k_is); (case z_int => k_is); (case z_all => k_is); (case z_isinstance => k_is); (case z_bool => k_is); (case z_tuple => k_is); (case z_list => k_is); (case z_range => k_is); (case z_min => k_is); (case z_max => k_is); (case z_sorted => k_is); (case z_sum => k_is); (case z_enumerate => k_is); (case z_str => k_is); (case z_ValueError => k_is)
    (case ac_Unlike => k_is)
    (case ac_NoRounds => k_is)
    (case ac_Apart => k_is)
    (case ac_NoMove => k_is)
    (case ac_NotLeast => k_is)
    (case ac_NotGreat => k_is)
    (case ac_NoTree => k_is)
    (case ac_NoCars => k_is)
    (case ac_NoChain => k_is)
    (case ac_NoBound => k_is)
    (case ac_NoText => k_is)
    (case ac_NoName => k_is)
    (case ac_StarError => k_is)
    (case xc_NoText => kernel_rfl)
    (case ei_NoText => exact ⟨by k_is, by k_is, by k_is, by k_is, by k_is, by k_is, by k_is, by kernel_rfl⟩)
    (case kv_NoText => kit_is)
    (case kx_NoText_Unlike => kit_is)
    (case kx_NoText_NoRounds => kit_is)
    (case kx_NoText_Apart => kit_is)
    (case kx_NoText_NoMove => kit_is)
    (case kx_NoText_NotLeast => kit_is)
    (case kx_NoText_NotGreat => kit_is)
    (case kx_NoText_NoTree => kit_is)
    (case kx_NoText_NoCars => kit_is)
    (case kx_NoText_NoChain => kit_is)
    (case kx_NoText_NoBound => kit_is)
    (case kx_NoText_NoText => kit_is)
    (case em_NoText_NoText => exact ⟨by k_is, by kernel_rfl, by k_is, by k_is⟩)
    (case kx_NoText_NoName => kit_is)
    (case kx_NoText_StarError => kit_is)
    (case xc_NoRounds => kernel_rfl)
    (case ei_NoRounds => exact ⟨by k_is, by k_is, by k_is, by k_is, by k_is, by k_is, by k_is, by kernel_rfl⟩)
    (case kv_NoRounds => kit_is)
    (case kx_NoRounds_Unlike => kit_is)
    (case kx_NoRounds_NoRounds => kit_is)
    (case em_NoRounds_NoRounds => exact ⟨by k_is, by kernel_rfl, by k_is, by k_is⟩)
    (case kx_NoRounds_Apart => kit_is)
    (case kx_NoRounds_NoMove => kit_is)
    (case kx_NoRounds_NotLeast => kit_is)
    (case kx_NoRounds_NotGreat => kit_is)
    (case kx_NoRounds_NoTree => kit_is)
    (case kx_NoRounds_NoCars => kit_is)
    (case kx_NoRounds_NoChain => kit_is)
    (case kx_NoRounds_NoBound => kit_is)
    (case kx_NoRounds_NoText => kit_is)
    (case kx_NoRounds_NoName => kit_is)
    (case kx_NoRounds_StarError => kit_is)
    (case ag_MOST_THINGS => k_is)
    (case ag_MOST_FIGURES => k_is)
    (case kpc => k_is)
    (case kib => exact L2.kit_int_bool _)
