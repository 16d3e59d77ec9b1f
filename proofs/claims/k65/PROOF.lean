import PyProof.Rows.All
import Wide.All
import OpenK.AllK
import Wide.FinOn
import Lean
import PyProof.EqAt
import PyProof.EqKinds
import PyProof.TupleCall
import KE.KIntText
import PyProof.StrBlockH
import PyProof.StrLawsTight
import PyProof.StrLawsReplace
import PyProof.StrLawsJoin
import PyProof.StrLawsNeg
import KE.LcSums
import KE.KSortAsk
import KE.KItemsList
import KE.KRevIter
import PySem.Challenge.RW_swapstars_k65_papers_of_walks
set_option Elab.async false
set_option linter.all false
set_option maxRecDepth 100000
set_option maxHeartbeats 8000000
namespace L2
open PySem PySem.Spec PyProof.Rows
abbrev Key := Sum Int Str
def keyIs : Key → Value → Bool
  | .inl k, v => Value.isInt k v
  | .inr x, v => Value.isStrOf x v
def keyH (w : World) : Key → Int
  | .inl k => hashInt k
  | .inr x => hashStr w x
theorem keyIs_shape : ∀ {k : Key} {v : Value}, keyIs k v = true → (∃ i t, k = Sum.inl i ∧ v = Value.int i t) ∨ (∃ x t, k = Sum.inr x ∧ v = Value.str x t)
  | .inl i, v, h => by
    obtain ⟨t, e⟩ := Value.isInt_shape (k := i) (v := v) h
    exact .inl ⟨i, t, rfl, e⟩
  | .inr x, v, h => by
    obtain ⟨t, e⟩ := Value.isStrOf_shape (x := x) (v := v) h
    exact .inr ⟨x, t, rfl, e⟩
theorem keyIs_int (i : Int) (t : Tok) : keyIs (.inl i) (.int i t) = true := by simp [keyIs, Value.isInt]
theorem keyIs_str (x : Str) (t : Tok) : keyIs (.inr x) (.str x t) = true := by simp [keyIs, Value.isStrOf]
theorem key_ll (a b : Int) : decide ((Sum.inl a : Key) = Sum.inl b) = (a == b) := by
  by_cases e : a = b
  · subst e; simp
  · have h : ¬ (Sum.inl a : Key) = Sum.inl b := fun q => e (Sum.inl.inj q)
    rw [decide_eq_false h]
    exact (beq_eq_false_iff_ne.mpr e).symm
theorem key_rr (a b : Str) : decide ((Sum.inr a : Key) = Sum.inr b) = decide (a = b) := by
  by_cases e : a = b
  · subst e; simp
  · have h : ¬ (Sum.inr a : Key) = Sum.inr b := fun q => e (Sum.inr.inj q)
    rw [decide_eq_false h, decide_eq_false e]
theorem key_lr (a : Int) (b : Str) : decide ((Sum.inl a : Key) = Sum.inr b) = false := decide_eq_false (fun q => nomatch q)
theorem key_rl (a : Str) (b : Int) : decide ((Sum.inr a : Key) = Sum.inl b) = false := decide_eq_false (fun q => nomatch q)
def mixKind (prog : Program) (w : World) : PySem.KeyKind prog w Key where
  is := keyIs
  hash := keyH w
  inj := fun v a b ha hb => by
    rcases keyIs_shape ha with ⟨i, t, rfl, rfl⟩ | ⟨x, t, rfl, rfl⟩
    · rcases keyIs_shape hb with ⟨j, u, rfl, e⟩ | ⟨y, u, rfl, e⟩
      · injection e with e1 _; rw [e1]
      · exact nomatch e
    · rcases keyIs_shape hb with ⟨j, u, rfl, e⟩ | ⟨y, u, rfl, e⟩
      · exact nomatch e
      · injection e with e1 _; rw [e1]
  byValue := fun k v h => by
    rcases keyIs_shape h with ⟨i, t, rfl, rfl⟩ | ⟨x, t, rfl, rfl⟩ <;> rfl
  pyHash := fun hv h => by
    rcases keyIs_shape hv with ⟨i, t, rfl, rfl⟩ | ⟨x, t, rfl, rfl⟩
    · exact wpAny_pyHash_int h
    · exact wpAny_pyHash_str h
  eqBool := fun hu hv h => by
    rcases keyIs_shape hu with ⟨i, t, rfl, rfl⟩ | ⟨x, t, rfl, rfl⟩
    · rcases keyIs_shape hv with ⟨j, u, rfl, rfl⟩ | ⟨y, u, rfl, rfl⟩
      · rw [key_ll] at h; exact wpAny_eqBool_int h
      · rw [key_lr] at h; exact SeqAt.EqAt.int_str i t y u _ _ _ _ h
    · rcases keyIs_shape hv with ⟨j, u, rfl, rfl⟩ | ⟨y, u, rfl, rfl⟩
      · rw [key_rl] at h; exact SeqAt.EqAt.str_int x t j u _ _ _ _ h
      · rw [key_rr] at h; exact wpAny_eqBool_str h
  «strs» := fun k x t v h => by
    rcases keyIs_shape h with ⟨i, u, rfl, e⟩ | ⟨y, u, rfl, e⟩
    · exact nomatch e
    · injection e with e1 _
      subst e1
      cases v <;> rfl
theorem mixKind_int (prog : Program) (w : World) (i : Int) (t : Tok) : (mixKind prog w).is (.inl i) (.int i t) = true := keyIs_int i t
theorem mixKind_str (prog : Program) (w : World) (x : Str) (t : Tok) : (mixKind prog w).is (.inr x) (.str x t) = true := keyIs_str x t
end L2
namespace L2
open PySem PySem.Spec PyProof.Rows
inductive V where
  | non | bl (b : Bool) | int (i : Int) | str (x : Str) | byt (b : Array UInt8) | flt (b : UInt64) | ref (a : Addr) | ty (n : String)
  deriving DecidableEq
def RelV : V → Value → Prop
  | .non, u => u = Value.none
  | .bl b, u => u = Value.bool b
  | .int i, u => ∃ t, u = Value.int i t
  | .str x, u => ∃ t, u = Value.str x t
  | .byt b, u => ∃ t, u = Value.bytes b t
  | .flt b, u => ∃ t, u = Value.float b t
  | .ref a, u => u = Value.ref a
  | .ty n, u => u = Value.type n
abbrev Vals : List V → List Value → Prop := Paired RelV
theorem Vals.length {xs : List V} {us : List Value} (r : Vals xs us) : xs.length = us.length := Paired.length r
theorem Vals.get : ∀ {xs : List V} {us : List Value} {i : Nat} {x : V}, Vals xs us → xs[i]? = some x → ∃ u, us[i]? = some u ∧ RelV x u
  | _, _, _, _, .nil, e => by simp at e
  | _, _, 0, _, .cons r _, e => by simp at e; subst e; exact ⟨_, rfl, r⟩
  | _, _, i + 1, x, .cons _ t, e => by
    obtain ⟨u, h1, h2⟩ := Vals.get (i := i) (x := x) t (by simpa using e)
    exact ⟨u, by simpa using h1, h2⟩
theorem Vals.set {x : V} {u : Value} (r : RelV x u) : ∀ {xs : List V} {us : List Value} (i : Nat), Vals xs us → Vals (xs.set i x) (us.set i u)
  | _, _, _, .nil => .nil
  | _, _, 0, .cons _ t => .cons r t
  | _, _, i + 1, .cons q t => .cons q (Vals.set r i t)
theorem Vals.append : ∀ {xs ys : List V} {us ws : List Value}, Vals xs us → Vals ys ws → Vals (xs ++ ys) (us ++ ws)
  | _, _, _, _, .nil, s => s
  | _, _, _, _, .cons r t, s => .cons r (Vals.append t s)
theorem Vals.take : ∀ {xs : List V} {us : List Value} (n : Nat), Vals xs us → Vals (xs.take n) (us.take n)
  | _, _, 0, _ => .nil
  | _, _, _ + 1, .nil => .nil
  | _, _, n + 1, .cons r t => .cons r (Vals.take n t)
theorem Vals.drop : ∀ {xs : List V} {us : List Value} (n : Nat), Vals xs us → Vals (xs.drop n) (us.drop n)
  | _, _, 0, r => r
  | _, _, _ + 1, .nil => .nil
  | _, _, n + 1, .cons _ t => Vals.drop n t
def RelO : Option V → Option Value → Prop
  | some v, some u => RelV v u
  | none, none => True
  | _, _ => False
def KV {κ : Type} : List (κ × V) → List (κ × Value) → Prop := Paired fun (p : κ × V) (q : κ × Value) => p.1 = q.1 ∧ RelV p.2 q.2
def kV : Key → V
  | .inl i => .int i
  | .inr x => .str x
inductive HO where
  | lst (xs : List V)
  | tup (xs : List V)
  | dK (kvs : List (Key × V)) | dT (kvs : List (List Key × V))
  | set (S : Int → Bool) (n : Nat)
  | ins (C dx : Addr) (fs : List (Str × V))
  | own (x : Addr)
  | xd (fs : List (Str × V))
  | met (f x : Addr)
  | rng (lo hi : Int)
  | frz (o : Obj) (u : HO)
  | tbl (ps : Array Value)
  | ext (φ : Heap → Prop)
abbrev Hp := Addr → Option HO
def upd (H : Hp) (a : Addr) (o : HO) : Hp := fun b => if b = a then some o else H b
theorem upd_same {H : Hp} {a : Addr} {o : HO} : upd H a o a = some o := by unfold upd; rw [if_pos rfl]
theorem upd_ne {H : Hp} {a b : Addr} {o : HO} (h : b ≠ a) : upd H a o b = H b := by unfold upd; rw [if_neg h]
theorem upd_upd {H : Hp} {a : Addr} {o u : HO} : upd (upd H a o) a u = upd H a u := by
  funext b; unfold upd; split <;> rfl
theorem ne_of {H : Hp} {a b : Addr} {o u : HO} (h : H a = some o) (h' : H b = some u) (d : o ≠ u) : a ≠ b := by
  intro e; subst e; rw [h] at h'; exact d (Option.some.inj h')
theorem ne_of_none {H : Hp} {a b : Addr} {o : HO} (h : H a = some o) (h' : H b = none) : a ≠ b := by
  intro e; subst e; rw [h] at h'; cases h'
section
variable (P : Program) (w : World)
def ObjOk (H : Hp) (h : Heap) (a : Addr) : HO → Prop
  | .lst xs => xs.length ≤ sizeLine ∧ ∃ (its : List Value) (n : Nat), Vals xs its ∧ h.get? a = some { cls := .type "list", data := .seq its.toArray n }
  | .tup xs => xs.length ≤ sizeLine ∧ ∃ its : List Value, Vals xs its ∧ IsTup h a its.toArray
  | .dK kvs => kvs.length ≤ sizeLine ∧ (a == sysModules) = false ∧ ∃ vs, KV kvs vs ∧ h.DictOf (mixKind P w) a vs
  | .dT kvs => kvs.length ≤ sizeLine ∧ (a == sysModules) = false ∧ ∃ xs : List (List Key × Addr × Value),
      Paired (fun (p : List Key × V) (q : List Key × Addr × Value) => p.1 = q.1 ∧ H q.2.1 = some (.tup (p.1.map kV)) ∧ RelV p.2 q.2.2) kvs xs ∧
      ∃ o es ep, h.get? a = some o ∧ o.ExactDict ∧ o.data = .dict es ep ∧ es.toList = xs.map (entryOfKey (tupleKind (mixKind P w))) ∧ (xs.map (·.1)).Nodup
  | .set S n => h.SetOf (intKind P w) a S n
  | .ins C dx fs => H dx = some (.own a) ∧ fs.length ≤ 1000 ∧ dx ≠ a ∧ h.get? a = some (PySem.W.instObj C dx) ∧
      ∃ mA, h.Ns1 dx mA ∧ (∀ f, RelO (fs.lookup f) (mA f)) ∧ PySem.Within mA (fs.map (·.1))
  | .own _ => ∃ o, h.get? a = some o
  | .xd fs => ∃ mA, h.Ns1 a mA ∧ ∀ f, RelO (fs.lookup f) (mA f)
  | .rng lo hi => ∃ t u v, h.get? a = some { cls := .type "range", data := .fields #[.int lo t, .int hi u, .int 1 v] }
  | .frz o u => h.get? a = some o ∧ ObjOk H h a u
  | .tbl ps => h.get? a = some { cls := .none, data := .fields ps }
  | .met f x => h.get? a = some (PySem.W.methodObj (.ref f) (.ref x))
  | .ext φ => φ h ∧ (∃ o, h.get? a = some o) ∧ ∀ h1 h2 : Heap, φ h1 → (∀ o, h1.get? a = some o → h2.get? a = some o) → φ h2
def HOk (H : Hp) (h : Heap) : Prop := ∀ a o, H a = some o → ObjOk P w H h a o
end
section
variable {P : Program} {w : World} {H H' : Hp} {h h' : Heap} {a : Addr} {o : HO}
theorem ObjOk.lt (x : ObjOk P w H h a o) : a < h.objs.size := by
  cases o with
  | lst xs => obtain ⟨_, _, _, _, e⟩ := x; exact Heap.lt_size e
  | tup xs => obtain ⟨_, _, _, p⟩ := x; exact p.lt
  | dK kvs => obtain ⟨_, _, _, _, o, _, _, e, _⟩ := x; exact Heap.lt_size e
  | dT kvs => obtain ⟨_, _, _, _, o, _, _, e, _⟩ := x; exact Heap.lt_size e
  | set S n => obtain ⟨o, _, _, _, e, _⟩ := x; exact Heap.lt_size e
  | ins C dx fs => obtain ⟨_, _, _, e, _⟩ := x; exact Heap.lt_size e
  | own y => obtain ⟨_, e⟩ := x; exact Heap.lt_size e
  | xd fs => obtain ⟨_, ⟨_, _, _, e, _⟩, _⟩ := x; exact Heap.lt_size e
  | rng lo hi => obtain ⟨_, _, _, e⟩ := x; exact Heap.lt_size e
  | frz ob u => obtain ⟨e, _⟩ := x; exact Heap.lt_size e
  | tbl ps => exact Heap.lt_size (show h.get? a = some _ from x)
  | met f y => exact Heap.lt_size (show h.get? a = some _ from x)
  | ext φ => obtain ⟨_, ⟨_, e⟩, _⟩ := x; exact Heap.lt_size e
theorem Paired.mapP {α β : Type} {F G : α → β → Prop} : ∀ {l₁ : List α} {l₂ : List β}, Paired F l₁ l₂ → (∀ a b, F a b → G a b) → Paired G l₁ l₂
  | _, _, .nil, _ => .nil
  | _, _, .cons r t, f => .cons (f _ _ r) (Paired.mapP t f)
theorem ObjOk.stay (x : ObjOk P w H h a o) (k : ∀ b u, (b = a ∨ H b = some (.own a)) → h.get? b = some u → h'.get? b = some u)
    (ho : ∀ b, H b = some (.own a) → H' b = some (.own a)) (ht : ∀ b xs, H b = some (.tup xs) → H' b = some (.tup xs)) : ObjOk P w H' h' a o := by
  induction o with
  | lst xs => obtain ⟨z, its, n, r, e⟩ := x; exact ⟨z, its, n, r, k _ _ (.inl rfl) e⟩
  | tup xs => obtain ⟨z, its, r, ob, e, c⟩ := x; exact ⟨z, its, r, ob, k _ _ (.inl rfl) e, c⟩
  | dK kvs => obtain ⟨z, y, vs, r, ob, es, ep, e, c⟩ := x; exact ⟨z, y, vs, r, ob, es, ep, k _ _ (.inl rfl) e, c⟩
  | dT kvs =>
    obtain ⟨z, y, xs, r, ob, es, ep, e, c⟩ := x
    exact ⟨z, y, xs, Paired.mapP r fun p q z => ⟨z.1, ht _ _ z.2.1, z.2.2⟩, ob, es, ep, k _ _ (.inl rfl) e, c⟩
  | set S n => obtain ⟨ob, es, ep, t, e, c⟩ := x; exact ⟨ob, es, ep, t, k _ _ (.inl rfl) e, c⟩
  | ins C dx fs =>
    obtain ⟨d, z, ne, e, mA, ⟨od, es, ep, e2, c⟩, r⟩ := x
    exact ⟨ho _ d, z, ne, k _ _ (.inl rfl) e, mA, ⟨od, es, ep, k _ _ (.inr d) e2, c⟩, r⟩
  | own y => obtain ⟨ob, e⟩ := x; exact ⟨ob, k _ _ (.inl rfl) e⟩
  | xd fs => obtain ⟨mA, ⟨od, es, ep, e, c⟩, r⟩ := x; exact ⟨mA, ⟨od, es, ep, k _ _ (.inl rfl) e, c⟩, r⟩
  | rng lo hi => obtain ⟨t, u, v, e⟩ := x; exact ⟨t, u, v, k _ _ (.inl rfl) e⟩
  | frz ob u ih => obtain ⟨e, q⟩ := x; exact ⟨k _ _ (.inl rfl) e, ih q⟩
  | tbl ps =>
    have e : h.get? a = some { cls := .none, data := .fields ps } := x
    show h'.get? a = some { cls := .none, data := .fields ps }
    exact k a _ (.inl rfl) e
  | met f y =>
    have e : h.get? a = some (PySem.W.methodObj (.ref f) (.ref y)) := x
    show h'.get? a = some (PySem.W.methodObj (.ref f) (.ref y))
    exact k a _ (.inl rfl) e
  | ext φ => obtain ⟨p, ⟨o, e⟩, st⟩ := x; exact ⟨st _ _ p fun o q => k _ _ (.inl rfl) q, ⟨o, k _ _ (.inl rfl) e⟩, st⟩
theorem HOk.lt (x : HOk P w H h) (e : H a = some o) : a < h.objs.size := (x a o e).lt
theorem HOk.fresh (x : HOk P w H h) (e : h.objs.size ≤ a) : H a = none := by
  cases q : H a with
  | none => rfl
  | some u => exact absurd (Nat.lt_of_lt_of_le (x.lt q) e) (Nat.lt_irrefl _)
theorem HOk.kept (x : HOk P w H h) (k : ∀ b u, h.get? b = some u → h'.get? b = some u) : HOk P w H h' := fun a o e =>
  (x a o e).stay (fun b u _ q => k b u q) (fun _ q => q) fun _ _ q => q
theorem HOk.laid (x : HOk P w H h) (k : ∀ b u, h.get? b = some u → h'.get? b = some u) (hp : h.objs.size ≤ a) (new : ObjOk P w (upd H a o) h' a o) : HOk P w (upd H a o) h' := fun b u e => by
  have hn := x.fresh hp
  by_cases hb : b = a
  · subst hb; rw [upd_same] at e; cases e; exact new
  · rw [upd_ne hb] at e
    exact (x b u e).stay (fun c v _ q => k c v q) (fun c q => by rw [upd_ne (ne_of_none q hn)]; exact q) fun c xs q => by rw [upd_ne (ne_of_none q hn)]; exact q
end
def Rd (H : Hp) (a : Addr) (u : HO) : Prop := H a = some u ∨ ∃ o, H a = some (.frz o u)
theorem Rd.ok {P : Program} {w : World} {H : Hp} {h : Heap} {a : Addr} {u : HO} (r : Rd H a u) (x : HOk P w H h) : ObjOk P w H h a u := by
  rcases r with r | ⟨o, r⟩
  · exact x a u r
  · obtain ⟨_, q⟩ := x a _ r
    exact q
def Mut : Option HO → Prop
  | some (.lst _) => True
  | some (.dK _) => True
  | some (.dT _) => True
  | some (.set _ _) => True
  | some (.ins _ _ _) => True
  | some (.ext _) => True
  | _ => False
section
variable {P : Program} {w : World} {H : Hp} {h h' : Heap} {x e : Addr} {o' : HO}
theorem HOk.write (ok : HOk P w H h) (mu : Mut (H x)) (he : e = x ∨ H e = some (.own x)) (k : ∀ b u, b ≠ e → h.get? b = some u → h'.get? b = some u) (heo : ∃ u, h'.get? e = some u)
    (new : ObjOk P w (upd H x o') h' x o') : HOk P w (upd H x o') h' := fun b u q => by
  have nown : ∀ c y, H c = some (.own y) → c ≠ x := fun c y r z => by subst z; rw [r] at mu; exact mu
  have ntup : ∀ c xs, H c = some (.tup xs) → c ≠ x := fun c xs r z => by subst z; rw [r] at mu; exact mu
  by_cases hb : b = x
  · subst hb; rw [upd_same] at q; cases q; exact new
  · rw [upd_ne hb] at q
    by_cases hbe : b = e
    · have q' : H b = some (.own x) := by
        rcases he with z | z
        · exact absurd (hbe.trans z) hb
        · rw [hbe]; exact z
      rw [q] at q'; cases q'
      obtain ⟨v, hv⟩ := heo
      exact ⟨v, by rw [hbe]; exact hv⟩
    · refine (ok b u q).stay (fun c v hc r => k c v ?_ r) (fun c r => by rw [upd_ne (nown c b r)]; exact r) fun c xs r => by rw [upd_ne (ntup c xs r)]; exact r
      rcases hc with rfl | hc
      · exact hbe
      · rintro rfl
        rcases he with z | z
        · exact nown c b hc z
        · rw [hc] at z; cases z; exact hb rfl
end
structure Un (fs ex : List Addr) (H H' : Hp) (h h' : Heap) : Prop where
  keep : ∀ b o, h.get? b = some o → H b = none → b ∉ fs → b ∉ ex → h'.get? b = some o
  slot : ∀ b o, h.get? b = some o → H b = none → b ∈ fs → b ∉ ex → ∃ sl, h'.get? b = some { o with slots := sl }
  free : ∀ b o, h.get? b = some o → H b = none → b ∉ ex → H' b = none
  there : ∀ b o, h.get? b = some o → b ∉ ex → ∃ o', h'.get? b = some o'
  tups : ∀ b xs, H b = some (.tup xs) → H' b = some (.tup xs)
  frzs : ∀ b o u, H b = some (.frz o u) → H' b = some (.frz o u)
  tbls : ∀ b ps, H b = some (.tbl ps) → ∃ more, H' b = some (.tbl (ps ++ more))
section
variable {fs fs' ex ex' : List Addr} {H H1 H2 : Hp} {h h1 h2 h' : Heap} {a x e : Addr} {o : HO}
theorem Un.any (u : Un fs ex H H1 h h1) {b : Addr} {ob : Obj} (q : h.get? b = some ob) (n : H b = none) (hx : b ∉ ex) : ∃ sl, h1.get? b = some { ob with slots := sl } := by
  by_cases hb : b ∈ fs
  · exact u.slot b ob q n hb hx
  · exact ⟨ob.slots, u.keep b ob q n hb hx⟩
theorem Un.kept (k : ∀ b u, h.get? b = some u → h'.get? b = some u) : Un fs ex H H h h' :=
  ⟨fun b ob q _ _ _ => k b ob q, fun b ob q _ _ _ => ⟨ob.slots, k b ob q⟩, fun _ _ _ n _ => n, fun b ob q _ => ⟨ob, k b ob q⟩, fun _ _ q => q, fun _ _ _ q => q, fun _ ps q => ⟨#[], by rw [q]; simp⟩⟩
theorem Un.refl : Un fs ex H H h h := Un.kept fun _ _ q => q
theorem Un.laid (k : ∀ b u, h.get? b = some u → h'.get? b = some u) (hp : h.objs.size ≤ a) (hn : H a = none) : Un fs ex H (upd H a o) h h' where
  keep := fun b u q _ _ _ => k b u q
  slot := fun b u q _ _ _ => ⟨u.slots, k b u q⟩
  free := fun b u q n _ => by rw [upd_ne (Nat.ne_of_lt (Nat.lt_of_lt_of_le (Heap.lt_size q) hp))]; exact n
  there := fun b u q _ => ⟨u, k b u q⟩
  tups := fun b xs q => by rw [upd_ne (ne_of_none q hn)]; exact q
  frzs := fun b u xs q => by rw [upd_ne (ne_of_none q hn)]; exact q
  tbls := fun b ps q => ⟨#[], by rw [upd_ne (ne_of_none q hn), q]; simp⟩
theorem Un.write (mu : Mut (H x)) (he : e = x ∨ H e = some (.own x)) (k : ∀ b u, b ≠ e → h.get? b = some u → h'.get? b = some u) (heo : ∃ u, h'.get? e = some u) : Un fs ex H (upd H x o) h h' := by
  have hx : ∀ b, H b = none → b ≠ x := fun b n z => by subst z; rw [n] at mu; exact mu
  have hb : ∀ b, H b = none → b ≠ e := fun b n z => by
    subst z
    rcases he with r | r
    · exact hx b n r
    · rw [n] at r; cases r
  have hm : ∀ b u, H b = some u → ¬ Mut (some u) → b ≠ x := fun b u q nm z => by subst z; rw [q] at mu; exact nm mu
  refine ⟨fun b u q n _ _ => k b u (hb b n) q, fun b u q n _ _ => ⟨u.slots, k b u (hb b n) q⟩, fun b u q n _ => by rw [upd_ne (hx b n)]; exact n, fun b u q _ => ?_,
    fun b xs q => by rw [upd_ne (hm b _ q fun z => z)]; exact q, fun b u xs q => by rw [upd_ne (hm b _ q fun z => z)]; exact q, fun b ps q => ⟨#[], by rw [upd_ne (hm b _ q fun z => z), q]; simp⟩⟩
  by_cases hbe : b = e
  · subst hbe; exact heo
  · exact ⟨u, k b u hbe q⟩
end
def trk (h : Heap) (H : Hp) : List Addr := (List.range h.objs.size).filter fun a => (H a).isSome
def hidT (h : Heap) (H : Hp) : Heap := PySem.W.hideAll h (trk h H)
theorem hidT_size (h : Heap) (H : Hp) : (hidT h H).objs.size = h.objs.size := PySem.W.hideAll_size _ _
theorem hidT_get {h : Heap} {H : Hp} {b : Addr} {o : Obj} (e : h.get? b = some o) (n : H b = none) : (hidT h H).get? b = some o :=
  PySem.W.hideAll_get _ e fun hm => by
    have q : (H b).isSome = true := (List.mem_filter.mp hm).2
    rw [n] at q; simp at q
theorem of_hidT {h : Heap} {H : Hp} {b : Addr} {o : Obj} (e : (hidT h H).get? b = some o) : h.get? b = some o ∧ H b = none := by
  have e' : h.get? b = some o := PySem.W.of_hideAll (trk h H) e
  refine ⟨e', ?_⟩
  cases q : H b with
  | none => rfl
  | some x =>
    have hm : b ∈ trk h H := List.mem_filter.mpr ⟨List.mem_range.mpr (Heap.lt_size e'), by simp [q]⟩
    have z : (hidT h H).get? b = none := PySem.W.hideAll_none (trk h H) hm
    rw [z] at e; cases e
def allNews (g h : Heap) (L : Addr) : List (Addr × Obj) := (List.range h.objs.size).filterMap fun a => if a = L ∨ (g.get? a).isSome = true then none else (h.get? a).map fun o => (a, o)
def rest (g h : Heap) (L d : Addr) : List (Addr × Obj) := (allNews g h L).filter fun p => decide (p.1 ≠ d)
end L2
namespace L2
open PySem PySem.Spec PyProof.Rows
structure Mod (K : PySem.W.Frag) (mg : Str → Option Value) (base : Heap) : Prop where
  kin : K.In base
  glob : base.Ns mainGlobals mg
  blt : ∃ mb, base.Ns builtinsNs mb ∧ ∀ x : Str, x ≠ "__name__" → mb x = bootBuiltins x
  nolimit : base.NoLimit
structure Cx where
  prog : Program
  w : World
  K : PySem.W.Frag
  mg : Str → Option Value
  base : Heap
  A : Around
  N : List Str
  s₀ : Shared
  H₀ : Hp
  env : Env
  outer : List Env
  stack : List Env
  ex : List Addr
  fn : Str → Bool
  calm : Bool
  pn : List (Addr × Obj)
  xe : Value → Shared → Prop
def frs (l : List Env) : List Addr := l.filterMap (·.frame)
abbrev Cx.fs (X : Cx) : List Addr := frs X.outer
def Vis (sc : Scope) (x : Str) : Prop := sc.names.lookup x = some .local ∨ sc.names.lookup x = some .cell ∨ sc.names.lookup x = some .free
def Loc (sc : Scope) (x : Str) : Prop := sc.names.lookup x = some .local ∨ sc.names.lookup x = some .cell
def Look (env : Env) (h : Heap) (m : Str → Option Value) (x : Str) (u : Value) : Prop :=
  (env.kindOf x = some .local ∧ m x = some u) ∨ ((env.kindOf x = some .cell ∨ env.kindOf x = some .free) ∧ ∃ c, env.cells.lookup x = some c ∧ h.IsCell c (some u))
structure Cx.Ok (X : Cx) : Prop where
  mod : Mod X.K X.mg X.base
  kind : X.env.scope.kind = .function
  glob : X.env.globals = mainGlobals
  blt : X.env.builtins = builtinsNs
  above : X.s₀.heap.objs.size ≤ X.env.locals
  inj : ∀ x y c, X.env.cells.lookup x = some c → X.env.cells.lookup y = some c → x = y
  has : ∀ x, (X.env.kindOf x = some .cell ∨ X.env.kindOf x = some .free) → ∃ c, X.env.cells.lookup x = some c
  cab : ∀ x c, X.fn x = true → X.env.cells.lookup x = some c → X.s₀.heap.objs.size ≤ c
  hd : X.calm = true → X.A.handled = none
  frames : X.A.frames = some X.stack
  stk : X.stack = X.outer ∨ (X.stack = X.env :: X.outer ∧ X.env.frame = some X.env.locals)
  exf : ∀ b ∈ X.ex, b ≠ X.env.locals ∧ ∀ x c, X.env.cells.lookup x = some c → c ≠ b
  bs : ∀ b o, X.base.get? b = some o → X.s₀.heap.get? b = some o ∧ X.H₀ b = none
  bsz : X.base.objs.size ≤ X.s₀.heap.objs.size
  noex : ∀ b o, X.base.get? b = some o → b ∉ X.ex
  exfs : ∀ b ∈ X.ex, b ∉ X.fs
  funs : X.s₀.heap.FunFrames X.base X.outer
  frf : ∀ b ∈ X.fs, X.H₀ b = none
structure Inv (X : Cx) (pins : List (Addr × Obj)) (σ : List (Option V)) (H : Hp) (s : Shared) : Prop where
  ok : X.Ok
  os : s.os = X.s₀.os
  bare : AllBare s.gens
  base : Un X.fs X.ex X.H₀ H X.s₀.heap s.heap
  loc : ∃ m, s.heap.Ns X.env.locals m ∧ ∀ (i : Nat) (x : Str) (v : V), X.N[i]? = some x → σ[i]? = some (some v) → Vis X.env.scope x → ∃ u, RelV v u ∧ Look X.env s.heap m x u
  cell : ∀ x c, X.env.cells.lookup x = some c → ∃ v, s.heap.IsCell c v
  free : H X.env.locals = none
  freeC : ∀ x c, X.env.cells.lookup x = some c → H c = none
  pin : ∀ p ∈ X.pn ++ pins, s.heap.get? p.1 = some p.2 ∧ H p.1 = none ∧ p.1 ≠ X.env.locals ∧ p.1 ∉ X.fs ∧ ∀ v, p.2.data ≠ .cell v
  hok : HOk X.prog X.w H s.heap
  len : σ.length = X.N.length
section
variable {X : Cx} {pins : List (Addr × Obj)} {σ : List (Option V)} {H H' : Hp} {s : Shared} {h' : Heap}
theorem Cx.Ok.nofr (ok : X.Ok) {b : Addr} {o : Obj} (e : X.base.get? b = some o) : b ∉ X.fs := fun hb => by
  have := (ok.funs.mem hb).1
  rw [e] at this; cases this
theorem Inv.bs (I : Inv X pins σ H s) : ∀ b o, X.base.get? b = some o → s.heap.get? b = some o ∧ H b = none := fun b o e =>
  ⟨I.base.keep b o (I.ok.bs b o e).1 (I.ok.bs b o e).2 (I.ok.nofr e) (I.ok.noex b o e), I.base.free b o (I.ok.bs b o e).1 (I.ok.bs b o e).2 (I.ok.noex b o e)⟩
theorem Inv.bk (I : Inv X pins σ H s) : ∀ b o, X.base.get? b = some o → s.heap.get? b = some o := fun b o e => (I.bs b o e).1
theorem Inv.mod (I : Inv X pins σ H s) : Mod X.K X.mg X.base := I.ok.mod
theorem Inv.kIn (I : Inv X pins σ H s) : X.K.In s.heap := I.ok.mod.kin.keeps I.bk
theorem Inv.lt (I : Inv X pins σ H s) : X.env.locals < s.heap.objs.size := let ⟨_, hn, _⟩ := I.loc; hn.lt
theorem Inv.sz (I : Inv X pins σ H s) : X.s₀.heap.objs.size ≤ s.heap.objs.size := Nat.le_trans I.ok.above (Nat.le_of_lt I.lt)
theorem Inv.nofs (I : Inv X pins σ H s) {a : Addr} (h : s.heap.objs.size ≤ a) : a ∉ X.fs := fun hb => by
  obtain ⟨_, o, ho, _⟩ := I.ok.funs.mem hb
  exact absurd (Nat.lt_of_lt_of_le (Heap.lt_size ho) (Nat.le_trans I.sz h)) (Nat.lt_irrefl _)
theorem Inv.cne (I : Inv X pins σ H s) : ∀ x c, X.env.cells.lookup x = some c → c ≠ X.env.locals := fun x c e z => by
  obtain ⟨v, o, ho, hd⟩ := I.cell x c e
  obtain ⟨m, ⟨o', es, ep, ho', hd', _⟩, _⟩ := I.loc
  rw [z, ho'] at ho; cases ho; rw [hd'] at hd; cases hd
theorem Inv.funs (I : Inv X pins σ H s) : s.heap.FunFrames X.base X.outer := by
  have all : ∀ (l : List Env), (∀ b ∈ frs l, b ∈ X.fs) → X.s₀.heap.FunFrames X.base l → s.heap.FunFrames X.base l := by
    intro l
    induction l with
    | nil => intro _ _; trivial
    | cons env r ih =>
      intro hs hl
      obtain ⟨hk, ⟨L, o, hf, hn, ho, hd⟩, hr⟩ := hl
      have hL : L ∈ X.fs := hs L (by unfold frs; rw [List.filterMap_cons, hf]; exact List.mem_cons_self)
      obtain ⟨sl, e⟩ := I.base.slot L o ho (I.ok.frf L hL) hL fun z => I.ok.exfs L z hL
      exact ⟨hk, ⟨L, _, hf, hn, e, hd⟩, ih (fun b hb => hs b (by unfold frs; rw [List.filterMap_cons, hf]; exact List.mem_cons_of_mem _ hb)) hr⟩
  exact all X.outer (fun _ hb => hb) I.ok.funs
theorem Inv.stack (I : Inv X pins σ H s) : s.heap.FunFrames X.base X.stack := by
  rcases I.ok.stk with e | ⟨e, hf⟩
  · rw [e]; exact I.funs
  · rw [e]
    obtain ⟨m, hn, _⟩ := I.loc
    refine .cons (by rw [I.ok.kind]; decide) hf hn ?_ I.funs
    exact Heap.get?_none_of_le (Nat.le_trans I.ok.bsz I.ok.above)
theorem Inv.stkSub (I : Inv X pins σ H s) : ∀ b ∈ frs X.stack, b ∈ X.env.locals :: X.fs := fun b hb => by
  rcases I.ok.stk with e | ⟨e, hf⟩
  · rw [e] at hb; exact List.mem_cons_of_mem _ hb
  · rw [e] at hb
    unfold frs at hb
    rw [List.filterMap_cons, hf] at hb
    exact hb
theorem Inv.stkFree (I : Inv X pins σ H s) : ∀ b ∈ frs X.stack, H b = none := fun b hb => by
  rcases List.mem_cons.mp (I.stkSub b hb) with e | hb
  · rw [e]; exact I.free
  · obtain ⟨_, o, ho, _⟩ := I.ok.funs.mem hb
    exact I.base.free b o ho (I.ok.frf b hb) fun z => I.ok.exfs b z hb
theorem Inv.step {g' : Array GenState} {t' : Nat} {d' : Drawn} {ch : List Addr} (I : Inv X pins σ H s)
    (hch : ∀ b ∈ ch, (b ∈ X.ex ∨ X.s₀.heap.objs.size ≤ b) ∧ b ≠ X.env.locals ∧ (∀ x c, X.env.cells.lookup x = some c → c ≠ b) ∧ ∀ p ∈ X.pn ++ pins, p.1 ≠ b)
    (keep : ∀ b o, b ≠ X.env.locals → b ∉ X.fs → b ∉ ch → s.heap.get? b = some o → H b = none → h'.get? b = some o)
    (slot : ∀ b o, b ≠ X.env.locals → b ∈ X.fs → b ∉ ch → s.heap.get? b = some o → H b = none → ∃ sl, h'.get? b = some { o with slots := sl }) (free : ∀ b o, b ∉ ch → s.heap.get? b = some o → H b = none → H' b = none)
    (there : ∀ b o, b ∉ ch → s.heap.get? b = some o → ∃ o', h'.get? b = some o')
    (tups : ∀ b xs, H b = some (.tup xs) → H' b = some (.tup xs)) (frzs : ∀ b o u, H b = some (.frz o u) → H' b = some (.frz o u)) (tbls : ∀ b ps, H b = some (.tbl ps) → ∃ more, H' b = some (.tbl (ps ++ more)))
    (ns : ∀ m, s.heap.Ns X.env.locals m → h'.Ns X.env.locals m) (hok : HOk X.prog X.w H' h') (hg : AllBare g') :
    Inv X pins σ H' { s with heap := h', gens := g', drawn := d', toks := t' } := by
  have neL : ∀ b o, X.s₀.heap.get? b = some o → b ≠ X.env.locals := fun b o e => Nat.ne_of_lt (Nat.lt_of_lt_of_le (Heap.lt_size e) I.ok.above)
  have neC : ∀ b o, X.s₀.heap.get? b = some o → b ∉ X.ex → b ∉ ch := fun b o e hx hb => by
    rcases (hch b hb).1 with z | z
    · exact hx z
    · exact absurd (Nat.lt_of_lt_of_le (Heap.lt_size e) z) (Nat.lt_irrefl _)
  have cellK : ∀ x c, X.env.cells.lookup x = some c → ∀ v, s.heap.IsCell c v → h'.IsCell c v := fun x c e v ⟨o, ho, hd⟩ => by
    have nch : c ∉ ch := fun z => (hch c z).2.2.1 x c e rfl
    by_cases hc : c ∈ X.fs
    · obtain ⟨sl, q⟩ := slot c o (I.cne x c e) hc nch ho (I.freeC x c e)
      exact ⟨_, q, hd⟩
    · exact ⟨o, keep c o (I.cne x c e) hc nch ho (I.freeC x c e), hd⟩
  refine ⟨I.ok, I.os, hg, ⟨fun b o e n hb hx => ?_, fun b o e n hb hx => ?_, fun b o e n hx => ?_, fun b o e hx => ?_, fun b xs e => tups b xs (I.base.tups b xs e), fun b o xs e => frzs b o xs (I.base.frzs b o xs e), fun b ps e => ?_⟩, ?_, fun x c e => ?_, ?_, fun x c e => ?_, fun p hp => ?_, hok, I.len⟩
  · exact keep b o (neL b o e) hb (neC b o e hx) (I.base.keep b o e n hb hx) (I.base.free b o e n hx)
  · obtain ⟨sl, e1⟩ := I.base.slot b o e n hb hx
    obtain ⟨sl', e2⟩ := slot b _ (neL b o e) hb (neC b o e hx) e1 (I.base.free b o e n hx)
    exact ⟨sl', e2⟩
  · obtain ⟨o', e1⟩ := I.base.there b o e hx
    exact free b o' (neC b o e hx) e1 (I.base.free b o e n hx)
  · obtain ⟨o', e1⟩ := I.base.there b o e hx
    exact there b o' (neC b o e hx) e1
  · obtain ⟨m1, e1⟩ := I.base.tbls b ps e
    obtain ⟨m2, e2⟩ := tbls b _ e1
    exact ⟨m1 ++ m2, by rw [e2, Array.append_assoc]⟩
  · obtain ⟨m, hn, hl⟩ := I.loc
    refine ⟨m, ns m hn, fun i x v e1 e2 e3 => ?_⟩
    obtain ⟨u, r, l⟩ := hl i x v e1 e2 e3
    refine ⟨u, r, ?_⟩
    rcases l with l | ⟨k, c, e, z⟩
    · exact .inl l
    · exact .inr ⟨k, c, e, cellK x c e _ z⟩
  · obtain ⟨v, z⟩ := I.cell x c e
    exact ⟨v, cellK x c e v z⟩
  · obtain ⟨m, ⟨o, _, _, ho, _⟩, _⟩ := I.loc
    exact free _ o (fun z => (hch _ z).2.1 rfl) ho I.free
  · obtain ⟨v, o, ho, hd⟩ := I.cell x c e
    exact free c o (fun z => (hch c z).2.2.1 x c e rfl) ho (I.freeC x c e)
  · obtain ⟨e, n, ne, nf, d⟩ := I.pin p hp
    have nch : p.1 ∉ ch := fun z => (hch p.1 z).2.2.2 p hp rfl
    exact ⟨keep p.1 p.2 ne nf nch e n, free p.1 p.2 nch e n, ne, nf, d⟩
theorem Inv.un {t' : Nat} (I : Inv X pins σ H s) (u : Un X.fs [] H H' s.heap h') (hok : HOk X.prog X.w H' h') : Inv X pins σ H' { s with heap := h', toks := t' } := by
  obtain ⟨m, ⟨o, es, ep, ho, r⟩, _⟩ := id I.loc
  obtain ⟨sl, hL⟩ := u.any ho I.free (by simp)
  exact I.step (g' := s.gens) (d' := s.drawn) (ch := []) (fun _ z => nomatch z) (fun b o _ hb _ e n => u.keep b o e n hb (by simp)) (fun b o _ hb _ e n => u.slot b o e n hb (by simp)) (fun b o _ e n => u.free b o e n (by simp)) (fun b o _ e => u.there b o e (by simp)) u.tups u.frzs u.tbls (fun m' hm => by
    obtain ⟨o', es', ep', ho', r'⟩ := hm
    rw [ho] at ho'; cases ho'
    exact ⟨_, es', ep', hL, r'⟩) hok I.bare
theorem Inv.call {g' : Array GenState} {t' : Nat} {d' : Drawn} {ch : List Addr} (I : Inv X pins σ H s) (u : Un (frs X.stack) ch H H' s.heap h') (hok : HOk X.prog X.w H' h') (hg : AllBare g')
    (hch : ∀ b ∈ ch, (b ∈ X.ex ∨ X.s₀.heap.objs.size ≤ b) ∧ b ≠ X.env.locals ∧ (∀ x c, X.env.cells.lookup x = some c → c ≠ b) ∧ ∀ p ∈ X.pn ++ pins, p.1 ≠ b) :
    Inv X pins σ H' { s with heap := h', gens := g', drawn := d', toks := t' } := by
  obtain ⟨m, ⟨o, es, ep, ho, r⟩, _⟩ := id I.loc
  obtain ⟨sl, hL⟩ := u.any ho I.free fun z => (hch _ z).2.1 rfl
  exact I.step (ch := ch) hch (fun b o hL hb hc e n => u.keep b o e n (fun z => (List.mem_cons.mp (I.stkSub b z)).elim hL hb) hc) (fun b o _ _ hc e n => u.any e n hc) (fun b o hc e n => u.free b o e n hc) (fun b o hc e => u.there b o e hc) u.tups u.frzs u.tbls (fun m' hm => by
    obtain ⟨o', es', ep', ho', r'⟩ := hm
    rw [ho] at ho'; cases ho'
    exact ⟨_, es', ep', hL, r'⟩) hok hg
theorem Inv.turned {t' : Nat} {it : Addr} (I : Inv X pins σ H s) (k : ∀ b o, b ≠ it → s.heap.get? b = some o → h'.get? b = some o) (hn : H it = none) (hL : it ≠ X.env.locals)
    (h1 : it ∈ X.ex ∨ X.s₀.heap.objs.size ≤ it) (h2 : ∀ x c, X.env.cells.lookup x = some c → c ≠ it) (h3 : ∀ p ∈ X.pn ++ pins, p.1 ≠ it) : Inv X pins σ H { s with heap := h', toks := t' } := by
  have nit : ∀ b u, H b = some u → b ≠ it := fun b u e z => by rw [z, hn] at e; cases e
  refine I.step (g' := s.gens) (d' := s.drawn) (ch := [it]) (fun b hb => ?_) (fun b o _ _ hc e _ => k b o (fun z => hc (by simp [z])) e) (fun b o _ _ hc e _ => ⟨o.slots, k b o (fun z => hc (by simp [z])) e⟩) (fun _ _ _ _ n => n)
    (fun b o hc e => ⟨o, k b o (fun z => hc (by simp [z])) e⟩) (fun _ _ e => e) (fun _ _ _ e => e) (fun b ps e => ⟨#[], by rw [e]; simp⟩) (fun m hm => ?_) (fun b u e => ?_) I.bare
  · have e : b = it := by simpa using hb
    subst e
    exact ⟨h1, hL, h2, h3⟩
  · obtain ⟨o, es, ep, ho, r⟩ := hm
    exact ⟨o, es, ep, k _ o (Ne.symm hL) ho, r⟩
  · refine (I.hok b u e).stay (fun c v hc q => k c v ?_ q) (fun _ q => q) fun _ _ q => q
    rcases hc with z | z
    · rw [z]; exact nit b u e
    · exact nit c _ z
theorem Inv.tok (I : Inv X pins σ H s) (t : Nat) : Inv X pins σ H { s with toks := t } := I.un (h' := s.heap) (t' := t) Un.refl I.hok
theorem Inv.kept {t' : Nat} (I : Inv X pins σ H s) (k : ∀ b u, s.heap.get? b = some u → h'.get? b = some u) : Inv X pins σ H { s with heap := h', toks := t' } := I.un (Un.kept k) (I.hok.kept k)
theorem Inv.laid {a : Addr} {o : HO} {t' : Nat} (I : Inv X pins σ H s) (k : ∀ b u, s.heap.get? b = some u → h'.get? b = some u) (hp : s.heap.objs.size ≤ a) (new : ObjOk X.prog X.w (upd H a o) h' a o) :
    Inv X pins σ (upd H a o) { s with heap := h', toks := t' } := I.un (Un.laid k hp (I.hok.fresh hp)) (I.hok.laid k hp new)
theorem Inv.write {x e : Addr} {o : HO} {t' : Nat} (I : Inv X pins σ H s) (mu : Mut (H x)) (he : e = x ∨ H e = some (.own x)) (k : ∀ b u, b ≠ e → s.heap.get? b = some u → h'.get? b = some u) (heo : ∃ u, h'.get? e = some u)
    (new : ObjOk X.prog X.w (upd H x o) h' x o) : Inv X pins σ (upd H x o) { s with heap := h', toks := t' } := I.un (Un.write mu he k heo) (I.hok.write mu he k heo new)
theorem Inv.pins_of {pins' : List (Addr × Obj)} (I : Inv X pins σ H s) (h : ∀ p ∈ pins', s.heap.get? p.1 = some p.2 ∧ H p.1 = none ∧ p.1 ≠ X.env.locals ∧ p.1 ∉ X.fs ∧ ∀ v, p.2.data ≠ .cell v) : Inv X pins' σ H s :=
  ⟨I.ok, I.os, I.bare, I.base, I.loc, I.cell, I.free, I.freeC, fun p hp => (List.mem_append.mp hp).elim (fun z => I.pin p (List.mem_append_left _ z)) (h p), I.hok, I.len⟩
theorem nodup_ix {N : List Str} (hN : N.Nodup) {i j : Nat} {x : Str} (a : N[i]? = some x) (b : N[j]? = some x) : i = j := by
  obtain ⟨h1, e1⟩ := List.getElem?_eq_some_iff.mp a
  obtain ⟨h2, e2⟩ := List.getElem?_eq_some_iff.mp b
  exact (List.getElem_inj hN).mp (e1.trans e2.symm)
theorem store_ok2 {M : Model} {A : Around} {E : Value → Shared → Prop} {i : Nat} {x : Str} {v : V} {u : Value} {Q : Unit → Shared → Prop} (I : Inv X pins σ H s) (hN : X.N.Nodup) (hi : X.N[i]? = some x) (hx : Loc X.env.scope x) (r : RelV v u)
    (h : ∀ s', Inv X pins (σ.set i (some v)) H s' → (∃ a, Heap.SameBut a s.heap s'.heap ∧ (a = X.env.locals ∨ X.env.cells.lookup x = some a)) → Q () s') (hf : X.fn x = true ∨ X.env.scope.names.lookup x = some .local := by first | exact .inl rfl | exact .inr rfl | assumption) : wpAny M A (storeName X.env x u) Q E s := by
  obtain ⟨m, hn, hl⟩ := id I.loc
  have hcls : (X.env.scope.kind == .class || (X.env.scope.kind == .module && X.env.locals != X.env.globals)) = false := by rw [I.ok.kind]; rfl
  have hiσ : i < σ.length := by rw [I.len]; exact (List.getElem?_eq_some_iff.mp hi).1
  have cne := I.cne
  have tracked : ∀ {a : Addr} {h' : Heap}, (∃ o, s.heap.get? a = some o ∧ H a = none) → Heap.SameBut a s.heap h' → HOk X.prog X.w H h' := fun {a h'} ha hs b ob e => by
    obtain ⟨_, _, hfree⟩ := ha
    refine (I.hok b ob e).stay (fun c w' hc q => (hs.2 c ?_).trans q) (fun _ q => q) fun _ _ q => q
    rintro rfl
    rcases hc with rfl | hc
    · rw [hfree] at e; cases e
    · rw [hfree] at hc; cases hc
  rcases hx with hk | hk
  · refine wpAny_storeName_local hk hn (fun h' hn' hs => ?_) hcls
    obtain ⟨oL, _, _, hoL, _⟩ := id hn
    refine h _ ⟨I.ok, I.os, I.bare, ⟨fun b o e n hb hx => ?_, fun b o e n hb hx => ?_, I.base.free, fun b o e hx => ?_, I.base.tups, I.base.frzs, I.base.tbls⟩, ⟨_, hn', fun j y v' e1 e2 e3 => ?_⟩, fun y c e => ?_, I.free, I.freeC, fun p hp => ?_, tracked ⟨oL, hoL, I.free⟩ hs, by simpa using I.len⟩ ⟨_, hs, .inl rfl⟩
    · exact (hs.2 b (Nat.ne_of_lt (Nat.lt_of_lt_of_le (Heap.lt_size e) I.ok.above))).trans (I.base.keep b o e n hb hx)
    · obtain ⟨sl, e1⟩ := I.base.slot b o e n hb hx
      exact ⟨sl, (hs.2 b (Nat.ne_of_lt (Nat.lt_of_lt_of_le (Heap.lt_size e) I.ok.above))).trans e1⟩
    · obtain ⟨o', e1⟩ := I.base.there b o e hx
      exact ⟨o', (hs.2 b (Nat.ne_of_lt (Nat.lt_of_lt_of_le (Heap.lt_size e) I.ok.above))).trans e1⟩
    · by_cases hj : j = i
      · subst hj
        rw [hi] at e1; cases e1
        rw [List.getElem?_set_self hiσ] at e2
        cases e2
        exact ⟨u, r, .inl ⟨hk, by simp⟩⟩
      · rw [List.getElem?_set_ne (Ne.symm hj)] at e2
        obtain ⟨u', r', q⟩ := hl j y v' e1 e2 e3
        refine ⟨u', r', ?_⟩
        rcases q with ⟨k, e⟩ | ⟨k, c, e, z⟩
        · refine .inl ⟨k, ?_⟩
          have : y ≠ x := fun e => hj (nodup_ix hN e1 (e ▸ hi))
          simp [this, e]
        · exact .inr ⟨k, c, e, z.sameBut hs (cne y c e)⟩
    · obtain ⟨w', z⟩ := I.cell y c e
      exact ⟨w', z.sameBut hs (cne y c e)⟩
    · obtain ⟨e, n, ne, nf, d⟩ := I.pin p hp
      exact ⟨(hs.2 p.1 ne).trans e, n, ne, nf, d⟩
  · have hfn : X.fn x = true := by
      rcases hf with z | z
      · exact z
      · rw [z] at hk; cases hk
    obtain ⟨c, hc⟩ := I.ok.has x (.inl hk)
    obtain ⟨w', z⟩ := I.cell x c hc
    refine wpAny_storeName_cell I.ok.kind hk hc z (fun h' hc' hs => ?_)
    obtain ⟨oc, hoc, hocd⟩ := id z
    refine h { s with heap := h' } ⟨I.ok, I.os, I.bare, ⟨fun b o e n hb hx => ?_, fun b o e n hb hx => ?_, I.base.free, fun b o e hx => ?_, I.base.tups, I.base.frzs, I.base.tbls⟩, ⟨m, hn.sameBut hs (Ne.symm (cne x c hc)), fun j y v' e1 e2 e3 => ?_⟩, fun y c' e => ?_, I.free, I.freeC, fun p hp => ?_, tracked ⟨oc, hoc, I.freeC x c hc⟩ hs, by simpa using I.len⟩ ⟨c, hs, .inr hc⟩
    · exact (hs.2 b (Nat.ne_of_lt (Nat.lt_of_lt_of_le (Heap.lt_size e) (I.ok.cab x c hfn hc)))).trans (I.base.keep b o e n hb hx)
    · obtain ⟨sl, e1⟩ := I.base.slot b o e n hb hx
      exact ⟨sl, (hs.2 b (Nat.ne_of_lt (Nat.lt_of_lt_of_le (Heap.lt_size e) (I.ok.cab x c hfn hc)))).trans e1⟩
    · obtain ⟨o', e1⟩ := I.base.there b o e hx
      exact ⟨o', (hs.2 b (Nat.ne_of_lt (Nat.lt_of_lt_of_le (Heap.lt_size e) (I.ok.cab x c hfn hc)))).trans e1⟩
    · by_cases hj : j = i
      · subst hj
        rw [hi] at e1; cases e1
        rw [List.getElem?_set_self hiσ] at e2
        cases e2
        exact ⟨u, r, .inr ⟨.inl hk, c, hc, hc'⟩⟩
      · rw [List.getElem?_set_ne (Ne.symm hj)] at e2
        obtain ⟨u', r', q⟩ := hl j y v' e1 e2 e3
        refine ⟨u', r', ?_⟩
        rcases q with q | ⟨k, c', e, z'⟩
        · exact .inl q
        · refine .inr ⟨k, c', e, z'.sameBut hs ?_⟩
          rintro rfl
          exact hj (nodup_ix hN e1 (I.ok.inj _ _ _ e hc ▸ hi))
    · by_cases hcc : c' = c
      · subst hcc; exact ⟨_, hc'⟩
      · obtain ⟨w2, z2⟩ := I.cell y c' e
        exact ⟨w2, z2.sameBut hs hcc⟩
    · obtain ⟨e, n, ne, nf, d⟩ := I.pin p hp
      refine ⟨(hs.2 p.1 ?_).trans e, n, ne, nf, d⟩
      intro q
      rw [q, hoc] at e
      have q' : oc = p.2 := Option.some.inj e
      exact d w' (by rw [← q']; exact hocd)
theorem store_ok {M : Model} {A : Around} {E : Value → Shared → Prop} {i : Nat} {x : Str} {v : V} {u : Value} {Q : Unit → Shared → Prop} (I : Inv X pins σ H s) (hN : X.N.Nodup) (hi : X.N[i]? = some x) (hx : Loc X.env.scope x) (r : RelV v u)
    (h : ∀ s', Inv X pins (σ.set i (some v)) H s' → Q () s') (hf : X.fn x = true ∨ X.env.scope.names.lookup x = some .local := by first | exact .inl rfl | exact .inr rfl | assumption) : wpAny M A (storeName X.env x u) Q E s :=
  store_ok2 I hN hi hx r (fun s' I' _ => h s' I') hf
theorem Inv.call' {s' : Shared} {ch : List Addr} (I : Inv X pins σ H s) (ho : s'.os = s.os) (u : Un (frs X.stack) ch H H' s.heap s'.heap) (hok : HOk X.prog X.w H' s'.heap) (hg : AllBare s'.gens)
    (hch : ∀ b ∈ ch, (b ∈ X.ex ∨ X.s₀.heap.objs.size ≤ b) ∧ b ≠ X.env.locals ∧ (∀ x c, X.env.cells.lookup x = some c → c ≠ b) ∧ ∀ p ∈ X.pn ++ pins, p.1 ≠ b) : Inv X pins σ H' s' := by
  obtain ⟨h', g', d', t', o'⟩ := s'
  have e : o' = s.os := ho
  subst e
  exact I.call (g' := g') (t' := t') (d' := d') u hok hg hch
end
abbrev XK := Value → Option Addr → Hp → Prop
abbrev St := List (Option V)
abbrev VK := V → Hp → Prop
abbrev TE := St → Hp → VK → Prop
abbrev TT := St → Hp → (Bool → Hp → Prop) → Prop
abbrev TA := St → Hp → (List V → Hp → Prop) → Prop
structure Ends where
  nx : St → Hp → Prop
  rt : VK
  bk : St → Hp → Prop := fun _ _ => False
  ct : St → Hp → Prop := fun _ _ => False
abbrev TS := Ends → St → Hp → Prop
def EP (X : Cx) (pins : List (Addr × Obj)) (σ : St) (Q : VK) (u : Value) (s' : Shared) : Prop := ∃ v H', Inv X pins σ H' s' ∧ RelV v u ∧ Q v H'
def TP (X : Cx) (pins : List (Addr × Obj)) (σ : St) (Q : Bool → Hp → Prop) (b : Bool) (s' : Shared) : Prop := ∃ H', Inv X pins σ H' s' ∧ Q b H'
def AP (X : Cx) (pins : List (Addr × Obj)) (σ : St) (Q : List V → Hp → Prop) (us : List Value) (s' : Shared) : Prop := ∃ vs H', Inv X pins σ H' s' ∧ Vals vs us ∧ Q vs H'
def SP (X : Cx) (pins : List (Addr × Obj)) (D : Ends) (f : Flow) (s' : Shared) : Prop :=
  match f with
  | .next => ∃ σ' H', Inv X pins σ' H' s' ∧ D.nx σ' H'
  | .brk => ∃ σ' H', Inv X pins σ' H' s' ∧ D.bk σ' H'
  | .cont => ∃ σ' H', Inv X pins σ' H' s' ∧ D.ct σ' H'
  | .ret u => ∃ v σ' H', Inv X pins σ' H' s' ∧ RelV v u ∧ D.rt v H'
def PE (X : Cx) (e : Expr) (t : TE) : Prop :=
  ∀ (pins : List (Addr × Obj)) (s : Shared) (σ : St) (H : Hp) (Q : VK), Inv X pins σ H s → t σ H Q → wpAny (model X.prog X.w) X.A (eval e X.env) (EP X pins σ Q) X.xe s
def PT (X : Cx) (e : Expr) (t : TT) : Prop :=
  ∀ (pins : List (Addr × Obj)) (s : Shared) (σ : St) (H : Hp) (Q : Bool → Hp → Prop), Inv X pins σ H s → t σ H Q → wpAny (model X.prog X.w) X.A (isTrue e X.env (eval e X.env)) (TP X pins σ Q) X.xe s
def PW (X : Cx) (e : Expr) (t : TT) : Prop :=
  ∀ (whole : Sem Value) (pins : List (Addr × Obj)) (s : Shared) (σ : St) (H : Hp) (Q : Bool → Hp → Prop), Inv X pins σ H s → t σ H Q → wpAny (model X.prog X.w) X.A (isTrue e X.env whole) (TP X pins σ Q) X.xe s
theorem PW.pt {X : Cx} {e : Expr} {t : TT} (h : PW X e t) : PT X e t := h _
def PA (X : Cx) (es : List Expr) (t : TA) : Prop :=
  ∀ (pos : Pos) (pins : List (Addr × Obj)) (s : Shared) (σ : St) (H : Hp) (Q : List V → Hp → Prop), Inv X pins σ H s → t σ H Q → wpAny (model X.prog X.w) X.A (spliced (backTo pos (starEach es X.env))) (AP X pins σ Q) X.xe s
def PS (X : Cx) (st : Stmt) (t : TS) : Prop :=
  ∀ (pins : List (Addr × Obj)) (s : Shared) (σ : St) (H : Hp) (D : Ends), Inv X pins σ H s → t D σ H → wpAny (model X.prog X.w) X.A (exec st X.env) (SP X pins D) X.xe s
def PSs (X : Cx) (st : List Stmt) (t : TS) : Prop :=
  ∀ (pins : List (Addr × Obj)) (s : Shared) (σ : St) (H : Hp) (D : Ends), Inv X pins σ H s → t D σ H → wpAny (model X.prog X.w) X.A (execs st X.env) (SP X pins D) X.xe s
theorem thn {α : Type} {t : Sem α} {Q Q' : α → Shared → Prop} {M : Model} {A : Around} {E : Value → Shared → Prop} {s : Shared} (h : wpAny M A t Q E s) (hQ : ∀ a s, Q a s → Q' a s) : wpAny M A t Q' E s := wpAny_mono h hQ fun _ _ x => x
end L2
namespace L2
open PySem PySem.Spec PyProof.Rows
section
variable {X : Cx}
theorem bin {a b : Expr} {ta tb : TE} (ha : PE X a ta) (hb : PE X b tb) {pins : List (Addr × Obj)} {s : Shared} {σ : St} {H : Hp} {R : V → V → Hp → Prop} (I : Inv X pins σ H s) (h : ta σ H fun x H1 => tb σ H1 fun y H2 => R x y H2)
    {α : Type} {Q : α → Shared → Prop} {f : Value → Value → Sem α}
    (hf : ∀ v u s2 x y H2, Inv X pins σ H2 s2 → RelV x v → RelV y u → R x y H2 → wpAny (model X.prog X.w) X.A (f v u) Q X.xe s2) :
    wpAny (model X.prog X.w) X.A (eval a X.env) (fun v s₁ => wpAny (model X.prog X.w) X.A (eval b X.env) (fun u s₂ => wpAny (model X.prog X.w) X.A (f v u) Q X.xe s₂) X.xe s₁) X.xe s := by
  refine thn (ha pins s σ H _ I h) fun v s1 ⟨x, H1, I1, r1, q1⟩ => ?_
  refine thn (hb pins s1 σ H1 _ I1 q1) fun u s2 ⟨y, H2, I2, r2, q2⟩ => ?_
  exact hf v u s2 x y H2 I2 r1 r2 q2
def tVar (i : Nat) : TE := fun σ H Q => ∃ v, σ[i]? = some (some v) ∧ Q v H
def tC (v : V) : TE := fun _ H Q => Q v H
theorem pe_var {i : Nat} {x : Str} {pos : Pos} (hN : X.N[i]? = some x) (hv : Vis X.env.scope x) (hd : (x == ("__debug__" : Str)) = false := by decide) (hcd : (x == ("__classdict__" : Str)) = false := by decide) : PE X (.Name x pos) (tVar i) := by
  intro pins s σ H Q I h
  obtain ⟨v, e, h⟩ := h
  obtain ⟨m, hn, hl⟩ := I.loc
  obtain ⟨u, r, l⟩ := hl i x v hN e hv
  have fin : EP X pins σ Q u s := ⟨v, H, I, r, h⟩
  rcases l with ⟨hk, hm⟩ | ⟨hk, c, hc, hcell⟩
  · exact wpAny_Name (wpAny_loadName_local I.ok.kind hk hn hm fin) hd
  · rcases hk with hk | hk
    · exact wpAny_Name (wpAny_loadName_cell I.ok.kind hk hc hcell fin) hd
    · exact wpAny_Name (wpAny_loadName_free I.ok.kind hk hc hcell fin hcd) hd
theorem pe_int {i j pos} : PE X (.Constant (.int i) j pos) (tC (.int i)) := fun _ _ _ H _ I h => wpAny_Constant_int ⟨.int i, H, I.tok _, ⟨_, rfl⟩, h⟩
theorem pe_bl {b j pos} : PE X (.Constant (.bool b) j pos) (tC (.bl b)) := fun _ _ _ H _ I h => Constant_bool ⟨.bl b, H, I, rfl, h⟩
theorem pe_non {j pos} : PE X (.Constant .none j pos) (tC .non) := fun _ _ _ H _ I h => Constant_none ⟨.non, H, I, rfl, h⟩
theorem pe_str {x j pos} : PE X (.Constant (.str x) j pos) (tC (.str x)) := fun _ _ _ H _ I h => Calls.Constant_str ⟨.str x, H, I.tok _, ⟨_, rfl⟩, h⟩
def Gl (X : Cx) (x : Str) : Prop := X.env.kindOf x = some .globalImplicit
theorem ld_glob {E : Value → Shared → Prop} {pins : List (Addr × Obj)} {s : Shared} {σ : St} {H : Hp} {x : Str} {u : Value} {pos : Pos} {Q : Value → Shared → Prop} (I : Inv X pins σ H s) (hg : Gl X x) (hm : X.mg x = some u) (h : Q u s)
    (hd : (x == ("__debug__" : Str)) = false := by decide) : wpAny (model X.prog X.w) X.A (eval (.Name x pos) X.env) Q E s :=
  Calls.Name_function_global I.ok.kind hg (Calls.loadGlobal_global (by rw [I.ok.glob]; exact I.mod.glob.keeps I.bk) hm h) hd
theorem ld_blt {E : Value → Shared → Prop} {pins : List (Addr × Obj)} {s : Shared} {σ : St} {H : Hp} {x : Str} {u : Value} {pos : Pos} {Q : Value → Shared → Prop} (I : Inv X pins σ H s) (hg : Gl X x) (hm : X.mg x = none) (hv : bootBuiltins x = some u) (h : Q u s)
    (hn : x ≠ "__name__" := by decide) (hd : (x == ("__debug__" : Str)) = false := by decide) : wpAny (model X.prog X.w) X.A (eval (.Name x pos) X.env) Q E s := by
  obtain ⟨mb, h1, h2⟩ := I.mod.blt
  exact Calls.Name_function_global I.ok.kind hg (Calls.loadGlobal_builtin (by rw [I.ok.glob]; exact I.mod.glob.keeps I.bk) hm (by rw [I.ok.blt]; exact h1.keeps I.bk) ((h2 x hn).trans hv) h) hd
theorem pe_glob {x : Str} {v : V} {u : Value} {pos : Pos} (hg : Gl X x) (hm : X.mg x = some u) (r : RelV v u) (hd : (x == ("__debug__" : Str)) = false := by decide) : PE X (.Name x pos) (tC v) :=
  fun _ _ _ H _ I h => ld_glob I hg hm ⟨v, H, I, r, h⟩ hd
theorem pe_bltn {x : Str} {v : V} {u : Value} {pos : Pos} (hg : Gl X x) (hm : X.mg x = none) (hv : bootBuiltins x = some u) (r : RelV v u) (hn : x ≠ "__name__" := by decide) (hd : (x == ("__debug__" : Str)) = false := by decide) : PE X (.Name x pos) (tC v) :=
  fun _ _ _ H _ I h => ld_blt I hg hm hv ⟨v, H, I, r, h⟩ hn hd
variable {a b : Expr} {ta tb : TE} {pos : Pos}
def PC (X : Cx) (op : CmpOp) (a b : Expr) (t : TE) : Prop :=
  ∀ (pins : List (Addr × Obj)) (s : Shared) (σ : St) (H : Hp) (Q : VK), Inv X pins σ H s → t σ H Q →
    wpAny (model X.prog X.w) X.A (eval a X.env) (fun v s₁ => wpAny (model X.prog X.w) X.A (eval b X.env) (fun u s₂ => wpAny (model X.prog X.w) X.A (compareOp op v u) (EP X pins σ Q) X.xe s₂) X.xe s₁) X.xe s
def tB (t : TE) : TT := fun σ H Q => t σ H fun x H1 => ∃ c, x = .bl c ∧ Q c H1
theorem pt_cmp {op : CmpOp} {t : TE} (h : PC X op a b t) (h1 : behindInMarks op b = false := by first | exact nobehind _ (by decide) (by decide) | rfl) : PT X (.Compare a [op] [b] pos) (tB t) := by
  intro pins s σ H Q I hw
  refine wpAny_isTrue_Compare1 (thn (h pins s σ H _ I hw) fun v s1 h1 => thn h1 fun u s2 h2 => thn h2 fun c s3 ⟨x, H1, I1, r1, q1⟩ => ?_) h1
  obtain ⟨d, rfl, q⟩ := q1
  cases r1
  exact wpAny_truthy_bool ⟨H1, I1, q⟩
theorem pt_val {e : Expr} {t : TE} (h : PE X e t) (he : ∀ whole, isTrue e X.env whole = (do let v ← whole; standAt e.pos; holding [v] (truthy v)) := by intro _; rfl) : PT X e (tB t) := by
  intro pins s σ H Q I hw
  refine isTrue_plain (thn (h pins s σ H _ I hw) fun v s1 ⟨x, H1, I1, r1, q1⟩ => ?_) (he _)
  obtain ⟨d, rfl, q⟩ := q1
  cases r1
  exact wpAny_truthy_bool ⟨H1, I1, q⟩
variable {tA tB' : TT} {rest : List Expr}
def tAnd (t u : TT) : TT := fun σ H Q => t σ H fun c H1 => if c = true then u σ H1 Q else Q false H1
def tOr (t u : TT) : TT := fun σ H Q => t σ H fun c H1 => if c = true then Q true H1 else u σ H1 Q
def tNot (t : TT) : TT := fun σ H Q => t σ H fun c H1 => Q (!c) H1
theorem pw_and1 (ha : PT X a tA) : PW X (.BoolOp .And [a] pos) tA := by
  intro wh pins s σ H Q I h
  refine isTrue_and (thn (ha pins s σ H Q I h) fun c s1 e => ?_)
  cases c with
  | true => exact isTrue_and_nil e
  | false => exact e
theorem pw_or1 (ha : PT X a tA) : PW X (.BoolOp .Or [a] pos) tA := by
  intro wh pins s σ H Q I h
  refine isTrue_or (thn (ha pins s σ H Q I h) fun c s1 e => ?_)
  cases c with
  | false => exact isTrue_or_nil e
  | true => exact e
theorem pw_and (ha : PT X a tA) (hb : PW X (.BoolOp .And (b :: rest) pos) tB') : PW X (.BoolOp .And (a :: b :: rest) pos) (tAnd tA tB') := by
  intro wh pins s σ H Q I h
  refine isTrue_and (thn (ha pins s σ H _ I h) fun c s1 ⟨H1, I1, q1⟩ => ?_)
  cases c with
  | true => exact hb wh pins s1 σ H1 Q I1 q1
  | false => exact ⟨H1, I1, q1⟩
theorem pw_or (ha : PT X a tA) (hb : PW X (.BoolOp .Or (b :: rest) pos) tB') : PW X (.BoolOp .Or (a :: b :: rest) pos) (tOr tA tB') := by
  intro wh pins s σ H Q I h
  refine isTrue_or (thn (ha pins s σ H _ I h) fun c s1 ⟨H1, I1, q1⟩ => ?_)
  cases c with
  | true => exact ⟨H1, I1, q1⟩
  | false => exact hb wh pins s1 σ H1 Q I1 q1
theorem pt_not (ha : PT X a tA) : PT X (.UnaryOp .Not a pos) (tNot tA) := by
  intro pins s σ H Q I h
  exact isTrue_not (ha pins s σ H (fun c H1 => Q (!c) H1) I h)
def tAndV (ta tb : TE) : TE := fun σ H Q => ta σ H fun x H1 => ∃ c, x = .bl c ∧ if c = true then tb σ H1 Q else Q (.bl false) H1
def tNotV (ta : TE) : TE := fun σ H Q => ta σ H fun x H1 => ∃ c, x = .bl c ∧ Q (.bl (!c)) H1
theorem pe_one {op} {t : TE} (h : PE X a t) : PE X (.BoolOp op [a] pos) t := fun pins s σ H Q I hw => BoolOp_one (h pins s σ H Q I hw)
theorem pe_and (ha : PE X a ta) (hb : PE X (.BoolOp .And (b :: rest) pos) tb) : PE X (.BoolOp .And (a :: b :: rest) pos) (tAndV ta tb) := by
  intro pins s σ H Q I h
  refine BoolOp_and (thn (ha pins s σ H _ I h) fun v s1 ⟨x, H1, I1, r1, q1⟩ => ?_)
  obtain ⟨c, rfl, q1⟩ := q1
  cases r1
  refine wpAny_truthy_bool ?_
  cases c with
  | true => exact hb pins s1 σ H1 Q I1 q1
  | false => exact ⟨.bl false, H1, I1, rfl, q1⟩
theorem pe_not (ha : PE X a ta) : PE X (.UnaryOp .Not a pos) (tNotV ta) := by
  intro pins s σ H Q I h
  refine UnaryOp_ (thn (ha pins s σ H _ I h) fun v s1 ⟨x, H1, I1, r1, q1⟩ => ?_)
  obtain ⟨c, rfl, q1⟩ := q1
  cases r1
  exact not_of (wpAny_truthy_bool ⟨.bl (!c), H1, I1, rfl, q1⟩)
def tIf (t : TT) (ta tb : TE) : TE := fun σ H Q => t σ H fun c H1 => if c = true then ta σ H1 Q else tb σ H1 Q
theorem pe_ifExp {c : Expr} (hc : PT X c tA) (ha : PE X a ta) (hb : PE X b tb) : PE X (.IfExp c a b pos) (tIf tA ta tb) := by
  intro pins s σ H Q I h
  refine wpAny_IfExp (thn (hc pins s σ H _ I h) fun d s1 ⟨H1, I1, q1⟩ => ?_)
  cases d with
  | true => exact ha pins s1 σ H1 Q I1 q1
  | false => exact hb pins s1 σ H1 Q I1 q1
end
end L2
namespace L2
open PySem PySem.Spec PyProof.Rows
def SqL (K : PySem.W.Frag) (H : Hp) (a : Addr) (xs : List V) : Prop :=
  Rd H a (.lst xs) ∨
    ∃ (o : Obj) (its : Array Value) (n : Nat), K.lookup a = some o ∧ o.cls = .type "list" ∧ o.dict = none ∧ o.data = .seq its n ∧ its.size ≤ sizeLine ∧ Vals xs its.toList
def SqT (K : PySem.W.Frag) (H : Hp) (a : Addr) (xs : List V) : Prop :=
  Rd H a (.tup xs) ∨
    ∃ (o : Obj) (its : Array Value) (n : Nat), K.lookup a = some o ∧ o.cls = .type "tuple" ∧ o.data = .seq its n ∧ its.size ≤ sizeLine ∧ Vals xs its.toList
def absV : Value → Option V
  | .none => some .non
  | .bool b => some (.bl b)
  | .int i _ => some (.int i)
  | .str x _ => some (.str x)
  | .bytes b _ => some (.byt b)
  | .float b _ => some (.flt b)
  | .ref a => some (.ref a)
  | .type n => some (.ty n)
  | _ => none
theorem RelV.abs {x : V} {u : Value} (r : RelV x u) : absV u = some x := by
  cases x with
  | non => cases r; rfl
  | bl _ => cases r; rfl
  | int _ => obtain ⟨t, rfl⟩ := r; rfl
  | str _ => obtain ⟨t, rfl⟩ := r; rfl
  | byt _ => obtain ⟨t, rfl⟩ := r; rfl
  | flt _ => obtain ⟨t, rfl⟩ := r; rfl
  | ref _ => cases r; rfl
  | ty _ => cases r; rfl
theorem RelV.inj {x y : V} {u : Value} (r : RelV x u) (q : RelV y u) : x = y := Option.some.inj (r.abs.symm.trans q.abs)
theorem Vals.inj : ∀ {xs ys : List V} {us : List Value}, Vals xs us → Vals ys us → xs = ys
  | _, _, _, .nil, .nil => rfl
  | _, _, _, .cons r t, .cons r' t' => by rw [r.inj r', Vals.inj t t']
section
variable {X : Cx} {pins : List (Addr × Obj)} {σ : St} {H : Hp} {s : Shared} {a : Addr} {xs ys : List V}
theorem SqL.of {K : PySem.W.Frag} (h : H a = some (.lst xs)) : SqL K H a xs := .inl (.inl h)
theorem SqT.of {K : PySem.W.Frag} (h : H a = some (.tup xs)) : SqT K H a xs := .inl (.inl h)
theorem Inv.list (I : Inv X pins σ H s) (h : SqL X.K H a xs) : ∃ its : List Value, Vals xs its ∧ PlainL s.heap a its.toArray ∧ xs.length ≤ sizeLine := by
  rcases h with h | ⟨o, its, n, hk, hc, hd, hs, hz, r⟩
  · obtain ⟨z, its, n, r, e⟩ := h.ok I.hok
    exact ⟨its, r, ⟨_, n, e, rfl, rfl, rfl⟩, z⟩
  · refine ⟨its.toList, r, ⟨o, n, I.kIn a o hk, hc, hd, by simpa using hs⟩, ?_⟩
    have e := r.length
    simp only [Array.length_toList] at e
    omega
theorem Inv.tuple (I : Inv X pins σ H s) (h : SqT X.K H a xs) : ∃ its : List Value, Vals xs its ∧ IsTup s.heap a its.toArray ∧ xs.length ≤ sizeLine := by
  rcases h with h | ⟨o, its, n, hk, hc, hs, hz, r⟩
  · obtain ⟨z, its, r, p⟩ := h.ok I.hok
    exact ⟨its, r, p, z⟩
  · refine ⟨its.toList, r, ⟨o, I.kIn a o hk, hc, n, by simpa using hs⟩, ?_⟩
    have e := r.length
    simp only [Array.length_toList] at e
    omega
theorem Inv.list_inj (I : Inv X pins σ H s) (h : SqL X.K H a xs) (h' : SqL X.K H a ys) : xs = ys := by
  obtain ⟨its, r, ⟨o, n, e, _, _, d⟩, _⟩ := I.list h
  obtain ⟨its', r', ⟨o', n', e', _, _, d'⟩, _⟩ := I.list h'
  rw [e] at e'; cases e'
  rw [d] at d'
  injection d' with d1 _
  have : its = its' := by simpa using congrArg Array.toList d1
  subst this
  exact r.inj r'
theorem Inv.tuple_inj (I : Inv X pins σ H s) (h : SqT X.K H a xs) (h' : SqT X.K H a ys) : xs = ys := by
  obtain ⟨its, r, ⟨o, e, _, n, d⟩, _⟩ := I.tuple h
  obtain ⟨its', r', ⟨o', e', _, n', d'⟩, _⟩ := I.tuple h'
  rw [e] at e'; cases e'
  rw [d] at d'
  injection d' with d1 _
  have : its = its' := by simpa using congrArg Array.toList d1
  subst this
  exact r.inj r'
end
abbrev Cx.wish (X : Cx) (E : Value → Shared → Prop) : Cx := { X with xe := E }
abbrev Cx.nox (X : Cx) : Cx := X.wish fun _ _ => False
theorem Cx.Ok.wish {X : Cx} (ok : X.Ok) (E : Value → Shared → Prop) : (X.wish E).Ok :=
  ⟨ok.mod, ok.kind, ok.glob, ok.blt, ok.above, ok.inj, ok.has, ok.cab, ok.hd, ok.frames, ok.stk, ok.exf, ok.bs, ok.bsz, ok.noex, ok.exfs, ok.funs, ok.frf⟩
theorem Cx.Ok.unwish {X : Cx} {E : Value → Shared → Prop} (ok : (X.wish E).Ok) : X.Ok :=
  ⟨ok.mod, ok.kind, ok.glob, ok.blt, ok.above, ok.inj, ok.has, ok.cab, ok.hd, ok.frames, ok.stk, ok.exf, ok.bs, ok.bsz, ok.noex, ok.exfs, ok.funs, ok.frf⟩
section
variable {X : Cx} {pins : List (Addr × Obj)} {σ : St} {H : Hp} {s : Shared} {E : Value → Shared → Prop}
theorem Inv.wish (I : Inv X pins σ H s) (E : Value → Shared → Prop) : Inv (X.wish E) pins σ H s := ⟨I.ok.wish E, I.os, I.bare, I.base, I.loc, I.cell, I.free, I.freeC, I.pin, I.hok, I.len⟩
theorem Inv.unwish (I : Inv (X.wish E) pins σ H s) : Inv X pins σ H s := ⟨I.ok.unwish, I.os, I.bare, I.base, I.loc, I.cell, I.free, I.freeC, I.pin, I.hok, I.len⟩
theorem SP.unwish {D : Ends} {f : Flow} {s' : Shared} (h : SP (X.wish E) pins D f s') : SP X pins D f s' := by
  cases f with
  | next => obtain ⟨σ', H', I, q⟩ := h; exact ⟨σ', H', I.unwish, q⟩
  | brk => obtain ⟨σ', H', I, q⟩ := h; exact ⟨σ', H', I.unwish, q⟩
  | cont => obtain ⟨σ', H', I, q⟩ := h; exact ⟨σ', H', I.unwish, q⟩
  | ret u => obtain ⟨v, σ', H', I, r, q⟩ := h; exact ⟨v, σ', H', I.unwish, r, q⟩
theorem PSs.nox {st : List Stmt} {t : TS} (h : PSs X.nox st t) : PSs X st t := fun pins s σ H D I hw =>
  wpAny_mono (h pins s σ H D (I.wish _) hw) (fun _ _ q => q.unwish) fun _ _ z => False.elim z
end
section
variable {X : Cx} {st : Stmt} {rest : List Stmt} {t u : TS} {e : Expr} {te : TE} {pos : Pos}
def tNext : TS := fun D σ H => D.nx σ H
def tSeq (t u : TS) : TS := fun D σ H => t { D with nx := u D } σ H
theorem pss_nil : PSs X [] tNext := fun _ _ σ H _ I h => wpAny_execs_nil ⟨σ, H, I, h⟩
theorem pss_cons (h1 : PS X st t) (h2 : PSs X rest u) : PSs X (st :: rest) (tSeq t u) := by
  intro pins s σ H D I h
  refine wpAny_execs_cons (thn (h1 pins s σ H { D with nx := u D } I h) fun f s1 q => ?_)
  cases f with
  | next =>
    obtain ⟨σ', H', I', q⟩ := q
    exact h2 pins s1 σ' H' D I' q
  | ret v => exact q
  | brk => exact q
  | cont => exact q
theorem pss_one (h1 : PS X st t) : PSs X [st] t := by
  intro pins s σ H D I h
  refine wpAny_execs_cons (thn (h1 pins s σ H D I h) fun f s1 q => ?_)
  cases f with
  | next => exact wpAny_execs_nil q
  | ret v => exact q
  | brk => exact q
  | cont => exact q
theorem Inv.quiet {pins : List (Addr × Obj)} {σ : St} {H : Hp} {s : Shared} (I : Inv X pins σ H s) : interactive X.env = false := by simp [interactive, I.ok.kind]
def tDrop (te : TE) : TS := fun D σ H => te σ H fun _ H1 => D.nx σ H1
theorem ps_expr (he : PE X e te) (hs : swapsWith e none pos.line X.env = pure false := by rfl) : PS X (.Expr e pos) (tDrop te) := by
  intro pins s σ H D I h
  exact wpAny_Expr_any (thn (he pins s σ H _ I h) fun v s1 ⟨x, H1, I1, r1, q1⟩ => ⟨σ, H1, I1, q1⟩) I.quiet hs
def tRet (te : TE) : TS := fun D σ H => te σ H D.rt
theorem ps_ret (he : PE X e te) : PS X (.Return (some e) pos) (tRet te) := by
  intro pins s σ H D I h
  exact wpAny_Return_some (thn (he pins s σ H _ I h) fun v s1 ⟨x, H1, I1, r1, q1⟩ => ⟨x, σ, H1, I1, r1, q1⟩)
def tIfS (c : TT) (t u : TS) : TS := fun D σ H => c σ H fun b H1 => if b = true then t D σ H1 else u D σ H1
theorem ps_if {c : Expr} {a b : List Stmt} {tc : TT} (hc : PT X c tc) (ha : PSs X a t) (hb : PSs X b u) : PS X (.If c a b pos) (tIfS tc t u) := by
  intro pins s σ H D I h
  refine wpAny_If (thn (hc pins s σ H _ I h) fun d s1 ⟨H1, I1, q1⟩ => ?_)
  cases d with
  | true => exact ha pins s1 σ H1 D I1 q1
  | false => exact hb pins s1 σ H1 D I1 q1
end
abbrev TG := V → St → Hp → (St → Hp → Prop) → Prop
abbrev TGs := List V → St → Hp → (St → Hp → Prop) → Prop
def PG (X : Cx) (target : Expr) (t : TG) : Prop :=
  ∀ (pins : List (Addr × Obj)) (s : Shared) (σ : St) (H : Hp) (v : V) (u : Value) (Q : St → Hp → Prop), Inv X pins σ H s → RelV v u → t v σ H Q →
    wpAny (model X.prog X.w) X.A (assign target X.env u) (fun _ s' => ∃ σ' H', Inv X pins σ' H' s' ∧ Q σ' H') X.xe s
def PGs (X : Cx) (ts : List Expr) (t : TGs) : Prop :=
  ∀ (pins : List (Addr × Obj)) (s : Shared) (σ : St) (H : Hp) (vs : List V) (us : List Value) (Q : St → Hp → Prop), Inv X pins σ H s → Vals vs us → t vs σ H Q →
    wpAny (model X.prog X.w) X.A (assignInOrder ((assignEach ts X.env).map (·.2)) us) (fun _ s' => ∃ σ' H', Inv X pins σ' H' s' ∧ Q σ' H') X.xe s
abbrev TSet := V → V → V → Hp → (Hp → Prop) → Prop
def PSet (X : Cx) (t : TSet) : Prop :=
  ∀ (pins : List (Addr × Obj)) (s : Shared) (σ : St) (H : Hp) (o i v : V) (ov iv u : Value) (Q : Hp → Prop), Inv X pins σ H s → RelV o ov → RelV i iv → RelV v u → t o i v H Q →
    wpAny (model X.prog X.w) X.A (setItem ov iv u) (fun _ s' => ∃ H', Inv X pins σ H' s' ∧ Q H') X.xe s
section
variable {X : Cx} {pos : Pos}
def gName (i : Nat) : TG := fun v σ H Q => Q (σ.set i (some v)) H
theorem pg_name {i : Nat} {x : Str} (hN : X.N.Nodup) (hi : X.N[i]? = some x) (hx : Loc X.env.scope x) (hf : X.fn x = true ∨ X.env.scope.names.lookup x = some .local := by first | exact .inl rfl | exact .inr rfl | assumption) : PG X (.Name x pos) (gName i) := by
  intro pins s σ H v u Q I r h
  exact wpAny_assign_Name (store_ok I hN hi hx r (fun s' I' => ⟨_, H, I', h⟩) hf)
def gNil : TGs := fun vs σ H Q => vs = [] ∧ Q σ H
def gCons (t : TG) (u : TGs) : TGs := fun vs σ H Q => ∃ v r, vs = v :: r ∧ t v σ H fun σ' H' => u r σ' H' Q
theorem pgs_nil : PGs X [] gNil := by
  intro pins s σ H vs us Q I r h
  obtain ⟨e, h⟩ := h
  subst e
  cases r
  exact assignInOrder_nil ⟨σ, H, I, h⟩
theorem pgs_cons {e : Expr} {es : List Expr} {t : TG} {u : TGs} (h1 : PG X e t) (h2 : PGs X es u)
    (hs : (assignEach (e :: es) X.env).map (·.2) = assign e X.env :: (assignEach es X.env).map (·.2) := by rfl) : PGs X (e :: es) (gCons t u) := by
  intro pins s σ H vs us Q I r h
  obtain ⟨v, vr, e1, h⟩ := h
  subst e1
  cases r with
  | cons r rr =>
    rw [hs]
    refine assignInOrder_cons (thn (h1 pins s σ H _ _ _ I r h) fun _ s1 ⟨σ1, H1, I1, q1⟩ => ?_)
    exact h2 pins s1 σ1 H1 _ _ Q I1 rr q1
def gTup (K : PySem.W.Frag) (n : Nat) (t : TGs) : TG := fun v σ H Q => ∃ a xs, v = .ref a ∧ SqT K H a xs ∧ xs.length = n ∧ t xs σ H Q
theorem pg_tup {es : List Expr} {k : Nat} {t : TGs} {n : Nat} (hc : X.calm = true) (h : PGs X es t)
    (hn : (assignEach es X.env).length = n := by rfl) (hst : (assignEach es X.env).findIdx? (·.1) = none := by rfl) : PG X (.Tuple es k pos) (gTup X.K n t) := by
  intro pins s σ H v u Q I r hw
  obtain ⟨a, xs, e1, hq, hl, hw⟩ := hw
  subst e1
  cases r
  obtain ⟨its, rv, ht, hz⟩ := I.tuple hq
  refine assign_Tuple_tuple (I.ok.hd hc) ht (by simp [hn, ← hl, rv.length]) hst fun h' hx => ?_
  have I1 : Inv X pins σ H { s with heap := h' } := I.kept (t' := s.toks) fun b o e => hx b o (Nat.ne_of_lt (Heap.lt_size e)) e
  exact h pins _ σ H xs _ Q I1 (by simpa using rv) hw
def gSub (to ti : TE) (t : TSet) : TG := fun v σ H Q => to σ H fun o H1 => ti σ H1 fun i H2 => t o i v H2 fun H3 => Q σ H3
theorem pg_sub {o i : Expr} {to ti : TE} {t : TSet} (ho : PE X o to) (hi : PE X i ti) (hs : PSet X t)
    (ha : ∀ v, assign (.Subscript o i pos) X.env v = (do
      let ov ← holding [v] (eval o X.env)
      let iv ← holding [v, ov] (eval i X.env)
      standAt pos
      holding [v, ov, iv] (setItem ov iv v)
      release [v, ov, iv] []) := by intro _; rfl) : PG X (.Subscript o i pos) (gSub to ti t) := by
  intro pins s σ H v u Q I r h
  rw [ha]
  refine wpAny_bind (wpAny_holding (thn (ho pins s σ H _ I h) fun ov s1 ⟨x, H1, I1, r1, q1⟩ => ?_))
  refine wpAny_bind (wpAny_holding (thn (hi pins s1 σ H1 _ I1 q1) fun iv s2 ⟨y, H2, I2, r2, q2⟩ => ?_))
  refine wpAny_bind (wpAny_standAt (wpAny_bind (wpAny_holding (thn (hs pins s2 σ H2 x y v ov iv u _ I2 r1 r2 r q2) fun _ s3 ⟨H3, I3, q3⟩ => ?_))))
  exact wpAny_release ⟨σ, H3, I3, q3⟩
def tAsg (te : TE) (g : TG) : TS := fun D σ H => te σ H fun x H1 => g x σ H1 D.nx
theorem ps_asg {tg e : Expr} {te : TE} {g : TG} (he : PE X e te) (hg : PG X tg g) (hs : swapsWithSole [tg] e pos.line X.env = pure false := by rfl) (hw : swappedStores [tg] e X.env = pure none := by rfl)
    (h1 : (assignEach [tg] X.env).map (·.2) = [assign tg X.env] := by rfl) : PS X (.Assign [tg] e pos) (tAsg te g) := by
  intro pins s σ H D I h
  refine wpAny_Assign_stores (thn (he pins s σ H _ I h) fun v s1 ⟨x, H1, I1, r1, q1⟩ => ?_) hs hw
  rw [h1]
  exact thn (hg pins s1 σ H1 x v _ I1 r1 q1) fun _ s2 q => q
theorem ps_set {i : Nat} {x : Str} {e : Expr} {te : TE} {pos' : Pos} (hN : X.N.Nodup) (hi : X.N[i]? = some x) (hx : Loc X.env.scope x) (he : PE X e te) (hs : swapsWith e (some (.Name x pos')) pos.line X.env = pure false := by rfl) (hf : X.fn x = true ∨ X.env.scope.names.lookup x = some .local := by first | exact .inl rfl | exact .inr rfl | assumption) :
    PS X (.Assign [.Name x pos'] e pos) (tAsg te (gName i)) := by
  intro pins s σ H D I h
  refine wpAny_Assign_Name (thn (he pins s σ H _ I h) fun v s1 ⟨y, H1, I1, r1, q1⟩ => ?_) hs
  exact store_ok I1 hN hi hx r1 (fun s2 I2 => ⟨_, H1, I2, q1⟩) hf
def tPar (i j : Nat) (ta : TA) : TS := fun D σ H => ta σ H fun vs H1 => ∃ v w, vs = [v, w] ∧ D.nx ((σ.set i (some v)).set j (some w)) H1
theorem ps_par {i j : Nat} {x y : Str} {a b : Expr} {ta : TA} {px py pt : Pos} {kt k2 pt2} (hc : X.calm = true) (hN : X.N.Nodup) (hi : X.N[i]? = some x) (hj : X.N[j]? = some y) (hij : i ≠ j)
    (hx : X.env.scope.names.lookup x = some .local) (hy : X.env.scope.names.lookup y = some .local) (ha : PA X [a, b] ta)
    (hw : swappedStores [.Tuple [.Name x px, .Name y py] kt pt] (.Tuple [a, b] k2 pt2) X.env = pure (some [x, y]))
    (hs : swapsWithSole [.Tuple [.Name x px, .Name y py] kt pt] (.Tuple [a, b] k2 pt2) pos.line X.env = pure false := by rfl) :
    PS X (.Assign [.Tuple [.Name x px, .Name y py] kt pt] (.Tuple [a, b] k2 pt2) pos) (tPar i j ta) := by
  intro pins s σ H D I h
  rw [exec_Assign_arm]
  refine wpAny_bind (wpAny_standAt ?_)
  rw [hs]
  refine wpAny_bind (wpAny_pure ?_)
  rw [if_neg (by decide)]
  refine wpAny_bind (Tuple_ (thn (ha _ pins s σ H _ I h) fun us s1 ⟨vs, H1, I1, r1, q1⟩ => ?_))
  obtain ⟨v, w, e1, q1⟩ := q1
  subst e1
  obtain ⟨u1, u2, rfl, rv, rw'⟩ : ∃ u1 u2, us = [u1, u2] ∧ RelV v u1 ∧ RelV w u2 := by
    cases r1 with
    | cons p q =>
      cases q with
      | cons p' q' =>
        cases q'
        exact ⟨_, _, rfl, p, p'⟩
  refine wpAny_newObj_type ?_ (by show 2 ≤ sizeLine; decide)
  have I2 : Inv X pins σ H1 { s1 with heap := s1.heap.push { cls := .type "tuple", data := .seq [u1, u2].toArray } } := I1.kept (t' := s1.toks) fun b o e => Heap.get?_push_of_some _ e
  rw [hw]
  refine wpAny_bind (wpAny_pure ?_)
  show wpAny (model X.prog X.w) X.A (do rule "assign.swapped-stores"; let items ← unpackItems (.ref s1.heap.objs.size) 2 none; assignInOrder [fun v => bindName X.env y v, fun v => bindName X.env x v] items.reverse; pure Flow.next) _ _ _
  refine wpAny_bind (wpAny_rule (wpAny_bind (unpackItems_tuple (items := #[u1, u2]) (I.ok.hd hc) (IsTup.new s1.heap _) fun h' hx' => ?_)))
  have I3 := I2.kept (h' := h') (t' := s1.toks) fun b o e => hx' b o (Nat.ne_of_lt (Heap.lt_size e)) e
  show wpAny _ _ (assignInOrder [fun v => bindName X.env y v, fun v => bindName X.env x v] [u2, u1] >>= fun _ => pure Flow.next) _ _ _
  refine wpAny_bind (assignInOrder_cons (wpAny_bindName (store_ok I3 hN hj (.inl hy) rw' (fun s2 I4 => ?_) (.inr hy))))
  refine assignInOrder_cons (wpAny_bindName (store_ok I4 hN hi (.inl hx) rv (fun s3 I5 => assignInOrder_nil (wpAny_pure ?_)) (.inr hx)))
  rw [List.set_comm _ _ (Ne.symm hij)] at I5
  exact ⟨_, H1, I5, q1⟩
end
structure It where
  go : Nat → Hp → Prop
  yld : Nat → Hp → V → Hp → Prop
  stop : Nat → Hp → Prop
def FpOk (X : Cx) (pins : List (Addr × Obj)) (H : Hp) (b : Addr) : Prop :=
  H b = none ∧ b ≠ X.env.locals ∧ b ∉ X.fs ∧ (b ∈ X.ex ∨ X.s₀.heap.objs.size ≤ b) ∧ (∀ x c, X.env.cells.lookup x = some c → c ≠ b) ∧ ∀ p ∈ X.pn ++ pins, p.1 ≠ b
theorem Inv.fpOk {X : Cx} {pins : List (Addr × Obj)} {σ : St} {H H' : Hp} {s : Shared} {b : Addr} (I : Inv X pins σ H s) (hb : s.heap.objs.size ≤ b) (hn : H' b = none) : FpOk X pins H' b := by
  refine ⟨hn, Nat.ne_of_gt (Nat.lt_of_lt_of_le I.lt hb), I.nofs hb, .inr (Nat.le_trans I.sz hb), fun x c e z => ?_, fun p hp z => ?_⟩
  · obtain ⟨v, q⟩ := I.cell x c e
    exact absurd (Nat.lt_of_lt_of_le q.lt (by rw [z]; exact hb)) (Nat.lt_irrefl _)
  · exact absurd (Nat.lt_of_lt_of_le (Heap.lt_size (I.pin p hp).1) (by rw [z]; exact hb)) (Nat.lt_irrefl _)
structure Turn (P : Program) (w : World) (K : PySem.W.Frag) (tg : Expr) (J : It) (fp : List Addr) (it : Addr) (tn : Nat → Heap → Prop) : Prop where
  mem : it ∈ fp
  obj : ∀ i h, tn i h → ∀ b ∈ fp, ∃ o, h.get? b = some o ∧ ∀ v, o.data ≠ .cell v
  keep : ∀ i h h', tn i h → (∀ b ∈ fp, ∀ o, h.get? b = some o → h'.get? b = some o) → tn i h'
  item : ∀ (X : Cx), X.prog = P → X.w = w → X.K = K → X.calm = true → ∀ (i : Nat) (pins : List (Addr × Obj)) (s : Shared) (σ : St) (H : Hp) (E : Value → Shared → Prop), Inv X pins σ H s → (∀ b ∈ fp, FpOk X pins H b) → tn i s.heap → J.go i H →
    wpAny (model P w) X.A (pyNext (.ref it)) (fun r s1 => ∃ u, r = some u ∧
      wpAny (model P w) X.A (letOwnedTupleGo tg (.ref it) u) (fun _ s2 => ∃ x H', Inv X pins σ H' s2 ∧ RelV x u ∧ J.yld i H x H' ∧ tn (i + 1) s2.heap ∧ ∀ b ∈ fp, H' b = none) E s1) E s
  done : ∀ (X : Cx), X.prog = P → X.w = w → X.K = K → X.calm = true → ∀ (i : Nat) (pins : List (Addr × Obj)) (s : Shared) (σ : St) (H : Hp) (E : Value → Shared → Prop), Inv X pins σ H s → (∀ b ∈ fp, FpOk X pins H b) → tn i s.heap → J.stop i H →
    wpAny (model P w) X.A (pyNext (.ref it)) (fun r s1 => r = none ∧ Inv X pins σ H s1) E s
  self : ∀ (A : Around) (i : Nat) (s : Shared) (Q : Value → Shared → Prop) (E : Value → Shared → Prop), tn i s.heap → Q (.ref it) s → wpAny (model P w) A (pyIter (.ref it)) Q E s
abbrev TI := St → Hp → (It → Hp → Prop) → Prop
def PIE (X : Cx) (pins : List (Addr × Obj)) (σ : St) (tg : Expr) (R : It → Hp → Prop) (itv : Value) (s2 : Shared) : Prop :=
  ∃ (it : Addr) (fp : List Addr) (tn : Nat → Heap → Prop) (J : It) (H' : Hp), itv = .ref it ∧ Inv X pins σ H' s2 ∧ Turn X.prog X.w X.K tg J fp it tn ∧ tn 0 s2.heap ∧ (∀ b ∈ fp, FpOk X pins H' b) ∧ R J H'
def PI (X : Cx) (tg iter : Expr) (wi : TI) : Prop :=
  ∀ (pins : List (Addr × Obj)) (s : Shared) (σ : St) (H : Hp) (R : It → Hp → Prop), Inv X pins σ H s → wi σ H R →
    wpAny (model X.prog X.w) X.A (eval iter X.env) (fun v s1 => wpAny (model X.prog X.w) X.A (pyIter v) (PIE X pins σ tg R) X.xe s1) X.xe s
theorem go_of {M : Model} {A : Around} {E : Value → Shared → Prop} {s : Shared} {tg : Expr} {it : Addr} {u : Value} {o : Obj} {n : String} {vs : Array Value} {Q : Unit → Shared → Prop} (ho : s.heap.get? it = some o) (hc : o.cls = .type n) (hd : o.data = .fields vs)
    (hn : ["enumerate", "zip", "dict_itemiterator", "dict_reverseitemiterator", "odict_iterator", "itertools.zip_longest", "itertools.pairwise"].contains n = false) (hQ : Q () s) : wpAny M A (letOwnedTupleGo tg (.ref it) u) Q E s := by
  unfold letOwnedTupleGo
  cases tg <;> first
    | exact wpAny_pure hQ
    | (cases u <;> first
        | exact wpAny_pure hQ
        | (refine wpAny_bind (wpAny_load ho ?_)
           rw [hc, hd]
           show wpAny M A (if (["enumerate", "zip", "dict_itemiterator", "dict_reverseitemiterator", "odict_iterator", "itertools.zip_longest", "itertools.pairwise"].contains n && vs[0]? == some (rawInt _)) = true then _ else _) Q E s
           rw [if_neg (by intro h; rw [hn, Bool.false_and] at h; cases h)]
           exact wpAny_pure hQ))
def Itl (K : PySem.W.Frag) (a : Addr) : It :=
  ⟨fun i H => ∃ xs x, SqL K H a xs ∧ xs[i]? = some x, fun i H x H' => H' = H ∧ ∀ xs, SqL K H a xs → xs[i]? = some x, fun i H => ∃ xs, SqL K H a xs ∧ xs.length ≤ i⟩
def Itt (K : PySem.W.Frag) (a : Addr) : It :=
  ⟨fun i H => ∃ xs x, SqT K H a xs ∧ xs[i]? = some x, fun i H x H' => H' = H ∧ ∀ xs, SqT K H a xs → xs[i]? = some x, fun i H => ∃ xs, SqT K H a xs ∧ xs.length ≤ i⟩
def Itr (lo : Int) (n : Nat) : It := ⟨fun i _ => i < n, fun i H x H' => H' = H ∧ x = .int (lo + i), fun i _ => n ≤ i⟩
theorem turn_list {P : Program} {w : World} {K : PySem.W.Frag} {tg : Expr} (a it : Addr) : Turn P w K tg (Itl K a) [it] it (fun i h => h.IsListIter it a i) where
  mem := by simp
  obj := fun i h st b hb => by
    have e : b = it := by simpa using hb
    subst e
    obtain ⟨o, e, c, d⟩ := st
    exact ⟨o, e, fun v z => by rw [d] at z; cases z⟩
  keep := fun i h h' st k => st.at fun o e => k it (by simp) o e
  item := by
    intro X hP hw hK hc i pins s σ H E I hf st hg
    subst hP hw hK
    obtain ⟨xs, x, hq, hx⟩ := hg
    obtain ⟨its, rv, p, hz⟩ := I.list hq
    obtain ⟨u, hu, ru⟩ := rv.get hx
    obtain ⟨f0, f1, f2, f3, f4, f5⟩ := hf it (by simp)
    refine wpAny_pyNext_list_item st p.isList (x := u) (by simpa using hu) fun h' st' sb => ?_
    have I1 : Inv X pins σ H { s with heap := h' } := I.turned (t' := s.toks) (fun b o hb e => (sb.2 b hb).trans e) f0 f1 f3 f4 f5
    obtain ⟨o, e, c, d⟩ := id st'
    exact ⟨u, rfl, go_of (s := { s with heap := h' }) e c d (by decide) ⟨x, H, I1, ru, ⟨rfl, fun ys hy => by rw [I.list_inj hy hq]; exact hx⟩, st', fun b hb => (hf b hb).1⟩⟩
  done := by
    intro X hP hw hK hc i pins s σ H E I hf st hg
    subst hP hw hK
    obtain ⟨xs, hq, hx⟩ := hg
    obtain ⟨its, rv, p, hz⟩ := I.list hq
    obtain ⟨f0, f1, f2, f3, f4, f5⟩ := hf it (by simp)
    have hl := rv.length
    exact wpAny_pyNext_list_end (I.ok.hd hc) st p.isList (by simp; omega) fun h' eb => ⟨rfl, I.turned (t' := s.toks) (fun b o hb e => eb b o hb e) f0 f1 f3 f4 f5⟩
  self := fun _ _ _ _ _ st h => wpAny_pyIter_listiter st h
theorem turn_tuple {P : Program} {w : World} {K : PySem.W.Frag} {tg : Expr} (a it : Addr) : Turn P w K tg (Itt K a) [it] it (fun i h => h.IsTupleIter it a i) where
  mem := by simp
  obj := fun i h st b hb => by
    have e : b = it := by simpa using hb
    subst e
    obtain ⟨o, e, c, d⟩ := st
    exact ⟨o, e, fun v z => by rw [d] at z; cases z⟩
  keep := fun i h h' st k => st.at fun o e => k it (by simp) o e
  item := by
    intro X hP hw hK hc i pins s σ H E I hf st hg
    subst hP hw hK
    obtain ⟨xs, x, hq, hx⟩ := hg
    obtain ⟨its, rv, p, hz⟩ := I.tuple hq
    obtain ⟨u, hu, ru⟩ := rv.get hx
    obtain ⟨f0, f1, f2, f3, f4, f5⟩ := hf it (by simp)
    refine wpAny_pyNext_tuple_item st (show s.heap.IsTuple a its.toArray from p) (x := u) (by simpa using hu) fun h' st' sb => ?_
    have I1 : Inv X pins σ H { s with heap := h' } := I.turned (t' := s.toks) (fun b o hb e => (sb.2 b hb).trans e) f0 f1 f3 f4 f5
    obtain ⟨o, e, c, d⟩ := id st'
    exact ⟨u, rfl, go_of (s := { s with heap := h' }) e c d (by decide) ⟨x, H, I1, ru, ⟨rfl, fun ys hy => by rw [I.tuple_inj hy hq]; exact hx⟩, st', fun b hb => (hf b hb).1⟩⟩
  done := by
    intro X hP hw hK hc i pins s σ H E I hf st hg
    subst hP hw hK
    obtain ⟨xs, hq, hx⟩ := hg
    obtain ⟨its, rv, p, hz⟩ := I.tuple hq
    obtain ⟨f0, f1, f2, f3, f4, f5⟩ := hf it (by simp)
    have hl := rv.length
    exact wpAny_pyNext_tuple_end (I.ok.hd hc) st (show s.heap.IsTuple a its.toArray from p) (by simp; omega) fun h' eb => ⟨rfl, I.turned (t' := s.toks) (fun b o hb e => eb b o hb e) f0 f1 f3 f4 f5⟩
  self := fun _ _ _ _ _ st h => wpAny_pyIter_tupleiter st h
theorem turn_range {P : Program} {w : World} {K : PySem.W.Frag} {tg : Expr} (it : Addr) (lo : Int) (n : Nat) : Turn P w K tg (Itr lo n) [it] it (fun i h => IsRangeIter h it (lo + (i : Nat) * 1) ((n : Int) - (i : Nat)) 1) where
  mem := by simp
  obj := fun i h st b hb => by
    have e : b = it := by simpa using hb
    subst e
    exact ⟨_, st, fun v z => by
      have z' : Data.fields _ = Data.cell v := z
      cases z'⟩
  keep := fun i h h' st k => k it (by simp) _ st
  item := by
    intro X hP hw hK hc i pins s σ H E I hf st hg
    subst hP hw hK
    obtain ⟨f0, f1, f2, f3, f4, f5⟩ := hf it (by simp)
    have W := Walks.range (prog := X.prog) (w := X.w) (I.ok.hd hc) it lo 1 n
    refine W.item i s _ _ hg st fun v h' tk hv st' kk => ?_
    obtain ⟨t, rfl⟩ := hv
    have I1 : Inv X pins σ H { s with heap := h', toks := tk } := I.turned (fun b o hb e => kk b o (by simpa using hb) e) f0 f1 f3 f4 f5
    refine ⟨_, rfl, go_of (s := { s with heap := h', toks := tk }) (n := "range_iterator") st' rfl rfl (by decide) ⟨.int (lo + i), H, I1, ⟨t, ?_⟩, ⟨rfl, rfl⟩, st', fun b hb => (hf b hb).1⟩⟩
    rw [Int.mul_one]
  done := by
    intro X hP hw hK hc i pins s σ H E I hf st hg
    subst hP hw hK
    obtain ⟨f0, f1, f2, f3, f4, f5⟩ := hf it (by simp)
    exact wpAny_pyNext_range_end (I.ok.hd hc) st (by have : n ≤ i := hg; omega) fun h' eb => ⟨rfl, I.turned (t' := s.toks) (fun b o hb e => eb b o hb e) f0 f1 f3 f4 f5⟩
  self := fun _ _ _ _ _ st h => wpAny_pyIter_rangeiter st h
end L2
namespace L2
open PySem PySem.Spec PyProof.Rows
section
variable {X : Cx} {tg : Expr}
def iList (K : PySem.W.Frag) (tl : TE) : TI := fun σ H R => tl σ H fun x H1 => ∃ a, x = .ref a ∧ (∃ xs, SqL K H1 a xs) ∧ R (Itl K a) H1
def iTup (K : PySem.W.Frag) (tl : TE) : TI := fun σ H R => tl σ H fun x H1 => ∃ a, x = .ref a ∧ (∃ xs, SqT K H1 a xs) ∧ R (Itt K a) H1
theorem pi_list {l : Expr} {tl : TE} (hl : PE X l tl) : PI X tg l (iList X.K tl) := by
  intro pins s σ H R I h
  refine thn (hl pins s σ H _ I h) fun v s1 ⟨x, H1, I1, r1, q1⟩ => ?_
  obtain ⟨a, e, ⟨xs, hq⟩, q⟩ := q1
  subst e
  cases r1
  obtain ⟨its, rv, p, hz⟩ := I1.list hq
  refine wpAny_pyIter_list p.isList ?_
  refine ⟨s1.heap.objs.size, [s1.heap.objs.size], _, _, H1, rfl, I1.kept (t' := s1.toks) fun b o e => Heap.get?_push_of_some _ e, turn_list a _, ⟨_, Heap.get?_push_size _ rfl, rfl, rfl⟩, fun b hb => ?_, q⟩
  have e : b = s1.heap.objs.size := by simpa using hb
  subst e
  exact I1.fpOk (Nat.le_refl _) (I1.hok.fresh (Nat.le_refl _))
theorem pi_tup {l : Expr} {tl : TE} (hl : PE X l tl) : PI X tg l (iTup X.K tl) := by
  intro pins s σ H R I h
  refine thn (hl pins s σ H _ I h) fun v s1 ⟨x, H1, I1, r1, q1⟩ => ?_
  obtain ⟨a, e, ⟨xs, hq⟩, q⟩ := q1
  subst e
  cases r1
  obtain ⟨its, rv, p, hz⟩ := I1.tuple hq
  refine wpAny_pyIter_tuple (show s1.heap.IsTuple a its.toArray from p) ?_
  refine ⟨s1.heap.objs.size, [s1.heap.objs.size], _, _, H1, rfl, I1.kept (t' := s1.toks) fun b o e => Heap.get?_push_of_some _ e, turn_tuple a _, ⟨_, Heap.get?_push_size _ rfl, rfl, rfl⟩, fun b hb => ?_, q⟩
  have e : b = s1.heap.objs.size := by simpa using hb
  subst e
  exact I1.fpOk (Nat.le_refl _) (I1.hok.fresh (Nat.le_refl _))
theorem range_it {pins : List (Addr × Obj)} {σ : St} {H : Hp} {s : Shared} {R : It → Hp → Prop} {E : Value → Shared → Prop} {lo hi : Int} {t u v : Tok} {tk : Nat} (I : Inv X pins σ H s) (h1 : -(2 ^ 62) ≤ lo) (h2 : lo < 2 ^ 62) (h3 : -(2 ^ 62) ≤ hi) (h4 : hi < 2 ^ 62)
    (q : R (Itr lo (hi - lo).toNat) H) : wpAny (model X.prog X.w) X.A (pyIter (.ref s.heap.objs.size)) (PIE X pins σ tg R) E { s with heap := s.heap.push { cls := .type "range", data := .fields #[.int lo t, .int hi u, .int 1 v] }, toks := tk } := by
  refine wpAny_pyIter_range (IsRange.new ..) (small_one h1 h2 h3 h4) ?_
  have I1 : Inv X pins σ H { s with heap := s.heap.push { cls := .type "range", data := .fields #[.int lo t, .int hi u, .int 1 v] }, toks := tk } := I.kept fun b o e => Heap.get?_push_of_some _ e
  refine ⟨(s.heap.push { cls := .type "range", data := .fields #[.int lo t, .int hi u, .int 1 v] }).objs.size, [(s.heap.push { cls := .type "range", data := .fields #[.int lo t, .int hi u, .int 1 v] }).objs.size], _, _, H, rfl,
    I1.kept (t' := tk) fun b o e => Heap.get?_push_of_some _ e, turn_range _ lo (hi - lo).toNat, ?_, fun b hb => ?_, q⟩
  · have e1 : lo + ((0 : Nat) : Int) * 1 = lo := by simp
    have e2 : (((hi - lo).toNat : Nat) : Int) - ((0 : Nat) : Int) = Builtin.Range.rangeSize lo hi 1 := by rw [rangeSize_one]; split <;> omega
    show IsRangeIter _ _ (lo + ((0 : Nat) : Int) * 1) ((((hi - lo).toNat : Nat) : Int) - ((0 : Nat) : Int)) 1
    rw [e1, e2]
    exact Heap.get?_push_size _ rfl
  · have e : b = (s.heap.push { cls := .type "range", data := .fields #[.int lo t, .int hi u, .int 1 v] }).objs.size := by simpa using hb
    subst e
    exact I1.fpOk (Nat.le_refl _) (I1.hok.fresh (Nat.le_refl _))
def iRng1 (ta : TA) : TI := fun σ H R => ta σ H fun vs H1 => ∃ j : Int, vs = [.int j] ∧ -(2 ^ 62) ≤ j ∧ j < 2 ^ 62 ∧ R (Itr 0 j.toNat) H1
theorem pi_range1 {a : Expr} {ta : TA} {p pos : Pos} (hg : Gl X "range") (hm : X.mg "range" = none) (ha : PA X [a] ta) (hs : starEach [a] X.env = [(false, eval a X.env)] := by rfl) : PI X tg (.Call (.Name "range" p) [a] [] pos) (iRng1 ta) := by
  intro pins s σ H R I h
  refine Call_ (ld_blt I hg hm boot_range (PyProof.Rows.callWith_type1 (thn (ha pos pins s σ H _ I h) fun us s1 ⟨vs, H1, I1, r1, q1⟩ => ?_) hs rfl))
  obtain ⟨j, e, q1, q2, q⟩ := q1
  subst e
  cases r1 with
  | cons r rr =>
    cases rr
    obtain ⟨t, rfl⟩ := r
    exact call_range_1 (range_it I1 (by omega) (by omega) q1 q2 (by simpa using q))
def tFor (wi : TI) (g : TG) (tb : TS) : TS := fun D σ H => wi σ H fun J H1 => ∃ W : Nat → Nat → St → Hp → Prop, (∃ m, W 0 m σ H1) ∧ ∀ i m σ H, W i m σ H →
  (J.stop i H ∧ D.nx σ H) ∨ (J.go i H ∧ ∃ N : St → Hp → Prop, (∀ σ' H', N σ' H' → ∃ m', m' < m ∧ W (i + 1) m' σ' H') ∧ ∀ x H', J.yld i H x H' → g x σ H' fun σ2 H2 => tb { D with nx := N, ct := N, bk := D.nx } σ2 H2)
def pinsAt (fp : List Addr) (h : Heap) : List (Addr × Obj) := fp.filterMap fun b => (h.get? b).map fun o => (b, o)
theorem mem_pinsAt {fp : List Addr} {h : Heap} {b : Addr} {o : Obj} (hb : b ∈ fp) (e : h.get? b = some o) : (b, o) ∈ pinsAt fp h := List.mem_filterMap.mpr ⟨b, hb, by rw [e]; rfl⟩
theorem of_pinsAt {fp : List Addr} {h : Heap} {p : Addr × Obj} (hp : p ∈ pinsAt fp h) : p.1 ∈ fp ∧ h.get? p.1 = some p.2 := by
  obtain ⟨b, hb, e⟩ := List.mem_filterMap.mp hp
  cases q : h.get? b with
  | none => rw [q] at e; cases e
  | some o =>
    rw [q] at e
    have e' : (b, o) = p := Option.some.inj e
    subst e'
    exact ⟨hb, q⟩
theorem Inv.pinned {pins : List (Addr × Obj)} {σ : St} {H : Hp} {s : Shared} {fp : List Addr} (I : Inv X pins σ H s) (hf : ∀ b ∈ fp, FpOk X pins H b) (ho : ∀ b ∈ fp, ∃ o, s.heap.get? b = some o ∧ ∀ v, o.data ≠ .cell v) : Inv X (pins ++ pinsAt fp s.heap) σ H s :=
  I.pins_of fun p hp => (List.mem_append.mp hp).elim (fun z => I.pin p (List.mem_append_right _ z)) fun z => by
    obtain ⟨hb, e⟩ := of_pinsAt z
    obtain ⟨f0, f1, f2, _⟩ := hf p.1 hb
    obtain ⟨o, e', d⟩ := ho p.1 hb
    rw [e] at e'; cases e'
    exact ⟨e, f0, f1, f2, d⟩
theorem Inv.unpinned {pins pl : List (Addr × Obj)} {σ : St} {H : Hp} {s : Shared} (I : Inv X (pins ++ pl) σ H s) : Inv X pins σ H s := I.pins_of fun p hp => I.pin p (List.mem_append_right _ (List.mem_append_left _ hp))
theorem ps_for {iter : Expr} {body : List Stmt} {wi : TI} {g : TG} {tb : TS} {pos : Pos} (hp : PassesOwn (model X.prog X.w) X.A X.env X.xe) (hc : X.calm = true) (hi : PI X tg iter wi) (hg : PG X tg g) (hb : PSs X body tb)
    (hs : ∀ x, foldedSetIterable iter X.env x = pure x := by intro _; rfl) : PS X (.For tg iter body [] pos) (tFor wi g tb) := by
  intro pins s σ H D I h
  refine wpAny_For (thn (hi pins s σ H _ I h) fun v s1 h1 => thn h1 fun itv s2 h2 => ?_) hs
  obtain ⟨it, fp, tn, J, H2, e, I2, T, st2, f2, W, ⟨m0, w0⟩, turn⟩ := h2
  subst e
  -- what stays true of the iterator's objects through the loop
  have stat : ∀ {H' : Hp}, (∀ b ∈ fp, H' b = none) → ∀ b ∈ fp, FpOk X pins H' b := fun hn b hb => ⟨hn b hb, (f2 b hb).2⟩
  refine codeAny_forLoop_any (fun n s' => ∃ i σ' H', Inv X pins σ' H' s' ∧ tn i s'.heap ∧ (∀ b ∈ fp, H' b = none) ∧ W i n σ' H') ?_ m0 ⟨0, σ, H2, I2, st2, fun b hb => (f2 b hb).1, w0⟩
  rintro n s3 ⟨i, σ3, H3, I3, st3, fr3, w3⟩
  rcases turn i n σ3 H3 w3 with ⟨stop, qn⟩ | ⟨go, N, hN, step⟩
  · refine wpAny_passesOwn hp (thn (T.done X rfl rfl rfl hc i pins s3 σ3 H3 X.xe I3 (stat fr3) st3 stop) fun r s4 ⟨hr, I4⟩ => ?_)
    subst hr
    exact wpAny_execs_nil ⟨σ3, H3, I4, qn⟩
  · refine wpAny_passesOwn hp (thn (T.item X rfl rfl rfl hc i pins s3 σ3 H3 X.xe I3 (stat fr3) st3 go) fun r s4 ⟨u, hr, h4⟩ => ?_)
    subst hr
    refine wpAny_passesOwn hp (thn h4 fun _ s5 ⟨x, H5, I5, r5, y5, st5, fr5⟩ => ?_)
    have I5' := I5.pinned (stat fr5) (T.obj _ _ st5)
    refine wpAny_passesOwn hp (thn (hg _ s5 σ3 H5 x u _ I5' r5 (step x H5 y5)) fun _ s6 ⟨σ6, H6, I6, q6⟩ => ?_)
    refine wpAny_passesOwn hp (thn (hb _ s6 σ6 H6 _ I6 q6) fun f s7 q7 => ?_)
    have again : ∀ {σ7 : St} {H7 : Hp}, Inv X (pins ++ pinsAt fp s5.heap) σ7 H7 s7 → N σ7 H7 → ∃ m, m < n ∧ ∃ i σ' H', Inv X pins σ' H' s7 ∧ tn i s7.heap ∧ (∀ b ∈ fp, H' b = none) ∧ W i m σ' H' := fun {σ7 H7} I7 n7 => by
      obtain ⟨m', hm, w7⟩ := hN σ7 H7 n7
      refine ⟨m', hm, i + 1, σ7, H7, I7.unpinned, T.keep _ _ _ st5 fun b hb o e => (I7.pin (b, o) (List.mem_append_right _ (List.mem_append_right _ (mem_pinsAt hb e)))).1, fun b hb => ?_, w7⟩
      obtain ⟨o, e, d⟩ := T.obj _ _ st5 b hb
      exact (I7.pin (b, o) (List.mem_append_right _ (List.mem_append_right _ (mem_pinsAt hb e)))).2.1
    cases f with
    | next => obtain ⟨σ7, H7, I7, n7⟩ := q7; exact again I7 n7
    | cont => obtain ⟨σ7, H7, I7, n7⟩ := q7; exact again I7 n7
    | brk => obtain ⟨σ7, H7, I7, q7⟩ := q7; exact ⟨σ7, H7, I7.unpinned, q7⟩
    | ret v => obtain ⟨x7, σ7, H7, I7, r7, q7⟩ := q7; exact ⟨x7, σ7, H7, I7.unpinned, r7, q7⟩
end
theorem for_list {K : PySem.W.Frag} {a : Addr} {xs : List V} {g : TG} {tb : TS} {D : Ends} {σ : St} {H : Hp} (Pv : Nat → St → Hp → Prop) (h0 : Pv 0 σ H) (hl : ∀ i σ H, i ≤ xs.length → Pv i σ H → SqL K H a xs)
    (hs : ∀ i x σ H, xs[i]? = some x → Pv i σ H → g x σ H fun σ2 H2 => tb { D with nx := Pv (i + 1), ct := Pv (i + 1), bk := D.nx } σ2 H2) (hd : ∀ σ H, Pv xs.length σ H → D.nx σ H) :
    ∃ W : Nat → Nat → St → Hp → Prop, (∃ m, W 0 m σ H) ∧ ∀ i m σ H, W i m σ H →
      ((Itl K a).stop i H ∧ D.nx σ H) ∨ ((Itl K a).go i H ∧ ∃ N : St → Hp → Prop, (∀ σ' H', N σ' H' → ∃ m', m' < m ∧ W (i + 1) m' σ' H') ∧ ∀ x H', (Itl K a).yld i H x H' → g x σ H' fun σ2 H2 => tb { D with nx := N, ct := N, bk := D.nx } σ2 H2) := by
  refine ⟨fun i m σ H => m = xs.length - i ∧ i ≤ xs.length ∧ Pv i σ H, ⟨xs.length, by simp, Nat.zero_le _, h0⟩, ?_⟩
  rintro i m σ H ⟨rfl, hi, p⟩
  have q := hl i σ H hi p
  by_cases hlt : i < xs.length
  · refine .inr ⟨⟨xs, xs[i], q, by simp [hlt]⟩, Pv (i + 1), fun σ' H' p' => ⟨xs.length - (i + 1), by omega, rfl, hlt, p'⟩, fun x H' y => ?_⟩
    obtain ⟨e, y⟩ := y
    subst e
    exact hs i x σ _ (y xs q) p
  · have e : i = xs.length := by omega
    subst e
    exact .inl ⟨⟨xs, q, Nat.le_refl _⟩, hd σ H p⟩
theorem for_range {lo : Int} {n : Nat} {g : TG} {tb : TS} {D : Ends} {σ : St} {H : Hp} (Pv : Nat → St → Hp → Prop) (h0 : Pv 0 σ H)
    (hs : ∀ i σ H, i < n → Pv i σ H → g (.int (lo + i)) σ H fun σ2 H2 => tb { D with nx := Pv (i + 1), ct := Pv (i + 1), bk := D.nx } σ2 H2) (hd : ∀ σ H, Pv n σ H → D.nx σ H) :
    ∃ W : Nat → Nat → St → Hp → Prop, (∃ m, W 0 m σ H) ∧ ∀ i m σ H, W i m σ H →
      ((Itr lo n).stop i H ∧ D.nx σ H) ∨ ((Itr lo n).go i H ∧ ∃ N : St → Hp → Prop, (∀ σ' H', N σ' H' → ∃ m', m' < m ∧ W (i + 1) m' σ' H') ∧ ∀ x H', (Itr lo n).yld i H x H' → g x σ H' fun σ2 H2 => tb { D with nx := N, ct := N, bk := D.nx } σ2 H2) := by
  refine ⟨fun i m σ H => m = n - i ∧ i ≤ n ∧ Pv i σ H, ⟨n, by simp, Nat.zero_le _, h0⟩, ?_⟩
  rintro i m σ H ⟨rfl, hi, p⟩
  by_cases hlt : i < n
  · refine .inr ⟨hlt, Pv (i + 1), fun σ' H' p' => ⟨n - (i + 1), by omega, rfl, hlt, p'⟩, fun x H' y => ?_⟩
    obtain ⟨e, y⟩ := y
    subst e y
    exact hs i σ _ hlt p
  · have e : i = n := by omega
    subst e
    exact .inl ⟨Nat.le_refl _, hd σ H p⟩
end L2
namespace L2
open PySem PySem.Spec PyProof.Rows
abbrev R2 := V → V → Hp → VK → Prop
def OpR (X : Cx) (f : Value → Value → Sem Value) (r : R2) : Prop :=
  ∀ (pins : List (Addr × Obj)) (s : Shared) (σ : St) (H : Hp) (x y : V) (v u : Value) (Q : VK), Inv X pins σ H s → RelV x v → RelV y u → r x y H Q →
    wpAny (model X.prog X.w) X.A (f v u) (EP X pins σ Q) X.xe s
def UnR (X : Cx) (f : Value → Sem Value) (r : V → Hp → VK → Prop) : Prop :=
  ∀ (pins : List (Addr × Obj)) (s : Shared) (σ : St) (H : Hp) (x : V) (v : Value) (Q : VK), Inv X pins σ H s → RelV x v → r x H Q →
    wpAny (model X.prog X.w) X.A (f v) (EP X pins σ Q) X.xe s
def CallR (X : Cx) (f : Value) (r : List V → Hp → VK → Prop) : Prop :=
  ∀ (pins : List (Addr × Obj)) (s : Shared) (σ : St) (H : Hp) (xs : List V) (us : List Value) (Q : VK), Inv X pins σ H s → Vals xs us → r xs H Q →
    wpAny (model X.prog X.w) X.A (call f us) (EP X pins σ Q) X.xe s
def tOp (r : R2) (ta tb : TE) : TE := fun σ H Q => ta σ H fun x H1 => tb σ H1 fun y H2 => r x y H2 Q
def tUn (r : V → Hp → VK → Prop) (ta : TE) : TE := fun σ H Q => ta σ H fun x H1 => r x H1 Q
def rI (C : Int → Int → Prop) (g : Int → Int → V) : R2 := fun x y H Q => ∃ i j, x = .int i ∧ y = .int j ∧ C i j ∧ Q (g i j) H
def rI0 (g : Int → Int → V) : R2 := fun x y H Q => ∃ i j, x = .int i ∧ y = .int j ∧ Q (g i j) H
def rU (g : Int → V) : V → Hp → VK → Prop := fun x H Q => ∃ i, x = .int i ∧ Q (g i) H
section
variable {X : Cx} {a b c : Expr} {ta tb tc : TE} {pos : Pos}
theorem binT (ha : PE X a ta) (hb : PE X b tb) {pins : List (Addr × Obj)} {s : Shared} {σ : St} {H : Hp} {R : V → V → Hp → Prop} (I : Inv X pins σ H s)
    (h : ta σ H fun x H1 => tb σ H1 fun y H2 => R x y H2) {Q : Value → Shared → Prop} {f : Value → Value → Sem Value}
    (hf : ∀ v u s2 x y H2, Inv X pins σ H2 s2 → RelV x v → RelV y u → R x y H2 → wpAny (model X.prog X.w) X.A (f v u) Q X.xe s2) :
    wpAny (model X.prog X.w) X.A (eval a X.env) (fun v s₁ => wpAny (model X.prog X.w) X.A (eval b X.env) (fun u s₂ => wpAny (model X.prog X.w) X.A (f v u) Q X.xe s₂) X.xe s₁) X.xe s := by
  refine thn (ha pins s σ H _ I h) fun v s1 ⟨x, H1, I1, r1, q1⟩ => ?_
  refine thn (hb pins s1 σ H1 _ I1 q1) fun u s2 ⟨y, H2, I2, r2, q2⟩ => ?_
  exact hf v u s2 x y H2 I2 r1 r2 q2
theorem pe_op {op : Operator} {r : R2} (ho : OpR X (binaryOp op) r) (ha : PE X a ta) (hb : PE X b tb) : PE X (.BinOp a op b pos) (tOp r ta tb) := by
  intro pins s σ H Q I h
  exact wpAny_BinOp (binT ha hb I h fun v u s2 x y H2 I2 rx ry q => ho pins s2 σ H2 x y v u Q I2 rx ry q)
theorem pe_un {op : UnaryOp} {r : V → Hp → VK → Prop} (ho : UnR X (unaryOp op) r) (ha : PE X a ta) : PE X (.UnaryOp op a pos) (tUn r ta) := by
  intro pins s σ H Q I h
  exact UnaryOp_ (thn (ha pins s σ H _ I h) fun v s1 ⟨x, H1, I1, r1, q1⟩ => ho pins s1 σ H1 x v Q I1 r1 q1)
theorem opI {f : Value → Value → Sem Value} {C : Int → Int → Prop} {g : Int → Int → Int}
    (rule : ∀ (i j : Int) (t u : Tok) (s : Shared) (Q : Value → Shared → Prop) (E : Value → Shared → Prop), C i j → Q (.int (g i j) s.toks) { s with toks := s.toks + 1 } → wpAny (model X.prog X.w) X.A (f (.int i t) (.int j u)) Q E s) :
    OpR X f (rI C fun i j => .int (g i j)) := by
  intro pins s σ H x y v u Q I rx ry h
  obtain ⟨i, j, rfl, rfl, hc, q⟩ := h
  obtain ⟨t, rfl⟩ := rx
  obtain ⟨t', rfl⟩ := ry
  exact rule i j t t' s _ _ hc ⟨.int (g i j), H, I.tok _, ⟨_, rfl⟩, q⟩
theorem opI0 {f : Value → Value → Sem Value} {g : Int → Int → Int}
    (rule : ∀ (i j : Int) (t u : Tok) (s : Shared) (Q : Value → Shared → Prop) (E : Value → Shared → Prop), Q (.int (g i j) s.toks) { s with toks := s.toks + 1 } → wpAny (model X.prog X.w) X.A (f (.int i t) (.int j u)) Q E s) :
    OpR X f (rI0 fun i j => .int (g i j)) := by
  intro pins s σ H x y v u Q I rx ry h
  obtain ⟨i, j, rfl, rfl, q⟩ := h
  obtain ⟨t, rfl⟩ := rx
  obtain ⟨t', rfl⟩ := ry
  exact rule i j t t' s _ _ ⟨.int (g i j), H, I.tok _, ⟨_, rfl⟩, q⟩
theorem opB0 {f : Value → Value → Sem Value} {g : Int → Int → Bool}
    (rule : ∀ (i j : Int) (t u : Tok) (s : Shared) (Q : Value → Shared → Prop) (E : Value → Shared → Prop), Q (.bool (g i j)) s → wpAny (model X.prog X.w) X.A (f (.int i t) (.int j u)) Q E s) :
    OpR X f (rI0 fun i j => .bl (g i j)) := by
  intro pins s σ H x y v u Q I rx ry h
  obtain ⟨i, j, rfl, rfl, q⟩ := h
  obtain ⟨t, rfl⟩ := rx
  obtain ⟨t', rfl⟩ := ry
  exact rule i j t t' s _ _ ⟨.bl (g i j), H, I, rfl, q⟩
def CPow (i j : Int) : Prop := 0 ≤ j ∧ j ≤ 1000000 ∧ i.natAbs < 2 ^ 64
def CMul (i j : Int) : Prop := (-(2 ^ 64) < i ∧ i < 2 ^ 64) ∨ (-(2 ^ 64) < j ∧ j < 2 ^ 64)
theorem CMul.ok {i j : Int} (h : CMul i j) : IntMulOk i j := by
  rcases h with ⟨h1, h2⟩ | ⟨h1, h2⟩
  · exact .of_left (intBits_le_64 h1 h2)
  · exact .of_right (intBits_le_64 h1 h2)
theorem op_add : OpR X (binaryOp .Add) (rI0 fun i j => .int (i + j)) := opI0 fun _ _ _ _ _ _ _ q => add_int q
theorem op_sub : OpR X (binaryOp .Sub) (rI0 fun i j => .int (i - j)) := opI0 fun _ _ _ _ _ _ _ q => sub_int q
theorem op_mul : OpR X (binaryOp .Mult) (rI CMul fun i j => .int (i * j)) := opI fun _ _ _ _ _ _ _ hc q => mul_int q hc.ok
theorem op_mod : OpR X (binaryOp .Mod) (rI (fun _ j => 0 < j) fun i j => .int (i % j)) := opI fun i j _ _ _ _ _ hc q => by
  have h1 : (0 : Int) < j := hc
  exact mod_int' (by omega) (by rw [Int.fmod_eq_emod_of_nonneg i (by omega)]; exact q)
theorem op_pow : OpR X (binaryOp .Pow) (rI CPow fun i j => .int (i ^ j.toNat)) := opI fun _ _ _ _ _ _ _ hc q => pow_int_small hc.1 hc.2.1 hc.2.2 q
theorem unI {f : Value → Sem Value} {g : Int → Int}
    (rule : ∀ (i : Int) (t : Tok) (s : Shared) (Q : Value → Shared → Prop) (E : Value → Shared → Prop), Q (.int (g i) s.toks) { s with toks := s.toks + 1 } → wpAny (model X.prog X.w) X.A (f (.int i t)) Q E s) :
    UnR X f (rU fun i => .int (g i)) := by
  intro pins s σ H x v Q I rx h
  obtain ⟨i, rfl, q⟩ := h
  obtain ⟨t, rfl⟩ := rx
  exact rule i t s _ _ ⟨.int (g i), H, I.tok _, ⟨_, rfl⟩, q⟩
theorem un_neg : UnR X (unaryOp .USub) (rU fun i => .int (-i)) := unI fun _ _ _ _ _ q => neg_int q
end
def scal : V → V → Bool
  | .non, .non => true | .non, .int _ => true | .int _, .non => true | .non, .bl _ => true | .bl _, .non => true | .non, .str _ => true | .str _, .non => true
  | .int _, .int _ => true | .bl _, .bl _ => true | .str _, .str _ => true | .byt _, .byt _ => true
  | .int _, .str _ => true | .str _, .int _ => true | .bl _, .str _ => true | .str _, .bl _ => true
  | _, _ => false
def rEq : R2 := fun x y H Q => scal x y = true ∧ Q (.bl (decide (x = y))) H
def rNe : R2 := fun x y H Q => scal x y = true ∧ Q (.bl (!decide (x = y))) H
theorem dec_int {i j : Int} : decide (V.int i = V.int j) = (i == j) := by
  rw [Bool.eq_iff_iff]
  simp
theorem dec_bl {i j : Bool} : decide (V.bl i = V.bl j) = (i == j) := by
  rw [Bool.eq_iff_iff]
  simp
theorem dec_str {i j : Str} : decide (V.str i = V.str j) = (i == j) := by
  rw [Bool.eq_iff_iff]
  simp
theorem dec_byt {i j : Array UInt8} : decide (V.byt i = V.byt j) = (i.toList == j.toList) := by
  rw [Bool.eq_iff_iff]
  cases i
  cases j
  simp
section
variable {X : Cx} {a b c : Expr} {ta tb tc : TE} {pos : Pos}
theorem fin_bl {pins : List (Addr × Obj)} {σ : St} {H : Hp} {s : Shared} {Q : VK} {k k' : Bool} (I : Inv X pins σ H s) (q : Q (.bl k) H) (e : k = k') : EP X pins σ Q (.bool k') s := by
  subst e
  exact ⟨.bl k, H, I, rfl, q⟩
theorem op_eq : OpR X (compareOp .Eq) rEq := by
  intro pins s σ H x y v u Q I rx ry h
  obtain ⟨hs, q⟩ := h
  cases x with
  | non =>
    cases rx
    cases y with
    | non => cases ry; exact PySem.EqNone.eq_none_none (fin_bl I q (by simp))
    | bl j => cases ry; exact PySem.EqNone.eq_none_bool (fin_bl I q (by simp))
    | int j => obtain ⟨t', rfl⟩ := ry; exact PySem.EqNone.eq_none_int (fin_bl I q (by simp))
    | str j => obtain ⟨t', rfl⟩ := ry; exact PySem.EqNone.eq_none_str (fin_bl I q (by simp))
    | _ => exact absurd (show false = true from hs) Bool.false_ne_true
  | bl i =>
    cases rx
    cases y with
    | non => cases ry; exact PySem.EqNone.eq_bool_none (fin_bl I q (by simp))
    | bl j => cases ry; exact eq_bool (fin_bl I q dec_bl)
    | str j => obtain ⟨t', rfl⟩ := ry; exact PySem.EqMixed.eq_bool_str (fin_bl I q (by simp))
    | _ => exact absurd (show false = true from hs) Bool.false_ne_true
  | int i =>
    obtain ⟨t, rfl⟩ := rx
    cases y with
    | non => cases ry; exact PySem.EqNone.eq_int_none (fin_bl I q (by simp))
    | int j => obtain ⟨t', rfl⟩ := ry; exact eq_int (fin_bl I q dec_int)
    | str j => obtain ⟨t', rfl⟩ := ry; exact PySem.EqMixed.eq_int_str (fin_bl I q (by simp))
    | _ => exact absurd (show false = true from hs) Bool.false_ne_true
  | str i =>
    obtain ⟨t, rfl⟩ := rx
    cases y with
    | non => cases ry; exact PySem.EqNone.eq_str_none (fin_bl I q (by simp))
    | bl j => cases ry; exact PySem.EqMixed.eq_str_bool (fin_bl I q (by simp))
    | int j => obtain ⟨t', rfl⟩ := ry; exact PySem.EqMixed.eq_str_int (fin_bl I q (by simp))
    | str j => obtain ⟨t', rfl⟩ := ry; exact eq_str (fin_bl I q dec_str)
    | _ => exact absurd (show false = true from hs) Bool.false_ne_true
  | byt i =>
    obtain ⟨t, rfl⟩ := rx
    cases y with
    | byt j => obtain ⟨t', rfl⟩ := ry; exact PySem.W.eq_bytes (fin_bl I q dec_byt)
    | _ => exact absurd (show false = true from hs) Bool.false_ne_true
  | _ => cases y <;> exact absurd (show false = true from hs) Bool.false_ne_true
theorem op_ne : OpR X (compareOp .NotEq) rNe := by
  intro pins s σ H x y v u Q I rx ry h
  obtain ⟨hs, q⟩ := h
  cases x with
  | non =>
    cases rx
    cases y with
    | non => cases ry; exact PySem.EqNone.ne_none_none (fin_bl I q (by simp))
    | bl j => cases ry; exact PySem.EqNone.ne_none_bool (fin_bl I q (by simp))
    | int j => obtain ⟨t', rfl⟩ := ry; exact PySem.EqNone.ne_none_int (fin_bl I q (by simp))
    | str j => obtain ⟨t', rfl⟩ := ry; exact PySem.EqNone.ne_none_str (fin_bl I q (by simp))
    | _ => exact absurd (show false = true from hs) Bool.false_ne_true
  | bl i =>
    cases rx
    cases y with
    | non => cases ry; exact PySem.EqNone.ne_bool_none (fin_bl I q (by simp))
    | bl j => cases ry; exact ne_bool (fin_bl I q (congrArg not dec_bl))
    | str j => obtain ⟨t', rfl⟩ := ry; exact PySem.EqMixed.ne_bool_str (fin_bl I q (by simp))
    | _ => exact absurd (show false = true from hs) Bool.false_ne_true
  | int i =>
    obtain ⟨t, rfl⟩ := rx
    cases y with
    | non => cases ry; exact PySem.EqNone.ne_int_none (fin_bl I q (by simp))
    | int j => obtain ⟨t', rfl⟩ := ry; exact ne_int (fin_bl I q (congrArg not dec_int))
    | str j => obtain ⟨t', rfl⟩ := ry; exact PySem.EqMixed.ne_int_str (fin_bl I q (by simp))
    | _ => exact absurd (show false = true from hs) Bool.false_ne_true
  | str i =>
    obtain ⟨t, rfl⟩ := rx
    cases y with
    | non => cases ry; exact PySem.EqNone.ne_str_none (fin_bl I q (by simp))
    | bl j => cases ry; exact PySem.EqMixed.ne_str_bool (fin_bl I q (by simp))
    | int j => obtain ⟨t', rfl⟩ := ry; exact PySem.EqMixed.ne_str_int (fin_bl I q (by simp))
    | str j => obtain ⟨t', rfl⟩ := ry; exact ne_str (fin_bl I q (congrArg not dec_str))
    | _ => exact absurd (show false = true from hs) Bool.false_ne_true
  | byt i =>
    obtain ⟨t, rfl⟩ := rx
    cases y with
    | byt j => obtain ⟨t', rfl⟩ := ry; exact PySem.W.ne_bytes (fin_bl I q (congrArg not dec_byt))
    | _ => exact absurd (show false = true from hs) Bool.false_ne_true
  | _ => cases y <;> exact absurd (show false = true from hs) Bool.false_ne_true
theorem op_lt : OpR X (compareOp .Lt) (rI0 fun i j => .bl (decide (i < j))) := opB0 fun _ _ _ _ _ _ _ q => lt_int q
theorem op_le : OpR X (compareOp .LtE) (rI0 fun i j => .bl (decide (i ≤ j))) := opB0 fun _ _ _ _ _ _ _ q => le_int q
theorem op_gt : OpR X (compareOp .Gt) (rI0 fun i j => .bl (decide (j < i))) := opB0 fun _ _ _ _ _ _ _ q => gt_int q
theorem op_notN : OpR X (compareOp .IsNot) (fun x y H Q => y = .non ∧ Q (.bl (!decide (x = .non))) H) := by
  intro pins s σ H x y v u Q I rx ry h
  obtain ⟨rfl, q⟩ := h
  cases ry
  refine isnot_none_gen (fin_bl I q ?_)
  cases x <;> first
    | (cases rx; rfl)
    | (obtain ⟨t, rfl⟩ := rx; rfl)
theorem nomark (b : Expr) {op : CmpOp} (h : op ≠ .In := by decide) (h2 : op ≠ .NotIn := by decide) : behindInMarks op b = false := by
  have e1 : (op == CmpOp.In) = false := by cases op <;> first | rfl | exact absurd rfl h
  have e2 : (op == CmpOp.NotIn) = false := by cases op <;> first | rfl | exact absurd rfl h2
  cases b <;> simp [behindInMarks, e1, e2]
theorem pe_cmpR {op : CmpOp} {r : R2} (ho : OpR X (compareOp op) r) (ha : PE X a ta) (hb : PE X b tb) (hm : behindInMarks op b = false) : PE X (.Compare a [op] [b] pos) (tOp r ta tb) := by
  intro pins s σ H Q I h
  exact wpAny_Compare1 (binT ha hb I h fun v u s2 x y H2 I2 rx ry q => ho pins s2 σ H2 x y v u Q I2 rx ry q) hm
def tTest (t : TE) : TT := fun σ H Q => t σ H fun x H' => ∃ k, x = .bl k ∧ Q k H'
theorem pt_cmpR {op : CmpOp} {r : R2} (ho : OpR X (compareOp op) r) (ha : PE X a ta) (hb : PE X b tb) (hm : behindInMarks op b = false) : PT X (.Compare a [op] [b] pos) (tTest (tOp r ta tb)) := by
  intro pins s σ H Q I h
  refine wpAny_isTrue_Compare1 (thn (ha pins s σ H _ I h) fun v s1 ⟨x, H1, I1, r1, q1⟩ => thn (hb pins s1 σ H1 _ I1 q1) fun u s2 ⟨y, H2, I2, r2, q2⟩ =>
    thn (ho pins s2 σ H2 x y v u _ I2 r1 r2 q2) fun c s3 ⟨z, H3, I3, r3, k, e, q3⟩ => ?_) hm
  subst e
  cases r3
  exact wpAny_truthy_bool ⟨H3, I3, q3⟩
def tChain (r r' : R2) (ta tb tc : TE) : TE := fun σ H Q => ta σ H fun x H1 => tb σ H1 fun y H2 => r x y H2 fun z H3 => ∃ k, z = .bl k ∧
  (if k = true then tc σ H3 fun w' H4 => r' y w' H4 Q else Q (.bl false) H3)
theorem pe_chain {op op' : CmpOp} {r r' : R2} (ho : OpR X (compareOp op) r) (ho' : OpR X (compareOp op') r') (ha : PE X a ta) (hb : PE X b tb) (hc : PE X c tc)
    (hm : lastMarks [op, op'] [b, c] = false := by with_unfolding_all rfl) : PE X (.Compare a [op, op'] [b, c] pos) (tChain r r' ta tb tc) := by
  intro pins s σ H Q I h
  refine Compare_chain (thn (ha pins s σ H _ I h) fun v s1 ⟨x, H1, I1, r1, q1⟩ => chain_link (thn (hb pins s1 σ H1 _ I1 q1) fun u s2 ⟨y, H2, I2, r2, q2⟩ =>
    thn (ho pins s2 σ H2 x y v u _ I2 r1 r2 q2) fun d s3 ⟨z, H3, I3, r3, k, e, q3⟩ => ?_)) hm
  subst e
  cases r3
  refine wpAny_truthy_bool ?_
  cases k with
  | false => exact ite_ff ⟨.bl false, H3, I3, rfl, q3⟩
  | true => exact ite_tt (chain_last (thn (hc pins s3 σ H3 _ I3 q3) fun w' s4 ⟨z', H4, I4, r4, q4⟩ => ho' pins s4 σ H4 y z' u w' Q I4 r2 r4 q4))
theorem pt_chain {op op' : CmpOp} {r r' : R2} (ho : OpR X (compareOp op) r) (ho' : OpR X (compareOp op') r') (ha : PE X a ta) (hb : PE X b tb) (hc : PE X c tc)
    (hm : lastMarks [op, op'] [b, c] = false := by with_unfolding_all rfl) : PT X (.Compare a [op, op'] [b, c] pos) (tTest (tChain r r' ta tb tc)) := by
  intro pins s σ H Q I h
  refine isTrue_chain (thn (ha pins s σ H _ I h) fun v s1 ⟨x, H1, I1, r1, q1⟩ => test_link (thn (hb pins s1 σ H1 _ I1 q1) fun u s2 ⟨y, H2, I2, r2, q2⟩ =>
    thn (ho pins s2 σ H2 x y v u _ I2 r1 r2 q2) fun d s3 ⟨z, H3, I3, r3, k, e, q3⟩ => ?_)) hm
  subst e
  cases r3
  refine wpAny_truthy_bool ?_
  cases k with
  | false =>
    obtain ⟨k', e', q'⟩ := q3
    cases e'
    exact ite_ff ⟨H3, I3, q'⟩
  | true =>
    refine ite_tt (test_last (thn (hc pins s3 σ H3 _ I3 q3) fun w' s4 ⟨z', H4, I4, r4, q4⟩ => thn (ho' pins s4 σ H4 y z' u w' _ I4 r2 r4 q4) fun d' s5 ⟨z2, H5, I5, r5, k2, e2, q5⟩ => ?_))
    subst e2
    cases r5
    exact wpAny_truthy_bool ⟨H5, I5, q5⟩
theorem line63 : (sizeLine : Nat) < 2 ^ 63 := by rw [sizeLine_eq]; decide
theorem vals1 {x : V} {us : List Value} (r : Vals [x] us) : ∃ u, us = [u] ∧ RelV x u := by
  cases r with
  | cons r1 r2 => cases r2; exact ⟨_, rfl, r1⟩
theorem vals2 {x y : V} {us : List Value} (r : Vals [x, y] us) : ∃ u w', us = [u, w'] ∧ RelV x u ∧ RelV y w' := by
  cases r with
  | cons r1 r2 =>
    cases r2 with
    | cons r3 r4 => cases r4; exact ⟨_, _, rfl, r1, r3⟩
theorem call_abs : CallR X (.builtin "abs") (fun xs H Q => ∃ i, xs = [.int i] ∧ Q (.int (if i < 0 then -i else i)) H) := by
  intro pins s σ H xs us Q I r h
  obtain ⟨i, rfl, q⟩ := h
  obtain ⟨u, rfl, t, rfl⟩ := vals1 r
  exact call_abs_int fun u tk => ⟨.int (if i < 0 then -i else i), H, I.tok _, ⟨_, rfl⟩, q⟩
theorem call_int1 : CallR X (.type "int") (fun xs H Q => (∃ i, xs = [.int i] ∧ Q (.int i) H) ∨ ∃ k, xs = [.bl k] ∧ Q (.int (if k then 1 else 0)) H) := by
  intro pins s σ H xs us Q I r h
  rcases h with ⟨i, rfl, q⟩ | ⟨k, rfl, q⟩
  · obtain ⟨u, rfl, t, rfl⟩ := vals1 r
    exact call_int_int ⟨.int i, H, I, ⟨_, rfl⟩, q⟩
  · obtain ⟨u, rfl, r1⟩ := vals1 r
    cases r1
    exact call_int_bool ⟨.int (if k then 1 else 0), H, I.tok _, ⟨_, rfl⟩, q⟩
theorem call_str_int : CallR X (.type "str") (fun xs H Q => ∃ i, xs = [.int i] ∧ i.natAbs.log2 < 1920 ∧ Q (.str (toString i)) H) := by
  intro pins s σ H xs us Q I r h
  obtain ⟨i, rfl, hz, q⟩ := h
  obtain ⟨u, rfl, t, rfl⟩ := vals1 r
  exact PySem.P.str_of_int hz ⟨.str _, H, I.tok _, ⟨_, rfl⟩, q⟩
end
end L2
namespace L2
open PySem PySem.Spec PyProof.Rows
structure ObjM (h : Heap) (x dx C : Addr) (mA : Str → Option Value) : Prop where
  obj : h.get? x = some (PySem.W.instObj C dx)
  ns : h.Ns1 dx mA
  ne : dx ≠ x
theorem lookIn_ns {h : Heap} {dx : Addr} {mA : Str → Option Value} (n : h.Ns1 dx mA) : ∃ od, h.get? dx = some od ∧ ∀ name, PySem.W.lookIn name od = some (mA name) := by
  obtain ⟨o, es, ep, ho, hd, hk, _, hm⟩ := n
  refine ⟨o, ho, fun name => ?_⟩
  have e := hm name
  unfold nsFind findBy at e
  rw [← Array.find?_toList] at e
  unfold PySem.W.lookIn
  rw [hd]
  dsimp only
  split
  · rename_i y q
    rw [q] at e
    exact congrArg some e
  · rename_i q
    rw [q] at e
    have a : es.toList.any (·.refKey) = false := by
      rw [List.any_eq_false]
      intro y hy
      obtain ⟨z, t, hkey⟩ := hk y (Array.mem_toList_iff.mp hy)
      simp [DictEntry.refKey, hkey]
    have a' : ¬ es.toList.any (·.refKey) = true := by rw [a]; exact Bool.false_ne_true
    rw [if_neg a']
    exact congrArg some e
theorem ObjM.look {h : Heap} {x dx C : Addr} {mA : Str → Option Value} (I : ObjM h x dx C mA) : ∃ od, PySem.W.InstAt h x (PySem.W.instObj C dx) C (some od) ∧ ∀ name, PySem.W.lookIn name od = some (mA name) :=
  let ⟨od, ho, hl⟩ := lookIn_ns I.ns
  ⟨od, ⟨I.obj, rfl, rfl, ho⟩, hl⟩
section
variable {P : Program} {w : World} {H H' : Hp} {h h' : Heap} {a C dx : Addr} {fs fs' : List (Str × V)}
theorem ins_get (hok : HOk P w H h) (e : H a = some (.ins C dx fs)) : ∃ mA, ObjM h a dx C mA ∧ (∀ f, RelO (fs.lookup f) (mA f)) ∧ PySem.Within mA (fs.map (·.1)) ∧ fs.length ≤ 1000 ∧ H dx = some (.own a) := by
  obtain ⟨d, z, ne, ob, mA, n, r, q⟩ := (show ObjOk P w H h a (.ins C dx fs) from hok a _ e)
  exact ⟨mA, ⟨ob, n, ne⟩, r, q, z, d⟩
end
structure Cls (K : PySem.W.Frag) (C : Addr) : Prop where
  pg : PySem.W.plainGet K C Str.empty = true
  hd : PySem.W.hasDictIn K C = true
  po : PySem.W.plainOver K C = true
  sa : PySem.W.findIn K (.ref C) "__setattr__" = some (some (.builtin "object.__setattr__"))
theorem Cls.get {K : PySem.W.Frag} {C : Addr} (c : Cls K C) (f : Str) : PySem.W.plainGet K C f = true := c.pg
structure Con (K : PySem.W.Frag) (C : Addr) (f : Str) (v : V) (u : Value) : Prop where
  at_ : PySem.W.findIn K (.ref C) f = some (some u)
  rel : RelV v u
  get : PySem.W.specialIn K u "__get__" = some none
  cp : PySem.W.copiedNames.contains f = false
structure Meth (K : PySem.W.Frag) (C : Addr) (m : Str) (f : Addr) : Prop where
  at_ : PySem.W.findIn K (.ref C) m = some (some (.ref f))
  fn : PySem.W.isFn K (.ref f) = true
  kp : PySem.W.keepIn K (.ref f) = true
section
variable {X : Cx} {pins : List (Addr × Obj)} {σ : St} {H : Hp} {s : Shared} {A : Around} {E : Value → Shared → Prop} {Q : Value → Shared → Prop} {c : Value} {b : Bool}
inductive TyOf (K : PySem.W.Frag) (H : Hp) : V → Value → Prop where
  | non : TyOf K H .non (.type "NoneType")
  | bl (x : Bool) : TyOf K H (.bl x) (.type "bool")
  | int (i : Int) : TyOf K H (.int i) (.type "int")
  | str (x : Str) : TyOf K H (.str x) (.type "str")
  | flt (x : UInt64) : TyOf K H (.flt x) (.type "float")
  | lst {a : Addr} {xs : List V} (e : H a = some (.lst xs)) : TyOf K H (.ref a) (.type "list")
  | frz {a : Addr} {o : Obj} {xs : List V} (e : H a = some (.frz o (.lst xs))) : TyOf K H (.ref a) (.type "list")
  | tup {a : Addr} {xs : List V} (e : H a = some (.tup xs)) : TyOf K H (.ref a) (.type "tuple")
  | dK {a : Addr} {kvs : List (Key × V)} (e : H a = some (.dK kvs)) : TyOf K H (.ref a) (.type "dict")
  | dT {a : Addr} {kvs : List (List Key × V)} (e : H a = some (.dT kvs)) : TyOf K H (.ref a) (.type "dict")
  | ins {a C dx : Addr} {fs : List (Str × V)} (e : H a = some (.ins C dx fs)) (cl : Cls K C) (ha : PySem.W.findIn K (.ref C) "__class__" = some (some (.builtin "object.__class__")))
      (hn : PySem.W.specialIn K (.builtin "object.__class__") "__get__" = some (some (.builtin "getset_descriptor.__get__"))) (htk : PySem.W.takesIn K (.builtin "object.__class__") = some true)
      (hm : PySem.W.mroIn K C (.type "object") = some true) : TyOf K H (.ref a) (.ref C)
theorem isinst_ok {x : V} {u t : Value} (I : Inv X pins σ H s) (rx : RelV x u) (ty : TyOf X.K H x t) (e : PySem.W.kitOne X.K t c = some b) (h : ∀ tk, Q (.bool b) { s with toks := tk }) :
    wpAny (model X.prog X.w) A (call (.builtin "isinstance") [u, c]) Q E s := by
  cases ty with
  | non => cases (show u = Value.none from rx); exact PySem.W.kia_one PySem.W.kitx_none I.kIn True.intro e (fun z => nomatch z) h
  | bl y => cases (show u = Value.bool y from rx); exact PySem.W.kia_one PySem.W.kitx_bool I.kIn True.intro e (fun z => nomatch z) h
  | int i => obtain ⟨t, q⟩ := (show ∃ t, u = Value.int i t from rx); cases q; exact PySem.W.kia_one PySem.W.kitx_int I.kIn True.intro e (fun z => nomatch z) h
  | str y => obtain ⟨t, q⟩ := (show ∃ t, u = Value.str y t from rx); cases q; exact PySem.W.kia_one PySem.W.kitx_str I.kIn True.intro e (fun z => nomatch z) h
  | flt y => obtain ⟨t, q⟩ := (show ∃ t, u = Value.float y t from rx); cases q; exact PySem.W.kia_one PySem.W.kitx_float I.kIn True.intro e (fun z => nomatch z) h
  | @lst a xs ea =>
    cases (show u = Value.ref a from rx)
    obtain ⟨_, _, n, _, h1⟩ := (show ObjOk X.prog X.w H s.heap a (.lst xs) from I.hok a _ ea)
    exact PySem.W.kia_one PySem.W.kitx_list I.kIn ⟨_, h1, rfl⟩ e (fun z => nomatch z) h
  | @frz a ob xs ea =>
    cases (show u = Value.ref a from rx)
    obtain ⟨_, _, _, n, _, h1⟩ := (show ObjOk X.prog X.w H s.heap a (.frz ob (.lst xs)) from I.hok a _ ea)
    exact PySem.W.kia_one PySem.W.kitx_list I.kIn ⟨_, h1, rfl⟩ e (fun z => nomatch z) h
  | @tup a xs ea =>
    cases (show u = Value.ref a from rx)
    obtain ⟨_, _, _, p⟩ := (show ObjOk X.prog X.w H s.heap a (.tup xs) from I.hok a _ ea)
    obtain ⟨o, h1, h2, _⟩ := p
    exact PySem.W.kia_one PySem.W.kitx_tuple I.kIn ⟨o, h1, h2⟩ e (fun z => nomatch z) h
  | @dK a kvs ea =>
    cases (show u = Value.ref a from rx)
    obtain ⟨_, _, vs, _, p⟩ := (show ObjOk X.prog X.w H s.heap a (.dK kvs) from I.hok a _ ea)
    obtain ⟨o, es, ep, h1, h2, _⟩ := p
    exact PySem.W.kia_one PySem.W.kitx_dict I.kIn ⟨o, h1, h2.1⟩ e (fun z => nomatch z) h
  | @dT a kvs ea =>
    cases (show u = Value.ref a from rx)
    obtain ⟨_, _, xs, _, o, es, ep, h1, h2, _⟩ := (show ObjOk X.prog X.w H s.heap a (.dT kvs) from I.hok a _ ea)
    exact PySem.W.kia_one PySem.W.kitx_dict I.kIn ⟨o, h1, h2.1⟩ e (fun z => nomatch z) h
  | @ins a C dx fs ea cl ha hn htk hm =>
    cases (show u = Value.ref a from rx)
    obtain ⟨mA, O, _⟩ := ins_get I.hok ea
    obtain ⟨od, J, _⟩ := O.look
    exact PySem.W.kia_one (PySem.W.kitx_own (cl.get _) cl.hd ha hn htk hm) I.kIn J e (fun z => nomatch z) h
end
end L2
namespace L2
open PySem PySem.Spec PyProof.Rows
structure Room (k : Nat) (A : Around) : Prop where
  hd : A.handled = none
  gd : A.guards = some []
  dp : A.depth + 3 * k + 5 < recursionLimit
  un : A.units + 16 * k + 200 < cLine
theorem Room.mono {j k : Nat} {A : Around} (r : Room k A) (h : j ≤ k) : Room j A := ⟨r.hd, r.gd, by have := r.dp; omega, by have := r.un; omega⟩
theorem Room.deeper {k : Nat} {A : Around} (r : Room (k + 1) A) (env : Env) : Room k (A.deeper env) :=
  ⟨r.hd, r.gd, by have := r.dp; show A.depth + 1 + 3 * k + 5 < _; omega, by have := r.un; show A.units + 3 + 16 * k + 200 < _; omega⟩
theorem Room.depth {k : Nat} {A : Around} (r : Room k A) : A.depth < recursionLimit := by have := r.dp; omega
theorem Room.units {k : Nat} {A : Around} (r : Room k A) : A.units + 64 < cLine := by have := r.un; omega
def tNil : TA := fun _ H Q => Q [] H
def tCons (ta : TE) (tr : TA) : TA := fun σ H Q => ta σ H fun x H1 => tr σ H1 fun xs H2 => Q (x :: xs) H2
section
variable {X : Cx} {e : Expr} {es : List Expr} {te : TE} {t : TA} {pos : Pos}
theorem pa_nil : PA X [] tNil := fun _ _ _ _ H Q I h => Calls.spliced_nil ⟨[], H, I, .nil, h⟩
theorem pa_cons (ha : PE X e te) (hr : PA X es t) (hs : starEach (e :: es) X.env = (false, eval e X.env) :: starEach es X.env := by rfl) : PA X (e :: es) (tCons te t) := by
  intro pos pins s σ H Q I h
  rw [hs]
  show wpAny _ _ (spliced ((false, eval e X.env) :: backTo pos (starEach es X.env))) _ _ s
  refine Calls.spliced_cons (thn (ha pins s σ H _ I h) fun u s1 ⟨x, H1, I1, r1, q1⟩ => ?_)
  exact thn (hr pos pins s1 σ H1 _ I1 q1) fun us s2 ⟨xs, H2, I2, r2, q2⟩ => ⟨x :: xs, H2, I2, .cons r1 r2, q2⟩
def tTup (t : TA) : TE := fun σ H Q => t σ H fun xs H1 => xs.length ≤ sizeLine ∧ ∀ p, H1 p = none → Q (.ref p) (upd H1 p (.tup xs))
def tLst (t : TA) : TE := fun σ H Q => t σ H fun xs H1 => xs.length ≤ sizeLine ∧ ∀ p, H1 p = none → Q (.ref p) (upd H1 p (.lst xs))
theorem pe_tup {x1} (h : PA X es t) : PE X (.Tuple es x1 pos) (tTup t) := by
  intro pins s σ H Q I hq
  refine wpAny_Tuple_spliced (thn (h pos pins s σ H _ I hq) fun us s1 ⟨xs, H1, I1, r, z, q⟩ => ⟨by rw [← r.length]; exact z, ?_⟩)
  have hf : H1 s1.heap.objs.size = none := I1.hok.fresh (Nat.le_refl _)
  refine ⟨.ref s1.heap.objs.size, upd H1 s1.heap.objs.size (.tup xs), I1.laid (t' := s1.toks) (fun b u e => Heap.get?_push_of_some _ e) (Nat.le_refl _) ?_, rfl, q _ hf⟩
  exact ⟨z, us, r, ⟨_, Heap.get?_push_size _ rfl, rfl, _, rfl⟩⟩
theorem pe_lst (h : PA X es t) : PE X (.List es pos) (tLst t) := by
  intro pins s σ H Q I hq
  refine wpAny_List_spliced (thn (h pos pins s σ H _ I hq) fun us s1 ⟨xs, H1, I1, r, z, q⟩ => ⟨by rw [← r.length]; exact z, ?_⟩)
  have hf : H1 s1.heap.objs.size = none := I1.hok.fresh (Nat.le_refl _)
  refine ⟨.ref s1.heap.objs.size, upd H1 s1.heap.objs.size (.lst xs), I1.laid (t' := s1.toks) (fun b u e => Heap.get?_push_of_some _ e) (Nat.le_refl _) ?_, rfl, q _ hf⟩
  exact ⟨z, us, 0, r, Heap.get?_push_size _ rfl⟩
end
abbrev Sp := List V → Hp → VK → XK → Prop
abbrev CXT := List Env → Hp → Shared → XK → Value → Shared → Prop
structure Env0 (P : Program) (w : World) (K : PySem.W.Frag) (mg : Str → Option Value) (base : Heap) (A : Around) (outer : List Env) (s : Shared) (H : Hp) : Prop where
  frames : A.frames = some outer
  mod : Mod K mg base
  bs : ∀ b o, base.get? b = some o → s.heap.get? b = some o ∧ H b = none
  bsz : base.objs.size ≤ s.heap.objs.size
  funs : s.heap.FunFrames base outer
  frf : ∀ b ∈ frs outer, H b = none
  hok : HOk P w H s.heap
  bare : AllBare s.gens
def CE (outer : List Env) (P : Program) (w : World) (H : Hp) (s : Shared) (Q : VK) (u : Value) (s' : Shared) : Prop :=
  ∃ v H', s'.os = s.os ∧ AllBare s'.gens ∧ Un (frs outer) [] H H' s.heap s'.heap ∧ HOk P w H' s'.heap ∧ RelV v u ∧ Q v H'
def CR (CX : CXT) (outer : List Env) (P : Program) (w : World) (H : Hp) (s : Shared) (Q : VK) (E : XK) (r : Result) (s' : Shared) : Prop :=
  match r with
  | .ok (.ret u) => CE outer P w H s Q u s'
  | .ok _ => False
  | .error e => CX outer H s E e s'
structure FnOk (P : Program) (w : World) (K : PySem.W.Frag) (mg : Str → Option Value) (base : Heap) (CX : CXT) (k : Nat) (f : Addr) (fd : FuncData) (ps : List Str) (sp : Sp) : Prop where
  len : ∀ vs H Q E, sp vs H Q E → vs.length = ps.length
  run : ∀ (A : Around) (outer : List Env) (s : Shared) (H : Hp) (args : Args) (us : List Value) (vs : List V) (Q : VK) (E : XK), Room k A → Env0 P w K mg base A outer s H → BindsTo s fd args (ps.zip us) → Vals vs us → sp vs H Q E →
    codeAny (model P w) A (.call (.ref f) args) (CR CX outer P w H s Q E) s
section
variable {X : Cx} {pins : List (Addr × Obj)} {σ : St} {H : Hp} {s s' : Shared}
theorem Inv.env0 (I : Inv X pins σ H s) : Env0 X.prog X.w X.K X.mg X.base X.A X.stack s H :=
  ⟨I.ok.frames, I.ok.mod, I.bs, Nat.le_trans I.ok.bsz I.sz, I.stack, I.stkFree, I.hok, I.bare⟩
theorem Inv.after {Q : VK} {u : Value} (I : Inv X pins σ H s) (h : CE X.stack X.prog X.w H s Q u s') : EP X pins σ Q u s' := by
  obtain ⟨v, H', os, bare, un, hok, r, q⟩ := h
  obtain ⟨hh, g, d, t, os'⟩ := s'
  obtain rfl : os' = s.os := os
  exact ⟨v, H', I.call (h' := hh) (g' := g) (d' := d) (t' := t) (ch := []) un hok bare (fun b z => absurd z (by simp)), r, q⟩
end
def tCall (sp : Sp) (dvs : List V) (E : XK) (t : TA) : TE := fun σ H Q => t σ H fun vs H1 => sp (vs ++ dvs) H1 Q E
def Binds (K : PySem.W.Frag) (fd : FuncData) (ps : List Str) (ds : List Value) : Prop :=
  ∀ (s : Shared) (us : List Value), K.In s.heap → (us ++ ds).length = ps.length → BindsTo s fd ⟨us, []⟩ (ps.zip (us ++ ds))
theorem Binds.all {K : PySem.W.Frag} {fd : FuncData} {ps : List Str} (h : ∀ us : List Value, us.length = ps.length → bindArgs fd ⟨us, []⟩ = pure (ps.zip us)) : Binds K fd ps [] := fun s us _ hl => by
  rw [List.append_nil] at hl ⊢
  exact .of_eq (h us hl)
def Passes (CX : CXT) (X : Cx) (E : XK) : Prop := ∀ (pins : List (Addr × Obj)) (σ : St) (H : Hp) (s : Shared) (e : Value) (s' : Shared), Inv X pins σ H s → CX X.stack H s E e s' → X.xe e s'
section
variable {X : Cx} {CX : CXT} {k : Nat} {f C : Addr} {fd : FuncData} {ps : List Str} {sp : Sp} {dvs : List V} {ds : List Value} {E : XK} {x m : Str} {p pos apos : Pos} {e o : Expr} {es : List Expr} {ta : TE} {t : TA}
theorem run_fn {pins : List (Addr × Obj)} {σ : St} {H : Hp} {s : Shared} {Q : VK} {us : List Value} {vs : List V} (F : FnOk X.prog X.w X.K X.mg X.base CX k f fd ps sp) (hr : Room k X.A) (hb : Binds X.K fd ps ds) (hd : Vals dvs ds) (hx : Passes CX X E)
    (I : Inv X pins σ H s) (r : Vals vs us) (h : sp (vs ++ dvs) H Q E) : wpAny (model X.prog X.w) X.A (call (.ref f) us) (EP X pins σ Q) X.xe s := by
  have r2 : Vals (vs ++ dvs) (us ++ ds) := r.append hd
  have hl : (us ++ ds).length = ps.length := by rw [← r2.length]; exact F.len _ _ _ _ h
  refine wpAny_call (codeAny_mono (F.run X.A X.stack s H ⟨us, []⟩ (us ++ ds) (vs ++ dvs) Q E hr I.env0 (hb s us I.kIn hl) r2 h) fun r s' hq => ?_)
  cases r with
  | error e => exact hx pins σ H s e s' I hq
  | ok fl =>
    cases fl with
    | ret u => exact I.after hq
    | next => exact False.elim hq
    | brk => exact False.elim hq
    | cont => exact False.elim hq
theorem pe_call (F : FnOk X.prog X.w X.K X.mg X.base CX k f fd ps sp) (hr : Room k X.A) (hg : Gl X x) (hm : X.mg x = some (.ref f)) (hk : PySem.W.keepIn X.K (.ref f) = true) (hb : Binds X.K fd ps ds) (hd : Vals dvs ds) (hx : Passes CX X E)
    (ha : PA X (e :: es) t) (hdb : (x == ("__debug__" : Str)) = false := by decide) (he : starEach (e :: es) X.env = (false, eval e X.env) :: starEach es X.env := by rfl) (hpl : (backTo pos (starEach es X.env)).any (·.1) = false := by rfl) :
    PE X (.Call (.Name x p) (e :: es) [] pos) (tCall sp dvs E t) := by
  intro pins s σ H Q I h
  refine wpAny_Call_Name_kw (ld_glob I hg hm ?_ hdb)
  refine PySem.W.callWith_K (h₀ := X.base) I.ok.mod.kin hk (thn (ha pos pins s σ H _ I h) fun us s1 ⟨vs, H1, I1, r, q⟩ => ⟨I1.kIn, ?_⟩) he hpl
  exact run_fn F hr hb hd hx I1 r q
structure Mk (K : PySem.W.Frag) (C f : Addr) : Prop where
  makes : PySem.W.makesIn K C = true
  init : PySem.W.findIn K (.ref C) "__init__" = some (some (.ref f))
  fn : PySem.W.isFn K (.ref f) = true
  kp : PySem.W.keepIn K (.ref C) = true
end
def PK (X : Cx) (kws : List Keyword) (t : TA) : Prop :=
  ∀ (pos : Pos) (pins : List (Addr × Obj)) (s : Shared) (σ : St) (H : Hp) (Q : List V → Hp → Prop), Inv X pins σ H s → t σ H Q → wpAny (model X.prog X.w) X.A (evalAll ((backToKw pos (keywordEach kws X.env)).map (·.2))) (AP X pins σ Q) X.xe s
section
variable {X : Cx} {CX : CXT} {k : Nat} {f C : Addr} {fd : FuncData} {ps ks : List Str} {sp : Sp} {E : XK} {x m : Str} {p pos apos kpos : Pos} {e o : Expr} {es : List Expr} {kws : List Keyword} {te ta : TE} {t tk : TA} {nm : Option Str}
structure KBinds (K : PySem.W.Frag) (fd : FuncData) (ps ks : List Str) (g : List Value → List Value → List Value) (gV : List V → List V → List V) : Prop where
  to : ∀ (s : Shared) (us ws : List Value), K.In s.heap → (g us ws).length = ps.length → BindsTo s fd ⟨us, ks.zip ws⟩ (ps.zip (g us ws))
  rel : ∀ {vs : List V} {us : List Value} {zs : List V} {ws : List Value}, Vals vs us → Vals zs ws → Vals (gV vs zs) (g us ws)
variable {g : List Value → List Value → List Value} {gV : List V → List V → List V}
end
structure FnScope (N P : List Str) (sc : Scope) : Prop where
  kind : sc.kind = .function
  co : sc.isCoroutine = false
  gen : sc.isGenerator = false
  nd : N.Nodup
  pre : N.take P.length = P
  par : ∀ x ∈ P, sc.names.lookup x = some .local ∨ sc.names.lookup x = some .cell
  nofree : ∀ y ∈ sc.names, y.2 ≠ .free
theorem bindL_out {kindOf : Str → Option NameKind} {x : Str} : ∀ {binds : List (Str × Value)} {m : Str → Option Value}, (∀ v, (x, v) ∉ binds) → bindL kindOf binds m x = m x
  | [], _, _ => rfl
  | (n, v) :: r, m, h => by
    unfold bindL
    rw [bindL_out fun w hw => h w (List.mem_cons_of_mem _ hw)]
    split
    · have : x ≠ n := by rintro rfl; exact h v List.mem_cons_self
      simp [this]
    · rfl
theorem bindC_out {kindOf : Str → Option NameKind} {x : Str} : ∀ {binds : List (Str × Value)} {m : Str → Option Value}, (∀ v, (x, v) ∉ binds) → bindC kindOf binds m x = m x
  | [], _, _ => rfl
  | (n, v) :: r, m, h => by
    unfold bindC
    rw [bindC_out fun w hw => h w (List.mem_cons_of_mem _ hw)]
    split
    · rfl
    · have : x ≠ n := by rintro rfl; exact h v List.mem_cons_self
      simp [this]
theorem bindL_get {kindOf : Str → Option NameKind} {x : Str} {v : Value} : ∀ {P : List Str} {vs : List Value} {i : Nat} {m : Str → Option Value}, P.Nodup → P[i]? = some x → vs[i]? = some v → kindOf x = some .local →
    bindL kindOf (P.zip vs) m x = some v
  | [], _, _, _, _, h, _, _ => by simp at h
  | _ :: _, [], _, _, _, _, h, _ => by simp at h
  | p :: P, w :: vs, 0, m, nd, h1, h2, hk => by
    simp at h1 h2; subst h1; subst h2
    show bindL kindOf ((p, w) :: P.zip vs) m p = _
    unfold bindL
    rw [bindL_out fun v hv => (List.nodup_cons.mp nd).1 (List.of_mem_zip hv).1, if_pos hk]
    simp
  | p :: P, w :: vs, i + 1, m, nd, h1, h2, hk => by
    show bindL kindOf ((p, w) :: P.zip vs) m x = _
    unfold bindL
    exact bindL_get (i := i) (List.nodup_cons.mp nd).2 (by simpa using h1) (by simpa using h2) hk
theorem bindC_get {kindOf : Str → Option NameKind} {x : Str} {v : Value} : ∀ {P : List Str} {vs : List Value} {i : Nat} {m : Str → Option Value}, P.Nodup → P[i]? = some x → vs[i]? = some v → kindOf x ≠ some .local →
    bindC kindOf (P.zip vs) m x = some v
  | [], _, _, _, _, h, _, _ => by simp at h
  | _ :: _, [], _, _, _, _, h, _ => by simp at h
  | p :: P, w :: vs, 0, m, nd, h1, h2, hk => by
    simp at h1 h2; subst h1; subst h2
    show bindC kindOf ((p, w) :: P.zip vs) m p = _
    unfold bindC
    rw [bindC_out fun v hv => (List.nodup_cons.mp nd).1 (List.of_mem_zip hv).1, if_neg hk]
    simp
  | p :: P, w :: vs, i + 1, m, nd, h1, h2, hk => by
    show bindC kindOf ((p, w) :: P.zip vs) m x = _
    unfold bindC
    exact bindC_get (i := i) (List.nodup_cons.mp nd).2 (by simpa using h1) (by simpa using h2) hk
def start (N : List Str) (vs : List V) : St := vs.map some ++ List.replicate (N.length - vs.length) none
def cxOf (CX : CXT) (P : Program) (w : World) (K : PySem.W.Frag) (mg : Str → Option Value) (base : Heap) (N : List Str) (qual : Str) (scope : Scope) (f : Addr) (cd : Value) (A : Around) (outer : List Env) (s : Shared) (H : Hp) (E : XK) : Cx where
  prog := P
  w := w
  K := K
  mg := mg
  base := base
  A := A.deeper (envOfC qual scope s.heap.objs.size f cd)
  N := N
  s₀ := s
  H₀ := H
  env := envOfC qual scope s.heap.objs.size f cd
  outer := outer
  stack := envOfC qual scope s.heap.objs.size f cd :: outer
  ex := []
  calm := true
  fn := fun _ => true
  pn := []
  xe := fun e s' => wpAny (model P w) (A.deeper (envOfC qual scope s.heap.objs.size f cd)) (leaving (envOfC qual scope s.heap.objs.size f cd) e) (fun _ s'' => CX outer H s E e s'') (fun e' s'' => CX outer H s E e' s'') s'
theorem cell_has {sc : Scope} {n : Nat} {x : Str} (h : sc.names.lookup x = some .cell) : ∃ c, (cellsFrom n sc.names []).lookup x = some c := by
  have q := PySem.W.cellsFrom_some sc.names n [] (.inl h)
  exact Option.isSome_iff_exists.mp q
theorem inv_start {CX : CXT} {P : Program} {w : World} {K : PySem.W.Frag} {mg : Str → Option Value} {base : Heap} {N ps : List Str} {qual : Str} {scope : Scope} {f : Addr} {cd : Value} {A : Around} {outer : List Env} {s s1 : Shared} {H : Hp} {E : XK} {us : List Value} {vs : List V}
    (S : FnScope N ps scope) (hd : A.handled = none) (e0 : Env0 P w K mg base A outer s H) (hl : vs.length = ps.length) (r : Vals vs us)
    (x : InCallC s s.heap.objs.size (bindL (envOfC qual scope s.heap.objs.size f cd).kindOf (ps.zip us) fun _ => none) (cellsFrom (s.heap.objs.size + 1) scope.names []) (bindC (envOfC qual scope s.heap.objs.size f cd).kindOf (ps.zip us) fun _ => none) s1) :
    Inv (cxOf CX P w K mg base N qual scope f cd A outer s H E) [] (start N vs) H s1 := by
  have hpl : ps.length ≤ N.length := by have := congrArg List.length S.pre; rw [List.length_take] at this; omega
  obtain ⟨h1, tk, rfl, hk⟩ := x.done
  have noA : ∀ b : Addr, b ∉ (cxOf CX P w K mg base N qual scope f cd A outer s H E).ex := fun b z => absurd (show b ∈ ([] : List Addr) from z) (by simp)
  refine ⟨⟨e0.mod, S.kind, rfl, rfl, Nat.le_refl _, fun y z c h1 h2 => ?_, fun y hy => ?_, fun y c _ h => ?_, fun _ => hd, Around.frames_deeper e0.frames, .inr ⟨rfl, rfl⟩, fun b z => absurd z (noA b), e0.bs, e0.bsz, fun b _ _ => noA b, fun b z => absurd z (noA b), e0.funs, e0.frf⟩,
    rfl, e0.bare, Un.kept hk, ⟨_, x.toInCall.ns, fun i y v h1 h2 h3 => ?_⟩, fun y c h => ⟨_, x.cell y c h⟩, e0.hok.fresh (Nat.le_refl _), fun y c h => ?_, fun p hp => absurd (show p ∈ ([] : List (Addr × Obj)) from hp) (by simp), e0.hok.kept hk, ?_⟩
  · exact name_of_addr x.apart (PySem.mem_of_lookup h1) (PySem.mem_of_lookup h2)
  · have hy : scope.names.lookup y = some .cell ∨ scope.names.lookup y = some .free := hy
    rcases hy with hy | hy
    · exact cell_has hy
    · exact absurd rfl (S.nofree _ (PySem.mem_of_lookup hy))
  · exact Nat.le_of_lt (x.above y c (PySem.mem_of_lookup h))
  · have hi : i < vs.length := by
      unfold start at h2
      by_cases hi : i < vs.length
      · exact hi
      · rw [List.getElem?_append_right (by simpa using hi)] at h2
        rw [List.getElem?_replicate] at h2
        split at h2 <;> cases h2
    have ha : vs[i]? = some v := by
      unfold start at h2
      rw [List.getElem?_append_left (by simpa using hi), List.getElem?_map] at h2
      cases e : vs[i]? with
      | none => rw [e] at h2; cases h2
      | some a => rw [e] at h2; cases h2; rfl
    obtain ⟨u, hu, rv⟩ := r.get ha
    have hp : ps[i]? = some y := by
      rw [← S.pre, List.getElem?_take_of_lt (by omega)]; exact h1
    have ndP : ps.Nodup := by rw [← S.pre]; exact S.nd.sublist (List.take_sublist _ _)
    refine ⟨u, rv, ?_⟩
    rcases S.par y (List.mem_of_getElem? hp) with k | k
    · exact .inl ⟨k, bindL_get ndP hp hu k⟩
    · obtain ⟨c, e⟩ := cell_has (n := s.heap.objs.size + 1) k
      refine .inr ⟨.inl k, c, e, ?_⟩
      have q := x.cell y c e
      rw [bindC_get ndP hp hu (by show scope.names.lookup y ≠ _; rw [k]; decide)] at q
      exact q
  · exact e0.hok.fresh (Nat.le_of_lt (x.above y c (PySem.mem_of_lookup h)))
  · unfold start
    show _ = N.length
    rw [List.length_append, List.length_map, List.length_replicate]
    omega
theorem fn_of {CX : CXT} {P : Program} {w : World} {K : PySem.W.Frag} {mg : Str → Option Value} {base : Heap} {k : Nat} {f : Addr} {name qual : Str} {params : Arguments} {body : List Stmt} {scope : Scope} {dV kV doc pm cdv ct oc : Value} {an od : Option Addr}
    {osl : Array (Option Value)} {N ps : List Str} {sp : Sp} (lk : K.lookup f = some ⟨oc, od, .func (PySem.W.fnOf name qual params body scope dV kV doc pm an cdv ct), osl⟩) (hcd : PySem.W.codeIn K cdv qual = true) (S : FnScope N ps scope)
    (len : ∀ vs H Q E, sp vs H Q E → vs.length = ps.length)
    (hbody : ∀ (A : Around) (outer : List Env) (s : Shared) (H : Hp) (vs : List V) (Q : VK) (E : XK), Room k (A.deeper (envOfC qual scope s.heap.objs.size f cdv)) → sp vs H Q E →
      ∃ t, PSs (cxOf CX P w K mg base N qual scope f cdv A outer s H E) body t ∧ t { nx := fun _ H' => Q .non H', rt := Q } (start N vs) H) :
    FnOk P w K mg base CX (k + 1) f (PySem.W.fnOf name qual params body scope dV kV doc pm an cdv ct) ps sp := by
  refine ⟨len, fun A outer s H args us vs Q E hr e0 hb r hsp => ?_⟩
  have hl := len _ _ _ _ hsp
  have KX : K.In s.heap := e0.mod.kin.keeps fun b o e => (e0.bs b o e).1
  have lim : s.heap.NoLimit := e0.mod.nolimit.keeps fun b o e => (e0.bs b o e).1
  have hkind : ∀ y ∈ ps.zip us, scope.names.lookup y.1 = some .local ∨ (scope.names.lookup y.1 = some .cell ∧ ((cellsFrom (s.heap.objs.size + 1) scope.names []).lookup y.1).isSome = true) := fun ⟨n, v⟩ hy => by
    rcases S.par n (List.of_mem_zip hy).1 with q | q
    · exact .inl q
    · exact .inr ⟨q, PySem.W.cellsFrom_some _ _ _ (.inl q)⟩
  refine codeAny_call_function hr.depth (KX _ _ lk) rfl S.co S.gen rfl (PySem.W.codeRec_of KX hcd) (hb _ _ _ _ ?_)
  refine wpAny_newFunctionEnv_cells S.kind hkind fun env he s1 x => ?_
  subst he
  refine ⟨lim.keeps x.toInCall.keep, codeAny_func ?_⟩
  obtain ⟨t, ht, hq⟩ := hbody A outer s H vs Q E (hr.deeper _) hsp
  have I : Inv (cxOf CX P w K mg base N qual scope f cdv A outer s H E) [] (start N vs) H s1 := inv_start S hr.hd e0 hl r x
  refine wpAny_mono (ht [] s1 (start N vs) H _ I hq) (fun fl s' hs => ?_) fun e s' hs => hs
  have fin : ∀ {σ' : St} {H' : Hp} {v : V} {u : Value}, Inv (cxOf CX P w K mg base N qual scope f cdv A outer s H E) [] σ' H' s' → RelV v u → Q v H' → CE outer P w H s Q u s' :=
    fun {σ' H' v u} J rv q => ⟨v, H', J.os, J.bare, J.base, J.hok, rv, q⟩
  cases fl with
  | ret u =>
    obtain ⟨v, σ', H', J, rv, q⟩ := hs
    exact fin J rv q
  | next =>
    obtain ⟨σ', H', J, q⟩ := hs
    exact fin (v := V.non) (u := Value.none) J rfl q
  | brk =>
    obtain ⟨_, _, _, q⟩ := hs
    exact False.elim q
  | cont =>
    obtain ⟨_, _, _, q⟩ := hs
    exact False.elim q
end L2
namespace L2
open PySem PySem.Spec PyProof.Rows
section
variable {X : Cx} {x : Str} {p pos : Pos} {e : Expr} {es : List Expr} {t : TA} {id T : String} {r : List V → Hp → VK → Prop}
def tCB (r : List V → Hp → VK → Prop) (t : TA) : TE := fun σ H Q => t σ H fun vs H1 => r vs H1 Q
theorem pe_callB (hc : CallR X (.builtin id) r) (hg : Gl X x) (hm : X.mg x = none) (hv : bootBuiltins x = some (.builtin id)) (ha : PA X (e :: es) t) (hn : x ≠ "__name__" := by decide) (hdb : (x == ("__debug__" : Str)) = false := by decide)
    (he : starEach (e :: es) X.env = (false, eval e X.env) :: starEach es X.env := by rfl) (hpl : (backTo pos (starEach es X.env)).any (·.1) = false := by rfl) : PE X (.Call (.Name x p) (e :: es) [] pos) (tCB r t) := by
  intro pins s σ H Q I h
  refine wpAny_Call_Name_kw (ld_blt I hg hm hv ?_ hn hdb)
  exact PyProof.Rows.callWith_builtin1 (thn (ha pos pins s σ H _ I h) fun us s1 ⟨vs, H1, I1, r1, q1⟩ => hc pins s1 σ H1 vs us Q I1 r1 q1) he hpl
theorem pe_callTy (hc : CallR X (.type T) r) (hg : Gl X x) (hm : X.mg x = none) (hv : bootBuiltins x = some (.type T)) (ha : PA X (e :: es) t) (hn : x ≠ "__name__" := by decide) (hdb : (x == ("__debug__" : Str)) = false := by decide)
    (he : starEach (e :: es) X.env = (false, eval e X.env) :: starEach es X.env := by rfl) (hpl : (backTo pos (starEach es X.env)).any (·.1) = false := by rfl) : PE X (.Call (.Name x p) (e :: es) [] pos) (tCB r t) := by
  intro pins s σ H Q I h
  refine wpAny_Call_Name_kw (ld_blt I hg hm hv ?_ hn hdb)
  exact PyProof.Rows.callWith_type1 (thn (ha pos pins s σ H _ I h) fun us s1 ⟨vs, H1, I1, r1, q1⟩ => hc pins s1 σ H1 vs us Q I1 r1 q1) he hpl
end
end L2
namespace HT
open PySem PyProof.Rows
section
variable {prog : Program} {w : World} {A : Around} {E : Value → Shared → Prop} {s : Shared}
theorem cat_tup {t b : Addr} {vs ws : List Value} {Q : Value → Shared → Prop} (ht : IsTup s.heap t vs.toArray) (hb : IsTup s.heap b ws.toArray) (hv : vs ≠ [])
    (h1 : ws = [] → Q (.ref t) s) (h2 : ws ≠ [] → Q (.ref s.heap.objs.size) { s with heap := s.heap.push { cls := .type "tuple", data := .seq (vs ++ ws).toArray } })
    (hsz : vs.length + ws.length ≤ sizeLine) : wpAny (model prog w) A (binaryOp .Add (.ref t) (.ref b)) Q E s := by
  obtain ⟨⟨cls, dd, data, sl⟩, ho, hc, n, hd⟩ := id ht
  obtain ⟨⟨cls2, dd2, data2, sl2⟩, ho2, hc2, n2, hd2⟩ := id hb
  simp only at hc hd hc2 hd2
  subst hc hd hc2 hd2
  have e : vs.toArray ++ ws.toArray = (vs ++ ws).toArray := by simp
  by_cases hw : ws = []
  · exact concat_meets ⟨_, ho, rfl⟩ ⟨_, ho2, rfl⟩ noFill_tuple_add seq_tuple_add PySem.F.slot_tuple_add PySem.F.entry_tuple_add (PySem.F.args_tuple_add_2 _ _)
      (tuple_addW1 t b vs.toArray ws.toArray n n2 dd dd2 sl sl2 (by simpa using hv) (by simp [hw])) ⟨ho, ho2, h1 hw⟩
  · refine concat_meets ⟨_, ho, rfl⟩ ⟨_, ho2, rfl⟩ noFill_tuple_add seq_tuple_add PySem.F.slot_tuple_add PySem.F.entry_tuple_add (PySem.F.args_tuple_add_2 _ _)
      (tuple_addW2 t b vs.toArray ws.toArray n n2 dd dd2 sl sl2 (by simpa using hv) (by simpa using hw) (by rw [List.size_toArray, List.size_toArray]; exact hsz)) ⟨ho, ho2, ?_⟩
    rw [e]
    exact h2 hw
def sIx (n d : Nat) : Option Int → Nat
  | none => d
  | some v => if v < 0 then (v + (n : Int)).toNat else min v.toNat n
theorem sIx_le (n d : Nat) (hd : d ≤ n) (o : Option Int) : sIx n d o ≤ n := by
  cases o with
  | none => exact hd
  | some v =>
    show (if v < 0 then (v + (n : Int)).toNat else min v.toNat n) ≤ n
    by_cases hv : v < 0
    · rw [if_pos hv]; omega
    · rw [if_neg hv]; exact Nat.min_le_right _ _
theorem clip_eq (v : Int) (n d : Nat) : (if v < 0 then max (v + (n : Int)) 0 else min v (n : Int)) = ((sIx n d (some v) : Nat) : Int) := by
  show (if v < 0 then max (v + (n : Int)) 0 else min v (n : Int)) = (((if v < 0 then (v + (n : Int)).toNat else min v.toNat n) : Nat) : Int)
  by_cases hv : v < 0
  · simp only [if_pos hv]; omega
  · simp only [if_neg hv]; omega
theorem adjust_gen (lo hi : Option Int) (n : Nat) : Builtin.Slice.sliceAdjust lo hi 1 (n : Int) = (((sIx n 0 lo : Nat) : Int), ((sIx n n hi : Nat) : Int)) := by
  have h1 : ¬ ((1 : Int) < 0) := by omega
  unfold Builtin.Slice.sliceAdjust
  simp only [h1, if_false]
  refine Prod.ext ?_ ?_
  · cases lo with
    | none => rfl
    | some v => exact clip_eq v n 0
  · cases hi with
    | none => rfl
    | some v => exact clip_eq v n n
theorem places_gen (i j : Nat) : Builtin.Slice.slicePlaces (i : Int) (j : Int) 1 = j - i := by
  unfold Builtin.Slice.slicePlaces
  have h1 : (1 : Int) > 0 := by omega
  simp only [h1, if_true, Int.ediv_one]
  split <;> omega
theorem slicePart_ {v : Value} {o : Option Int} {Q : Option Int → Shared → Prop} (p : IsPart v o) (h : Q o s) : wpAny (model prog w) A (Builtin.Slice.slicePartIndex v) Q E s := by
  cases p with
  | none => exact slicePart_none h
  | int i t => exact slicePart_int h
theorem sliceApplied_gen {sl : Addr} {vl vu : Value} {lo hi : Option Int} {n : Nat} {Q : Int × Int × Nat → Shared → Prop} (hs : s.heap.IsSliceOf sl vl vu .none) (pl : IsPart vl lo) (pu : IsPart vu hi)
    (h : Q (((sIx n 0 lo : Nat) : Int), 1, sIx n n hi - sIx n 0 lo) s) : wpAny (model prog w) A (Builtin.Slice.sliceApplied (.ref sl) (pure (n : Int))) Q E s := by
  obtain ⟨os, hos, hcs, hds⟩ := id hs
  unfold Builtin.Slice.sliceApplied Builtin.Slice.sliceFields
  refine wpAny_bind (wpAny_bind (wpAny_field hos hds (x := vl) rfl (wpAny_bind (wpAny_field hos hds (x := vu) rfl (wpAny_bind (wpAny_field hos hds (x := .none) rfl (wpAny_pure ?_)))))))
  refine wpAny_bind (slicePart_none ?_)
  show wpAny _ _ (if ((1 : Int) == 0) = true then _ else _) _ _ s
  rw [if_neg (by decide)]
  refine wpAny_bind (slicePart_ pl (wpAny_bind (slicePart_ pu (wpAny_bind (wpAny_pure ?_)))))
  show wpAny _ _ (match Builtin.Slice.sliceAdjust lo hi 1 (n : Int) with | (lo, hi) => pure (lo, (1 : Int), Builtin.Slice.slicePlaces lo hi 1)) _ _ s
  rw [adjust_gen lo hi n]
  show wpAny _ _ (pure (((sIx n 0 lo : Nat) : Int), (1 : Int), Builtin.Slice.slicePlaces ((sIx n 0 lo : Nat) : Int) ((sIx n n hi : Nat) : Int) 1)) _ _ s
  rw [places_gen]
  exact wpAny_pure h
theorem pick_gen (xs : Array Value) (i k : Nat) : ((List.range k).filterMap fun (m : Nat) => xs[((i : Int) + (m : Int) * 1).toNat]?).toArray = ((xs.toList.drop i).take k).toArray := by
  have e : (fun (m : Nat) => xs[((i : Int) + (m : Int) * 1).toNat]?) = fun m => xs[i + m]? := by
    funext m
    have : ((i : Int) + (m : Int) * 1).toNat = i + m := by omega
    rw [this]
  rw [e]
  have := pick_run xs i k
  rw [List.filterMap_map] at this
  have e2 : ((fun x => xs[x]?) ∘ fun x => i + x) = fun m => xs[i + m]? := rfl
  rw [e2] at this
  rw [this]
theorem getItem_tuple_cut {t sl : Addr} {items : Array Value} {vl vu : Value} {lo hi : Option Int} {Q : Value → Shared → Prop} (ht : IsTup s.heap t items) (hs : s.heap.IsSliceOf sl vl vu .none) (pl : IsPart vl lo) (pu : IsPart vu hi)
    (hw : ¬ (sIx items.size 0 lo = 0 ∧ sIx items.size items.size hi = items.size))
    (h : Q (.ref s.heap.objs.size) { s with heap := s.heap.push { cls := .type "tuple", data := .seq ((items.toList.drop (sIx items.size 0 lo)).take (sIx items.size items.size hi - sIx items.size 0 lo)).toArray } })
    (hsz : items.size ≤ sizeLine) : wpAny (model prog w) A (getItem (.ref t) (.ref sl)) Q E s := by
  have htake : sizeOk (.seq ((items.toList.drop (sIx items.size 0 lo)).take (sIx items.size items.size hi - sIx items.size 0 lo)).toArray) := by
    show ((items.toList.drop (sIx items.size 0 lo)).take (sIx items.size items.size hi - sIx items.size 0 lo)).toArray.size ≤ sizeLine
    rw [List.size_toArray, List.length_take, List.length_drop, Array.length_toList]
    omega
  have hj : sIx items.size items.size hi ≤ items.size := sIx_le _ _ (Nat.le_refl _) hi
  obtain ⟨os, hos, hcs, hds⟩ := id hs
  have hTs : s.TypeIs (.ref sl) "slice" := ⟨os, hos, hcs⟩
  unfold getItem
  try with_reducible refine wpAny_holding ?_
  first | refine wpAny_bind (wpAny_pure ?_) | skip
  refine wpAny_bind (wpAny_sequenceKey ht.typeIs (by decide) ?_)
  refine wpAny_bind (wpAny_callSpecial?_slot (name := Str.ofString "__getitem__") ht.typeIs PyProof.Rows.slot_tuple_getitem
    (wpAny_call_entry PyProof.Rows.slot_tuple_getitem ht.typeIs entry_tuple_getitem ?_ (args_tuple_getitem _ _)))
  show wpAny _ _ (Builtin.Tuple.tupleItemsOf (.ref t) >>= _) _ _ s
  refine wpAny_bind (tupleItemsOf_ ht ?_)
  refine wpAny_bind (wpAny_typeOf hTs ?_)
  rw [if_pos (by decide)]
  refine wpAny_bind (sliceApplied_gen hs pl pu ?_)
  have hno : ¬ ((((sIx items.size 0 lo : Nat) : Int) == 0 && (1 : Int) == 1 && (sIx items.size items.size hi - sIx items.size 0 lo) == items.size) = true) := by
    intro q
    rw [Bool.and_eq_true, Bool.and_eq_true] at q
    have q1 : ((sIx items.size 0 lo : Nat) : Int) = 0 := eq_of_beq q.1.1
    have q2 : sIx items.size items.size hi - sIx items.size 0 lo = items.size := eq_of_beq q.2
    exact hw ⟨by omega, by omega⟩
  show wpAny _ _ (if (((sIx items.size 0 lo : Nat) : Int) == 0 && (1 : Int) == 1 && (sIx items.size items.size hi - sIx items.size 0 lo) == items.size) = true then _ else _) _ _ s
  rw [if_neg hno, pick_gen]
  first
    | exact wpAny_bind (m := Builtin.Tuple.tupleExact _) (wpAny_newObj_type (wpAny_pure ⟨_, rfl, wpAny_pure h⟩) htake)
    | exact wpAny_bind (m := Builtin.Tuple.tupleExact _) (wpAny_newObj_type (wpAny_bind (wpAny_pure (wpAny_pure ⟨_, rfl, wpAny_pure h⟩))) htake)
    | exact wpAny_bind (wpAny_bind (m := Builtin.Tuple.tupleExact _) (wpAny_newObj_type (wpAny_pure (wpAny_pure ⟨_, rfl, wpAny_pure h⟩)) htake))
    | exact wpAny_bind (wpAny_bind (m := Builtin.Tuple.tupleExact _) (wpAny_newObj_type (wpAny_pure ⟨_, rfl, wpAny_pure h⟩) htake))
end
end HT
namespace L2
open PySem PySem.Spec PyProof.Rows
abbrev TO := St → Hp → (Option Int → Hp → Prop) → Prop
def PO (X : Cx) (e : Option Expr) (t : TO) : Prop :=
  ∀ (pins : List (Addr × Obj)) (s : Shared) (σ : St) (H : Hp) (Q : Option Int → Hp → Prop), Inv X pins σ H s → t σ H Q →
    wpAny (model X.prog X.w) X.A (evalPart e X.env) (fun u s' => ∃ o H', Inv X pins σ H' s' ∧ IsPart u o ∧ Q o H') X.xe s
def tNoPart : TO := fun _ H Q => Q none H
def tPart (t : TE) : TO := fun σ H Q => t σ H fun x H1 => ∃ i, x = .int i ∧ Q (some i) H1
section
variable {X : Cx} {e : Expr} {te : TE} {lo hi : Option Expr} {tl th : TO} {pos p2 : Pos}
theorem po_none : PO X none tNoPart := by
  intro pins s σ H Q I h
  rw [evalPart_none]
  exact wpAny_pure ⟨none, H, I, .none, h⟩
theorem po_some (h : PE X e te) : PO X (some e) (tPart te) := by
  intro pins s σ H Q I hw
  rw [evalPart_some]
  refine thn (h pins s σ H _ I hw) fun u s1 ⟨x, H1, I1, r1, q1⟩ => ?_
  obtain ⟨i, rfl, q⟩ := q1
  obtain ⟨t, rfl⟩ := r1
  exact ⟨some i, H1, I1, .int i t, q⟩
def SlR (X : Cx) (r : V → Option Int → Option Int → Hp → VK → Prop) : Prop :=
  ∀ (pins : List (Addr × Obj)) (s : Shared) (σ : St) (H : Hp) (x : V) (v vl vu : Value) (lo hi : Option Int) (sl : Addr) (Q : VK), Inv X pins σ H s → RelV x v → s.heap.IsSliceOf sl vl vu .none → IsPart vl lo → IsPart vu hi → r x lo hi H Q →
    ∃ T id, typeLookup (.type T) "__getitem__" = pure (some (.builtin id)) ∧ s.TypeIs v T ∧ wpAny (model X.prog X.w) X.A (getItem v (.ref sl)) (EP X pins σ Q) X.xe s
def tSl (r : V → Option Int → Option Int → Hp → VK → Prop) (te : TE) (tl th : TO) : TE := fun σ H Q => te σ H fun x H1 => tl σ H1 fun l H2 => th σ H2 fun u H3 => r x l u H3 Q
theorem pe_slice {r : V → Option Int → Option Int → Hp → VK → Prop} (hr : SlR X r) (he : PE X e te) (hl : PO X lo tl) (hu : PO X hi th) : PE X (.Subscript e (.Slice lo hi none p2) pos) (tSl r te tl th) := by
  intro pins s σ H Q I h
  refine Subscript_ (thn (he pins s σ H _ I h) fun v s1 ⟨x, H1, I1, r1, q1⟩ => ?_)
  refine wpAny_Slice (thn (hl pins s1 σ H1 _ I1 q1) fun vl s2 ⟨l, H2, I2, pl, q2⟩ => thn (hu pins s2 σ H2 _ I2 q2) fun vu s3 ⟨u, H3, I3, pu, q3⟩ => ?_)
  rw [evalPart_none]
  refine wpAny_pure ?_
  have I4 : Inv X pins σ H3 { s3 with heap := s3.heap.push { cls := .type "slice", data := .fields #[vl, vu, .none] } } := I3.kept (t' := s3.toks) fun b ob q => Heap.get?_push_of_some _ q
  obtain ⟨T, id, hT, ht, hg⟩ := hr pins { s3 with heap := s3.heap.push { cls := .type "slice", data := .fields #[vl, vu, .none] } } σ H3 x v vl vu l u s3.heap.objs.size Q I4 r1 (Heap.IsSliceOf.new ..) pl pu q3
  show wpAny (model X.prog X.w) X.A (subscriptTail e (.Slice lo hi none p2) v (.ref s3.heap.objs.size)) (EP X pins σ Q) X.xe { s3 with heap := s3.heap.push { cls := .type "slice", data := .fields #[vl, vu, .none] } }
  exact tail_any (ops := [.ref s3.heap.objs.size, v]) ht hT hg (by with_unfolding_all rfl)
def cutV (xs : List V) (lo hi : Option Int) : List V := (xs.drop (HT.sIx xs.length 0 lo)).take (HT.sIx xs.length xs.length hi - HT.sIx xs.length 0 lo)
theorem cutV_length (xs : List V) (lo hi : Option Int) : (cutV xs lo hi).length ≤ xs.length := by
  unfold cutV
  rw [List.length_take, List.length_drop]
  omega
def rSlT (K : PySem.W.Frag) : V → Option Int → Option Int → Hp → VK → Prop := fun x lo hi H Q => ∃ a xs, x = .ref a ∧ SqT K H a xs ∧
  ¬ (HT.sIx xs.length 0 lo = 0 ∧ HT.sIx xs.length xs.length hi = xs.length) ∧ ∀ p, H p = none → Q (.ref p) (upd H p (.tup (cutV xs lo hi)))
theorem sl_tup : SlR X (rSlT X.K) := by
  intro pins s σ H x v vl vu lo hi sl Q I rx hs pl pu h
  obtain ⟨a, xs, rfl, hx, hw, q⟩ := h
  cases rx
  obtain ⟨its, r, ht, hz⟩ := I.tuple hx
  have hlen : its.toArray.size = xs.length := by rw [List.size_toArray]; exact r.length.symm
  refine ⟨"tuple", _, PyProof.Rows.slot_tuple_getitem.lookup, ht.typeIs, ?_⟩
  refine HT.getItem_tuple_cut ht hs pl pu (by rw [hlen]; exact hw) ?_ (by rw [hlen]; exact hz)
  rw [hlen]
  refine ⟨.ref s.heap.objs.size, _, I.laid (t' := s.toks) (o := .tup (cutV xs lo hi)) (fun b ob q => Heap.get?_push_of_some _ q) (Nat.le_refl _) ?_, rfl, q _ (I.hok.fresh (Nat.le_refl _))⟩
  exact ⟨Nat.le_trans (cutV_length xs lo hi) hz, _, (r.drop (HT.sIx xs.length 0 lo)).take (HT.sIx xs.length xs.length hi - HT.sIx xs.length 0 lo), IsTup.new _ _⟩
def rCatT (K : PySem.W.Frag) : R2 := fun x y H Q => ∃ a b xs ys, x = .ref a ∧ y = .ref b ∧ SqT K H a xs ∧ SqT K H b ys ∧ xs ≠ [] ∧ xs.length + ys.length ≤ sizeLine ∧
  (ys = [] → Q (.ref a) H) ∧ (ys ≠ [] → ∀ p, H p = none → Q (.ref p) (upd H p (.tup (xs ++ ys))))
theorem Vals.nil_iff {xs : List V} {us : List Value} (r : Vals xs us) : us = [] ↔ xs = [] := by
  cases r with
  | nil => simp
  | cons _ _ => simp
theorem op_catT : OpR X (binaryOp .Add) (rCatT X.K) := by
  intro pins s σ H x y v u Q I rx ry h
  obtain ⟨a, b, xs, ys, rfl, rfl, ha, hb, hx, hz, q1, q2⟩ := h
  cases rx
  cases ry
  obtain ⟨its, r1, p1, _⟩ := I.tuple ha
  obtain ⟨its2, r2, p2, _⟩ := I.tuple hb
  refine HT.cat_tup p1 p2 (fun z => hx (r1.nil_iff.mp z)) (fun z => ⟨.ref a, H, I, rfl, q1 (r2.nil_iff.mp z)⟩) (fun z => ?_) (by rw [← r1.length, ← r2.length]; exact hz)
  refine ⟨.ref s.heap.objs.size, _, I.laid (t' := s.toks) (o := .tup (xs ++ ys)) (fun b ob q => Heap.get?_push_of_some _ q) (Nat.le_refl _) ?_, rfl, q2 (fun w => z (r2.nil_iff.mpr w)) _ (I.hok.fresh (Nat.le_refl _))⟩
  exact ⟨by rw [List.length_append]; exact hz, _, r1.append r2, IsTup.new _ _⟩
end
end L2
namespace L2
open PySem PySem.Spec PyProof.Rows
def ixN (n : Nat) (i : Int) : Option Nat := if 0 ≤ i then (if i < n then some i.toNat else none) else if -(n : Int) ≤ i then some (i + n).toNat else none
def atI {α : Type} (xs : List α) (i : Int) : Option α := (ixN xs.length i).bind fun j => xs[j]?
theorem ixN_seq {n : Nat} {i : Int} {j : Nat} (h : ixN n i = some j) : seqIndex? i n = some j ∧ j < n ∧ -(n : Int) ≤ i ∧ i < n := by
  unfold ixN at h
  by_cases h0 : 0 ≤ i
  · rw [if_pos h0] at h
    by_cases h1 : i < n
    · rw [if_pos h1] at h
      have e : i.toNat = j := Option.some.inj h
      exact ⟨by rw [seqIndex_of h0 h1, e], by omega, by omega, h1⟩
    · rw [if_neg h1] at h; cases h
  · rw [if_neg h0] at h
    by_cases h1 : -(n : Int) ≤ i
    · rw [if_pos h1] at h
      have e : (i + n).toNat = j := Option.some.inj h
      exact ⟨by rw [seqIndex_neg (by omega) h1, e], by omega, h1, by omega⟩
    · rw [if_neg h1] at h; cases h
theorem atI_get {α : Type} {xs : List α} {i : Int} {v : α} (h : atI xs i = some v) : ∃ j, seqIndex? i xs.length = some j ∧ xs[j]? = some v ∧ j < xs.length ∧ -(xs.length : Int) ≤ i ∧ i < xs.length := by
  unfold atI at h
  cases e : ixN xs.length i with
  | none => rw [e] at h; cases h
  | some j =>
    rw [e] at h
    obtain ⟨h1, h2, h3, h4⟩ := ixN_seq e
    exact ⟨j, h1, h, h2, h3, h4⟩
theorem atI_nat {α : Type} {xs : List α} {j : Nat} {v : α} (h : xs[j]? = some v) : atI xs (j : Int) = some v := by
  have hj : j < xs.length := (List.getElem?_eq_some_iff.mp h).1
  have e : ixN xs.length (j : Int) = some j := by
    unfold ixN
    rw [if_pos (by omega), if_pos (by omega)]; simp
  unfold atI; rw [e]; exact h
theorem atI_last {α : Type} (xs : List α) (v : α) : atI (xs ++ [v]) (-1) = some v := by
  have hl : (xs ++ [v]).length = xs.length + 1 := by simp
  have e : ixN (xs ++ [v]).length (-1) = some xs.length := by
    unfold ixN
    rw [hl, if_neg (by decide), if_pos (by omega)]
    congr 1
    omega
  unfold atI
  rw [e]
  show (xs ++ [v])[xs.length]? = some v
  simp
def PlainIx (b : Expr) : Prop := ∀ o i, subscripted b false o i = operate [o, i] (getItem o i)
def IxR (X : Cx) (r : R2) : Prop :=
  ∀ (value slice : Expr) (pins : List (Addr × Obj)) (s : Shared) (σ : St) (H : Hp) (x y : V) (v u : Value) (Q : VK), Inv X pins σ H s → RelV x v → RelV y u → r x y H Q →
    subscripted slice false v u = operate [v, u] (getItem v u) → wpAny (model X.prog X.w) X.A (subscriptTail value slice v u) (EP X pins σ Q) X.xe s
def MtR (X : Cx) (id : String) (r : V → List V → Hp → VK → Prop) : Prop :=
  ∀ (pins : List (Addr × Obj)) (s : Shared) (σ : St) (H : Hp) (x : V) (xs : List V) (v : Value) (us : List Value) (Q : VK), Inv X pins σ H s → RelV x v → Vals xs us → r x xs H Q →
    wpAny (model X.prog X.w) X.A (call (.builtin id) (v :: us)) (EP X pins σ Q) X.xe s
section
variable {X : Cx} {a b : Expr} {ta tb : TE} {pos : Pos}
theorem pe_ix {r : R2} (hr : IxR X r) (ha : PE X a ta) (hb : PE X b tb) (hs : PlainIx b) : PE X (.Subscript a b pos) (tOp r ta tb) := by
  intro pins s σ H Q I h
  exact Subscript_ (binT ha hb I h fun v u s2 x y H2 I2 rx ry q => hr a b pins s2 σ H2 x y v u Q I2 rx ry q (hs _ _))
def rIxL (K : PySem.W.Frag) : R2 := fun x y H Q => ∃ p xs i v, x = .ref p ∧ y = .int i ∧ SqL K H p xs ∧ atI xs i = some v ∧ Q v H
def rIxT (K : PySem.W.Frag) : R2 := fun x y H Q => ∃ p xs i v, x = .ref p ∧ y = .int i ∧ SqT K H p xs ∧ atI xs i = some v ∧ Q v H
theorem ix_list : IxR X (rIxL X.K) := by
  intro value slice pins s σ H x y v u Q I rx ry h hs
  obtain ⟨p, xs, i, z, rfl, rfl, hq, he, q⟩ := h
  cases rx
  obtain ⟨t, rfl⟩ := ry
  obtain ⟨its, r, pl, hz⟩ := I.list hq
  obtain ⟨j, h1, h2, h3, h4, h5⟩ := atI_get he
  obtain ⟨w, ew, rw'⟩ := r.get h2
  have hl := r.length
  have hn := line63
  have fin : EP X pins σ Q w s := ⟨z, H, I, rw', q⟩
  by_cases h0 : 0 ≤ i
  · have hj : i.toNat = j := by
      rw [seqIndex_of h0 h5] at h1
      exact Option.some.inj h1
    exact item_listR pl.isList h0 (by omega) (by rw [hj]; simpa using ew) fin hs
  · have hj : (i + (its.toArray.size : Int)).toNat = j := by
      rw [seqIndex_neg (by omega) h4] at h1
      rw [List.size_toArray, ← hl]
      exact Option.some.inj h1
    exact subscriptTail_builtinR (x := w) pl.isList.typeIs slot_list_getitem.lookup
      (wpAny_getItem_list_neg (Q := fun r s' => r = w ∧ EP X pins σ Q r s') pl.isList (by omega) (by rw [List.size_toArray] <;> omega) (by omega) (by rw [hj]; simpa using ew) ⟨rfl, fin⟩) hs
theorem ix_tup : IxR X (rIxT X.K) := by
  intro value slice pins s σ H x y v u Q I rx ry h hs
  obtain ⟨p, xs, i, z, rfl, rfl, hq, he, q⟩ := h
  cases rx
  obtain ⟨t, rfl⟩ := ry
  obtain ⟨its, r, pl, hz⟩ := I.tuple hq
  obtain ⟨j, h1, h2, h3, h4, h5⟩ := atI_get he
  obtain ⟨w, ew, rw'⟩ := r.get h2
  have hl := r.length
  have hn := line63
  have fin : EP X pins σ Q w s := ⟨z, H, I, rw', q⟩
  exact subscriptTail_builtinR (x := w) pl.typeIs slot_tuple_getitem.lookup
    (getItem_tuple (j := j) (Q := fun r s' => r = w ∧ EP X pins σ Q r s') pl (by omega) (by omega) (by rw [List.size_toArray, ← hl]; exact h1) (by simpa using ew) ⟨rfl, fin⟩) hs
theorem mapSeq_set (its : List Value) (n j : Nat) (u : Value) : Obj.mapSeq (·.setIfInBounds j u) { cls := .type "list", data := .seq its.toArray n } = { cls := .type "list", data := .seq (its.set j u).toArray n } := by
  simp [Obj.mapSeq]
theorem Inv.lst {pins : List (Addr × Obj)} {σ : St} {H : Hp} {s : Shared} {p : Addr} {xs : List V} (I : Inv X pins σ H s) (h : H p = some (.lst xs)) :
    ∃ (its : List Value) (n : Nat), Vals xs its ∧ s.heap.get? p = some { cls := .type "list", data := .seq its.toArray n } ∧ xs.length ≤ sizeLine := by
  obtain ⟨z, its, n, r, e⟩ := I.hok p _ h
  exact ⟨its, n, r, e, z⟩
theorem Inv.lstUpd {pins : List (Addr × Obj)} {σ : St} {H : Hp} {s : Shared} {p : Addr} {xs ys : List V} {its its' : List Value} {n n' : Nat} {f : Obj → Obj} (I : Inv X pins σ H s) (h : H p = some (.lst xs))
    (ho : s.heap.get? p = some { cls := .type "list", data := .seq its.toArray n }) (hf : f { cls := .type "list", data := .seq its.toArray n } = { cls := .type "list", data := .seq its'.toArray n' }) (r : Vals ys its') (hz : ys.length ≤ sizeLine) (t : Nat) :
    Inv X pins σ (upd H p (.lst ys)) { s with heap := s.heap.update p f, toks := t } := by
  have e : (s.heap.update p f).get? p = some { cls := .type "list", data := .seq its'.toArray n' } := by
    rw [Heap.get?_update_self f ho (by rw [hf] <;> rfl), hf]
  refine I.write (x := p) (e := p) (by rw [h]; trivial) (.inl rfl) (fun b u hb q => (Heap.get?_update_other _ _ (Ne.symm hb)).trans q) ⟨_, e⟩ ?_
  exact ⟨hz, its', n', r, e⟩
def rSetL : V → V → V → Hp → (Hp → Prop) → Prop := fun o i v H Q => ∃ p xs k j, o = .ref p ∧ i = .int k ∧ H p = some (.lst xs) ∧ ixN xs.length k = some j ∧ Q (upd H p (.lst (xs.set j v)))
theorem set_list : PSet X rSetL := by
  intro pins s σ H o i v ov iv u Q I ro ri rv h
  obtain ⟨p, xs, k, j, rfl, rfl, hp, hj, q⟩ := h
  cases ro
  obtain ⟨t, rfl⟩ := ri
  obtain ⟨its, n, r, ho, hz⟩ := I.lst hp
  obtain ⟨h1, h2, h3, h4⟩ := ixN_seq hj
  have hl := r.length
  have hn := line63
  have I' : Inv X pins σ (upd H p (.lst (xs.set j v))) { s with heap := s.heap.update p (Obj.mapSeq (·.setIfInBounds j u)) } :=
    I.lstUpd hp ho (mapSeq_set its n j u) (r.set rv j) (by rw [List.length_set]; exact hz) s.toks
  by_cases h0 : 0 ≤ k
  · have hk : k.toNat = j := by
      rw [seqIndex_of h0 h4] at h1
      exact Option.some.inj h1
    exact PySem.W.ki_setAt ho h0 (by omega) (by rw [List.size_toArray, ← hl]; exact h4) (by rw [hk]; exact ⟨_, I', q⟩)
  · have hk : (k + (its.toArray.size : Int)).toNat = j := by
      rw [seqIndex_neg (by omega) h3] at h1
      rw [List.size_toArray, ← hl]
      exact Option.some.inj h1
    exact PySem.W.ki_setBack ho (by omega) (by rw [List.size_toArray, ← hl]; exact h3) (by omega) (by rw [hk]; exact ⟨_, I', q⟩)
theorem slice_bounds (lo hi : Option Int) (n : Nat) : (sliceBounds lo hi none n).1 = ((HT.sIx n 0 lo : Nat) : Int) ∧ (sliceBounds lo hi none n).2.1 = ((HT.sIx n n hi : Nat) : Int) ∧ (sliceBounds lo hi none n).2.2 = 1 := by
  refine ⟨?_, ?_, rfl⟩
  · cases lo with
    | none => simp [sliceBounds, HT.sIx]
    | some i =>
      simp only [sliceBounds, HT.sIx, Option.getD_none, show (1 : Int) > 0 by decide, if_true]
      by_cases h : i < 0
      · simp only [h, if_true] <;> omega
      · simp only [h, if_false] <;> omega
  · cases hi with
    | none => simp [sliceBounds, HT.sIx]
    | some i =>
      simp only [sliceBounds, HT.sIx, Option.getD_none, show (1 : Int) > 0 by decide, if_true]
      by_cases h : i < 0
      · simp only [h, if_true] <;> omega
      · simp only [h, if_false] <;> omega
theorem slicePick_cut (its : List Value) (lo hi : Option Int) : slicePick its.toArray lo hi none = ((its.drop (HT.sIx its.length 0 lo)).take (HT.sIx its.length its.length hi - HT.sIx its.length 0 lo)).toArray := by
  obtain ⟨h1, h2, h3⟩ := slice_bounds lo hi its.toArray.size
  unfold slicePick
  rw [h1, h2, h3]
  simp only [sliceRange_one, pick_run, List.size_toArray] <;> rfl
def rSlL (K : PySem.W.Frag) : V → Option Int → Option Int → Hp → VK → Prop := fun x lo hi H Q => ∃ a xs, x = .ref a ∧ SqL K H a xs ∧ ∀ p, H p = none → Q (.ref p) (upd H p (.lst (cutV xs lo hi)))
theorem sl_list : SlR X (rSlL X.K) := by
  intro pins s σ H x v vl vu lo hi sl Q I rx hs pl pu h
  obtain ⟨a, xs, rfl, hx, q⟩ := h
  cases rx
  obtain ⟨its, r, ht, hz⟩ := I.list hx
  have hlen := r.length
  refine ⟨"list", _, slot_list_getitem.lookup, ht.isList.typeIs, ?_⟩
  refine wpAny_getItem_list_slice ht.isList hs pl pu .none (by simp) ?_ (by rw [List.size_toArray] <;> omega)
  rw [slicePick_cut, ← hlen]
  refine ⟨.ref s.heap.objs.size, _, I.laid (t' := s.toks) (o := .lst (cutV xs lo hi)) (fun b ob q => Heap.get?_push_of_some _ q) (Nat.le_refl _) ?_, rfl, q _ (I.hok.fresh (Nat.le_refl _))⟩
  exact ⟨Nat.le_trans (cutV_length xs lo hi) hz, _, 0, (r.drop (HT.sIx xs.length 0 lo)).take (HT.sIx xs.length xs.length hi - HT.sIx xs.length 0 lo), Heap.get?_push_size _ rfl⟩
def flatV : V → Bool
  | .non => true
  | .bl _ => true
  | .int _ => true
  | .str _ => true
  | _ => false
def eqV : V → V → Bool
  | .non, .non => true
  | .bl a, .bl b => a == b
  | .bl a, .int b => (if a then 1 else 0) == b
  | .int a, .bl b => a == (if b then 1 else 0)
  | .int a, .int b => a == b
  | .str a, .str b => a == b
  | _, _ => false
theorem eqAt_V {A : Around} {s : Shared} {y x : V} {u v : Value} (ry : RelV y u) (rx : RelV x v) (fy : flatV y = true) (fx : flatV x = true) : SeqAt.EqAt A s u v (eqV y x) := by
  cases y with
  | non =>
    cases ry
    cases x with
    | non => cases rx; exact SeqAt.EqAt.same _
    | bl b => cases rx; exact SeqAt.EqAt.none_bool b
    | int b => obtain ⟨t, rfl⟩ := rx; exact SeqAt.EqAt.none_int b t
    | str b => obtain ⟨t, rfl⟩ := rx; exact SeqAt.EqAt.none_str b t
    | _ => exact absurd (show false = true from fx) Bool.false_ne_true
  | bl a =>
    cases ry
    cases x with
    | non => cases rx; exact SeqAt.EqAt.bool_none a
    | bl b => cases rx; exact SeqAt.EqAt.bool_bool a b
    | int b => obtain ⟨t, rfl⟩ := rx; exact SeqAt.EqAt.bool_int a b t
    | str b => obtain ⟨t, rfl⟩ := rx; exact SeqAt.EqAt.bool_str a b t
    | _ => exact absurd (show false = true from fx) Bool.false_ne_true
  | int a =>
    obtain ⟨t', rfl⟩ := ry
    cases x with
    | non => cases rx; exact SeqAt.EqAt.int_none a t'
    | bl b => cases rx; exact SeqAt.EqAt.int_bool a t' b
    | int b => obtain ⟨t, rfl⟩ := rx; exact SeqAt.EqAt.int_int a t' b t
    | str b => obtain ⟨t, rfl⟩ := rx; exact SeqAt.EqAt.int_str a t' b t
    | _ => exact absurd (show false = true from fx) Bool.false_ne_true
  | str a =>
    obtain ⟨t', rfl⟩ := ry
    cases x with
    | non => cases rx; exact SeqAt.EqAt.str_none a t'
    | bl b => cases rx; exact SeqAt.EqAt.str_bool a t' b
    | int b => obtain ⟨t, rfl⟩ := rx; exact SeqAt.EqAt.str_int a t' b t
    | str b => obtain ⟨t, rfl⟩ := rx; exact SeqAt.EqAt.str_str a t' b t
    | _ => exact absurd (show false = true from fx) Bool.false_ne_true
  | _ => exact absurd (show false = true from fy) Bool.false_ne_true
def eqU (x : V) (u : Value) : Bool := match u with
  | .none => eqV .non x
  | .bool b => eqV (.bl b) x
  | .int i _ => eqV (.int i) x
  | .str z _ => eqV (.str z) x
  | _ => false
theorem eqU_of {x y : V} {u : Value} (r : RelV y u) (f : flatV y = true) : eqU x u = eqV y x := by
  cases y with
  | non => cases r; rfl
  | bl b => cases r; rfl
  | int i => obtain ⟨t, rfl⟩ := r; rfl
  | str z => obtain ⟨t, rfl⟩ := r; rfl
  | _ => exact absurd (show false = true from f) Bool.false_ne_true
theorem any_eqU {x : V} : ∀ {xs : List V} {us : List Value}, Vals xs us → xs.all flatV = true → us.any (eqU x) = xs.any fun y => eqV y x
  | _, _, .nil, _ => rfl
  | y :: xs, u :: us, .cons r t, f => by
    rw [List.all_cons, Bool.and_eq_true] at f
    rw [List.any_cons, List.any_cons, eqU_of r f.1, any_eqU t f.2]
theorem mem_eqAt {A : Around} {s : Shared} {x : V} {v : Value} (rx : RelV x v) (fx : flatV x = true) : ∀ {xs : List V} {us : List Value}, Vals xs us → xs.all flatV = true → ∀ u ∈ us, SeqAt.EqAt A s u v (eqU x u)
  | _, _, .nil, _ => fun u hu => by cases hu
  | y :: xs, u :: us, .cons r t, f => fun u' hu => by
    rw [List.all_cons, Bool.and_eq_true] at f
    rcases List.mem_cons.mp hu with rfl | hu
    · rw [eqU_of r f.1]; exact eqAt_V r rx f.1 fx
    · exact mem_eqAt rx fx t f.2 u' hu
def inV (x : V) (xs : List V) : Bool := xs.any fun y => eqV y x
def rIn (K : PySem.W.Frag) (neg : Bool) : R2 := fun x y H Q => ∃ p xs, y = .ref p ∧ (SqL K H p xs ∨ SqT K H p xs) ∧ flatV x = true ∧ xs.all flatV = true ∧ Q (.bl (if neg then !inV x xs else inV x xs)) H
theorem op_notIn_seq : OpR X (compareOp .NotIn) (rIn X.K true) := by
  intro pins s σ H x y v u Q I rx ry h
  obtain ⟨p, xs, rfl, hq, fx, fs, q⟩ := h
  cases ry
  rcases hq with hq | hq
  · obtain ⟨its, r, pl, hz⟩ := I.list hq
    refine SeqAt.notIn_listAt (eqU x) pl.isList (fun w hw => mem_eqAt rx fx r fs w (by simpa using hw)) ⟨.bl _, H, I, rfl, ?_⟩
    rw [show its.toArray.any (eqU x) = its.any (eqU x) by simp, any_eqU r fs]
    exact q
  · obtain ⟨its, r, pl, hz⟩ := I.tuple hq
    refine SeqAt.notIn_tupleAt (eqU x) pl (fun w hw => mem_eqAt rx fx r fs w (by simpa using hw)) ⟨.bl _, H, I, rfl, ?_⟩
    rw [show its.toArray.any (eqU x) = its.any (eqU x) by simp, any_eqU r fs]
    exact q
theorem call_len_seq : CallR X (.builtin "len") (fun xs H Q => ∃ p ys, xs = [.ref p] ∧ (SqL X.K H p ys ∨ SqT X.K H p ys) ∧ Q (.int ys.length) H) := by
  intro pins s σ H xs us Q I r h
  obtain ⟨p, ys, rfl, hq, q⟩ := h
  obtain ⟨u, rfl, rx⟩ := vals1 r
  cases rx
  have hn := line63
  rcases hq with hq | hq
  · obtain ⟨its, r', pl, hz⟩ := I.list hq
    have hlen := r'.length
    exact Calls.call_len_list pl.isList (by simp only [List.size_toArray] <;> omega) ⟨.int ys.length, H, I.tok _, ⟨s.toks + 1, by rw [List.size_toArray, hlen]⟩, q⟩
  · obtain ⟨its, r', pl, hz⟩ := I.tuple hq
    have hlen := r'.length
    exact len_tuple pl (by simp only [List.size_toArray] <;> omega) ⟨.int ys.length, H, I.tok _, ⟨s.toks + 1, by rw [List.size_toArray, hlen]⟩, q⟩
theorem call_list_of : CallR X (.type "list") (fun xs H Q => ∃ p ys, xs = [.ref p] ∧ (SqL X.K H p ys ∨ SqT X.K H p ys) ∧ ∀ l, H l = none → Q (.ref l) (upd H l (.lst ys))) := by
  intro pins s σ H xs us Q I r h
  obtain ⟨p, ys, rfl, hq, q⟩ := h
  obtain ⟨u, rfl, rx⟩ := vals1 r
  cases rx
  have fin : ∀ (its : List Value), Vals ys its → ys.length ≤ sizeLine → ∀ (h' : Heap) (c' : Nat), (∀ b o', s.heap.get? b = some o' → h'.get? b = some o') →
      h'.get? s.heap.objs.size = some { cls := .type "list", dict := none, data := .seq its.toArray c', slots := #[] } → EP X pins σ Q (.ref s.heap.objs.size) { s with heap := h' } := fun its r' hz h' c' kp e =>
    ⟨.ref s.heap.objs.size, _, I.laid (t' := s.toks) kp (Nat.le_refl _) (show ObjOk X.prog X.w _ h' _ (.lst ys) from ⟨hz, its, c', r', e⟩), rfl, q _ (I.hok.fresh (Nat.le_refl _))⟩
  rcases hq with hq | hq
  · obtain ⟨its, r', pl, hz⟩ := I.list hq
    have hlen := r'.length
    obtain ⟨o, ho, hc, n, hd⟩ := pl.isList
    exact call_list_seq p (.inl rfl) ho hc hd (fun h' c' kp e => fin its r' hz h' c' kp e) (by simp only [List.size_toArray] <;> omega)
  · obtain ⟨its, r', pl, hz⟩ := I.tuple hq
    have hlen := r'.length
    obtain ⟨o, ho, hc, n, hd⟩ := pl
    exact call_list_seq p (.inr rfl) ho hc hd (fun h' c' kp e => fin its r' hz h' c' kp e) (by simp only [List.size_toArray] <;> omega)
theorem call_tuple_of : CallR X (.type "tuple") (fun xs H Q => ∃ p ys, xs = [.ref p] ∧ ((SqL X.K H p ys ∧ ∀ l, H l = none → Q (.ref l) (upd H l (.tup ys))) ∨ (SqT X.K H p ys ∧ Q (.ref p) H))) := by
  intro pins s σ H xs us Q I r h
  obtain ⟨p, ys, rfl, h⟩ := h
  obtain ⟨u, rfl, rx⟩ := vals1 r
  cases rx
  rcases h with ⟨hq, q⟩ | ⟨hq, q⟩
  · obtain ⟨its, r', pl, hz⟩ := I.list hq
    have hlen := r'.length
    refine call_tuple_list pl.isList (fun h' kp => ?_) (by simp only [List.size_toArray] <;> omega)
    have I1 : Inv X pins σ H { s with heap := h' } := I.kept (t' := s.toks) kp
    have I2 : Inv X pins σ (upd H h'.objs.size (.tup ys)) { s with heap := h'.push { cls := .type "tuple", data := .seq its.toArray } } :=
      I1.laid (t' := s.toks) (fun b o e => Heap.get?_push_of_some _ e) (Nat.le_refl _) (show ObjOk X.prog X.w _ _ _ (.tup ys) from ⟨hz, its, r', IsTup.new _ _⟩)
    exact ⟨.ref h'.objs.size, _, I2, rfl, q _ (I1.hok.fresh (Nat.le_refl _))⟩
  · obtain ⟨its, r', pl, hz⟩ := I.tuple hq
    exact call_tuple_same pl ⟨.ref p, H, I, rfl, q⟩
def tyV (K : PySem.W.Frag) (T : String) (x : V) (H : Hp) : Prop := match x with
  | .str _ => T = "str"
  | .int _ => T = "int"
  | .ref p => (T = "list" ∧ ∃ xs, SqL K H p xs) ∨ (T = "tuple" ∧ ((∃ o, K.lookup p = some o ∧ o.cls = .type "tuple" ∧ o.dict = none) ∨ ∃ o xs, H p = some (.frz o (.tup xs)) ∧ o.cls = .type "tuple" ∧ o.dict = none)) ∨
      (T = "dict" ∧ ((∃ kvs, H p = some (.dK kvs)) ∨ ∃ kvs, H p = some (.dT kvs))) ∨ (T = "set" ∧ ∃ S n, H p = some (.set S n))
  | _ => False
theorem tyV_is {pins : List (Addr × Obj)} {σ : St} {H : Hp} {s : Shared} {T : String} {x : V} {v : Value} (I : Inv X pins σ H s) (r : RelV x v) (ty : tyV X.K T x H) :
    s.TypeIs v T ∧ ∀ a, v = .ref a → ∃ ob, s.heap.get? a = some ob ∧ ob.dict = none := by
  cases x with
  | str z =>
    obtain ⟨t, rfl⟩ := r
    cases (show T = "str" from ty)
    exact ⟨typeIs_str s z t, fun _ e => nomatch e⟩
  | int i =>
    obtain ⟨t, rfl⟩ := r
    cases (show T = "int" from ty)
    exact ⟨typeIs_int s i t, fun _ e => nomatch e⟩
  | ref p =>
    cases r
    rcases ty with ⟨rfl, xs, hq⟩ | ⟨rfl, ⟨o, hk, hc, hd⟩ | ⟨o, xs, hk, hc, hd⟩⟩ | ⟨rfl, hk⟩ | ⟨rfl, S, n, hk⟩
    · obtain ⟨its, _, pl, _⟩ := I.list hq
      refine ⟨pl.isList.typeIs, fun a e => ?_⟩
      cases e
      obtain ⟨o, n, e, c, hd, _⟩ := pl
      exact ⟨o, e, hd⟩
    · refine ⟨⟨o, I.kIn p o hk, hc⟩, fun a e => ?_⟩
      cases e
      exact ⟨o, I.kIn _ o hk, hd⟩
    · obtain ⟨e, _⟩ := (show ObjOk X.prog X.w H s.heap p (.frz o (.tup xs)) from I.hok p _ hk)
      exact ⟨⟨o, e, hc⟩, fun a z => by cases z; exact ⟨o, e, hd⟩⟩
    · have z : ∃ o, s.heap.get? p = some o ∧ o.ExactDict := by
        rcases hk with ⟨kvs, hk⟩ | ⟨kvs, hk⟩
        · obtain ⟨_, _, _, _, o, _, _, e, ex, _⟩ := I.hok p _ hk
          exact ⟨o, e, ex⟩
        · obtain ⟨_, _, _, _, o, _, _, e, ex, _⟩ := I.hok p _ hk
          exact ⟨o, e, ex⟩
      obtain ⟨o, e, ex⟩ := z
      refine ⟨⟨o, e, ex.1⟩, fun a e2 => ?_⟩
      cases e2
      exact ⟨o, e, ex.2.1⟩
    · obtain ⟨o, _, _, _, e, ex, _⟩ := I.hok p _ hk
      refine ⟨⟨o, e, ex.1⟩, fun a e2 => ?_⟩
      cases e2
      exact ⟨o, e, ex.2.1⟩
  | _ => exact False.elim ty
def tBM (K : PySem.W.Frag) (T : String) (r : V → List V → Hp → VK → Prop) (to : TE) (t : TA) : TE := fun σ H Q => to σ H fun x H1 => tyV K T x H1 ∧ t σ H1 fun xs H2 => r x xs H2 Q
variable {o e : Expr} {es : List Expr} {to : TE} {t : TA} {name : Str} {apos cpos : Pos} {T id : String} {r : V → List V → Hp → VK → Prop}
theorem pe_bm (pa : PlainAttrs T) (slot : Slot T name id) (hty : typeOf (.builtin id) = pure (.type "method_descriptor")) (hm : MtR X id r) (ho : PE X o to) (ha : PA X (e :: es) t)
    (hbase : attributeBase o name X.env (eval o X.env) = eval o X.env := by rfl)
    (hfew : ((backTo cpos (starEach (e :: es) X.env)).all (fun x => !x.1) && (backToKw cpos (keywordEach [] X.env)).all (fun x => x.1.isSome)
      && decide ((e :: es).length + ([] : List Keyword).length + (if ([] : List Keyword).isEmpty then 0 else 1) < 30)) = true := by rfl)
    (hline : (apos.endLine == cpos.line) = true := by rfl) (hs : starEach (e :: es) X.env = (false, eval e X.env) :: starEach es X.env := by rfl) (hplain : (backTo cpos (starEach es X.env)).any (·.1) = false := by rfl) :
    PE X (.Call (.Attribute o name apos) (e :: es) [] cpos) (tBM X.K T r to t) := by
  intro pins s σ H Q I h
  refine wpAny_Call_method_late hbase hfew hline rfl (thn (ho pins s σ H _ I h) fun v s1 ⟨x, H1, I1, r1, ty, q1⟩ => ?_)
  obtain ⟨h1, h2⟩ := tyV_is I1 r1 ty
  refine ⟨T, id, pa, slot, hty, h1, h2, ?_⟩
  have hA := ha cpos pins s1 σ H1 _ I1 q1
  rw [hs] at hA ⊢
  refine Calls.callWith_builtin (by show (false || (backTo cpos (starEach es X.env)).any (·.1)) = false; rw [hplain] <;> rfl) (Calls.evalArgs_plain ?_)
  exact thn hA fun us s2 ⟨vs, H2, I2, r2, q2⟩ => hm pins s2 σ H2 x vs v us Q I2 r1 r2 q2
/- xs.append(e), list.index on a module's tuple .. are MtR facts of 06m -/
end
end L2
namespace L2
open PySem PySem.Spec PyProof.Rows
def MtM (X : Cx) (id : String) (r : V → List V → Hp → VK → Prop) : Prop :=
  ∀ (pins : List (Addr × Obj)) (s : Shared) (σ : St) (H : Hp) (x : V) (xs : List V) (v : Value) (us : List Value) (Q : VK), Inv X pins σ H s → RelV x v → Vals xs us → r x xs H Q →
    wpAny (model X.prog X.w) X.A (call (.builtin id) (v :: us)) (EP X pins σ Q) X.xe s
theorem Vals.one : ∀ {x : V} {us : List Value}, Vals [x] us → ∃ u, us = [u] ∧ RelV x u
  | _, _, .cons r .nil => ⟨_, rfl, r⟩
theorem Vals.dropLast {xs : List V} {us : List Value} (h : Vals xs us) : Vals xs.dropLast us.dropLast := by
  induction h with
  | nil => exact .nil
  | cons r t ih =>
    cases t with
    | nil => exact .nil
    | cons q t' => exact .cons r ih
theorem Vals.eraseIdx : ∀ {xs : List V} {us : List Value} (i : Nat), Vals xs us → Vals (xs.eraseIdx i) (us.eraseIdx i)
  | _, _, _, .nil => .nil
  | _, _, 0, .cons _ t => t
  | _, _, i + 1, .cons r t => .cons r (Vals.eraseIdx i t)
theorem erase_last {α : Type} (l : List α) : l.eraseIdx (l.length - 1) = l.dropLast := by
  induction l with
  | nil => rfl
  | cons a r ih =>
    cases r with
    | nil => rfl
    | cons b r =>
      have e : (a :: b :: r).length - 1 = ((b :: r).length - 1) + 1 := by
        have h1 : (a :: b :: r).length = r.length + 2 := rfl
        have h2 : (b :: r).length = r.length + 1 := rfl
        omega
      rw [e, List.eraseIdx_cons_succ, ih]
      all_goals rfl
theorem len_erase {α : Type} : ∀ (l : List α) (i : Nat), (l.eraseIdx i).length ≤ l.length
  | [], _ => Nat.le_refl _
  | _ :: _, 0 => Nat.le_succ _
  | _ :: r, i + 1 => Nat.succ_le_succ (len_erase r i)
section
variable {X : Cx} {pins : List (Addr × Obj)} {σ : St} {H : Hp} {s : Shared} {l b : Addr} {xs ys zs : List V}
theorem Inv.lset {its its' : List Value} {n : Nat} {f : Array Value → Array Value} {t' : Nat} (I : Inv X pins σ H s) (hH : H l = some (.lst xs))
    (e : s.heap.get? l = some { cls := .type "list", data := .seq its.toArray n }) (hf : f its.toArray = its'.toArray) (hv : Vals ys its') (hz : ys.length ≤ sizeLine) :
    Inv X pins σ (upd H l (.lst ys)) { s with heap := s.heap.update l (Obj.mapSeq f), toks := t' } := by
  have q := PySem.IsL.update e f
  rw [hf] at q
  refine I.write (x := l) (e := l) (by rw [hH]; exact trivial) (.inl rfl) (fun b' u hb hu => (Heap.get?_update_other s.heap (Obj.mapSeq f) (Ne.symm hb)).trans hu) ⟨_, q⟩ ?_
  exact ⟨hz, its', _, hv, q⟩
theorem Inv.lnew {its : List Value} {t' : Nat} (I : Inv X pins σ H s) (hv : Vals ys its) (hz : ys.length ≤ sizeLine) :
    Inv X pins σ (upd H s.heap.objs.size (.lst ys)) { s with heap := s.heap.push { cls := .type "list", data := .seq its.toArray }, toks := t' } :=
  I.laid (fun _ _ q => Heap.get?_push_of_some _ q) (Nat.le_refl _) ⟨hz, its, 0, hv, Heap.get?_push_size _ rfl⟩
theorem Inv.fresh (I : Inv X pins σ H s) : H s.heap.objs.size = none := I.hok.fresh (Nat.le_refl _)
theorem Inv.lstM (I : Inv X pins σ H s) (hH : H l = some (.lst xs)) : xs.length ≤ sizeLine ∧ ∃ (its : List Value) (n : Nat), Vals xs its ∧ xs.length = its.length ∧ s.heap.get? l = some { cls := .type "list", data := .seq its.toArray n } := by
  obtain ⟨z, its, n, r, e⟩ := I.hok l _ hH
  exact ⟨z, its, n, r, r.length, e⟩
theorem notLongL {n : Nat} (h : n ≤ sizeLine) : Builtin.List.listTooLong n = false := by
  unfold Builtin.List.listTooLong
  exact decide_eq_false (by omega)
end
section
variable {X : Cx}
def rAppend : V → List V → Hp → VK → Prop := fun x vs H Q => ∃ l xs y, x = .ref l ∧ vs = [y] ∧ H l = some (.lst xs) ∧ xs.length < sizeLine ∧ Q .non (upd H l (.lst (xs ++ [y])))
theorem mt_append : MtM X "list.append" rAppend := by
  intro pins s σ H x vs v us Q I rx rv h
  obtain ⟨l, xs, y, rfl, rfl, hH, hz, q⟩ := h
  cases rx
  obtain ⟨u, rfl, ru⟩ := rv.one
  obtain ⟨z, its, n, r, hl, e⟩ := I.lstM hH
  refine call_meets F.slot_list_append ⟨_, e, rfl⟩ F.entry_list_append (F.args_list_append_2 _ _) (PySem.list_append l its.toArray n u (by rw [List.size_toArray]; omega)) ⟨e, ?_⟩
  refine ⟨.non, _, I.lset (its' := its ++ [u]) hH e (by simp) (r.append (.cons ru .nil)) ?_, rfl, q⟩
  rw [List.length_append, List.length_singleton]
  omega
def rExtend : V → List V → Hp → VK → Prop := fun x vs H Q => ∃ l b xs zs, x = .ref l ∧ vs = [.ref b] ∧ H l = some (.lst xs) ∧ H b = some (.lst zs) ∧ xs.length + zs.length ≤ sizeLine ∧ Q .non (upd H l (.lst (xs ++ zs)))
theorem mt_extend : MtM X "list.extend" rExtend := by
  intro pins s σ H x vs v us Q I rx rv h
  obtain ⟨l, b, xs, zs, rfl, rfl, hH, hB, hz, q⟩ := h
  cases rx
  obtain ⟨u, rfl, ru⟩ := rv.one
  cases ru
  obtain ⟨z, its, n, r, hl, e⟩ := I.lstM hH
  obtain ⟨z2, its2, n2, r2, hl2, e2⟩ := I.lstM hB
  have hsz : its.toArray.size + its2.toArray.size ≤ sizeLine := by rw [List.size_toArray, List.size_toArray]; omega
  have hlong : ¬ (!its.toArray.isEmpty && Builtin.List.listTooLong (its.toArray.size + its2.toArray.size)) = true := by
    rw [notLongL hsz, Bool.and_false]
    exact Bool.false_ne_true
  refine call_meets F.slot_list_extend ⟨_, e, rfl⟩ F.entry_list_extend (F.args_list_extend_2 _ _)
    (AutoSeq1.list_extend_list_list_0 l its.toArray n b its2.toArray n2 hlong (by rw [List.size_toArray]; omega) (by omega)) ⟨e, e2, ?_⟩
  refine ⟨.non, _, I.lset (its' := its ++ its2) hH e (by simp) (r.append r2) ?_, rfl, q⟩
  rw [List.length_append]
  omega
def rCat : R2 := fun x y H Q => ∃ l b xs zs, x = .ref l ∧ y = .ref b ∧ H l = some (.lst xs) ∧ H b = some (.lst zs) ∧ xs.length + zs.length ≤ sizeLine ∧ ∀ p, H p = none → Q (.ref p) (upd H p (.lst (xs ++ zs)))
theorem op_cat : OpR X (binaryOp .Add) rCat := by
  intro pins s σ H x y v u Q I rx ry h
  obtain ⟨l, b, xs, zs, rfl, rfl, hH, hB, hz, q⟩ := h
  cases rx
  cases ry
  obtain ⟨z, its, n, r, hl, e⟩ := I.lstM hH
  obtain ⟨z2, its2, n2, r2, hl2, e2⟩ := I.lstM hB
  refine PySem.P.add_list e e2 ?_ (by rw [List.size_toArray, List.size_toArray]; omega)
  have ea : its.toArray ++ its2.toArray = (its ++ its2).toArray := by simp
  rw [ea]
  exact ⟨.ref _, _, I.lnew (t' := s.toks) (r.append r2) (by rw [List.length_append]; omega), rfl, q _ I.fresh⟩
end
end L2
namespace L2
open PySem PySem.Spec PyProof.Rows
section
variable {κ : Type} [DecidableEq κ]
def valV (kvs : List (κ × V)) (k : κ) : Option V := (kvs.find? fun kv => decide (kv.1 = k)).map (·.2)
def putK (kvs : List (κ × V)) (k : κ) (v : V) : List (κ × V) :=
  if (kvs.any fun kv => decide (kv.1 = k)) = true then kvs.map (fun kv => if kv.1 = k then (kv.1, v) else kv) else kvs ++ [(k, v)]
theorem valV_nil {k : κ} : valV ([] : List (κ × V)) k = none := rfl
theorem valV_pos {p : κ × V} {r : List (κ × V)} {k : κ} (e : p.1 = k) : valV (p :: r) k = some p.2 := by simp [valV, List.find?_cons, e]
theorem valV_neg {p : κ × V} {r : List (κ × V)} {k : κ} (e : ¬ p.1 = k) : valV (p :: r) k = valV r k := by simp [valV, List.find?_cons, e]
theorem valV_any (k : κ) : ∀ kvs : List (κ × V), (kvs.any fun kv => decide (kv.1 = k)) = (valV kvs k).isSome
  | [] => rfl
  | p :: r => by
    rw [List.any_cons]
    by_cases e : p.1 = k
    · simp only [valV_pos e, decide_eq_true e, Bool.true_or, Option.isSome_some]
    · rw [valV_neg e, decide_eq_false e, Bool.false_or]; exact valV_any k r
theorem valV_map (k j : κ) (y : V) : ∀ kvs : List (κ × V), valV (kvs.map fun kv => if kv.1 = k then (kv.1, y) else kv) j = (valV kvs j).map fun x => if j = k then y else x
  | [] => rfl
  | p :: r => by
    have ih := valV_map k j y r
    rw [List.map_cons]
    by_cases h : p.1 = k
    · rw [if_pos h]
      by_cases e : p.1 = j
      · rw [valV_pos (p := (p.1, y)) e, valV_pos e, Option.map_some, if_pos (e.symm.trans h)]
      · rw [valV_neg (p := (p.1, y)) e, valV_neg e, ih]
    · rw [if_neg h]
      by_cases e : p.1 = j
      · rw [valV_pos (p := p) e, valV_pos e, Option.map_some, if_neg (fun z => h (e.trans z))]
      · rw [valV_neg (p := p) e, valV_neg e, ih]
theorem valV_snoc (k j : κ) (y : V) : ∀ kvs : List (κ × V), valV kvs k = none → valV (kvs ++ [(k, y)]) j = if j = k then some y else valV kvs j
  | [], _ => by
    by_cases e : k = j
    · rw [if_pos e.symm]; exact valV_pos (p := (k, y)) e
    · rw [if_neg (fun z => e z.symm)]; exact valV_neg (p := (k, y)) e
  | p :: r, hn => by
    rw [List.cons_append]
    have hk : ¬ p.1 = k := fun z => by rw [valV_pos z] at hn; cases hn
    rw [valV_neg hk] at hn
    have ih := valV_snoc k j y r hn
    by_cases e : p.1 = j
    · rw [valV_pos e, valV_pos e, if_neg (fun z => hk (e.trans z))]
    · rw [valV_neg e, valV_neg e, ih]
theorem valV_put (kvs : List (κ × V)) (k j : κ) (y : V) : valV (putK kvs k y) j = if j = k then some y else valV kvs j := by
  unfold putK
  by_cases a : (kvs.any fun kv => decide (kv.1 = k)) = true
  · rw [if_pos a, valV_map]
    rw [valV_any] at a
    by_cases e : j = k
    · obtain ⟨x, hx⟩ := Option.isSome_iff_exists.mp a
      rw [if_pos e, e, hx, Option.map_some, if_pos rfl]
    · rw [if_neg e]
      cases valV kvs j with
      | none => rfl
      | some x => rw [Option.map_some, if_neg e]
  · rw [if_neg a]
    refine valV_snoc k j y kvs ?_
    rw [valV_any] at a
    cases q : valV kvs k with
    | none => rfl
    | some x => rw [q] at a; exact (a rfl).elim
theorem length_putK (kvs : List (κ × V)) (k : κ) (v : V) : (putK kvs k v).length ≤ kvs.length + 1 := by
  unfold putK
  split
  · rw [List.length_map]; omega
  · rw [List.length_append, List.length_cons, List.length_nil]; omega
theorem RelO.isSome_eq {o : Option V} {u : Option Value} (r : RelO o u) : o.isSome = u.isSome := by
  cases o with
  | none => cases u with
    | none => rfl
    | some _ => exact (show False from r).elim
  | some _ => cases u with
    | none => exact (show False from r).elim
    | some _ => rfl
theorem RelO.getD {o : Option V} {u : Option Value} {d : V} {d' : Value} (r : RelO o u) (rd : RelV d d') : RelV (o.getD d) (u.getD d') := by
  cases o with
  | none => cases u with
    | none => exact rd
    | some _ => exact (show False from r).elim
  | some _ => cases u with
    | none => exact (show False from r).elim
    | some _ => exact r
theorem KV.val {kvs : List (κ × V)} {vs : List (κ × Value)} (r : KV kvs vs) (k : κ) : RelO (valV kvs k) (valueAt vs k) := by
  unfold KV at r
  induction r with
  | nil => exact True.intro
  | @cons p q ps qs h t ih =>
    obtain ⟨h1, h2⟩ := h
    by_cases e : p.1 = k
    · have e' : q.1 = k := h1.symm.trans e
      have b : valueAt (q :: qs) k = some q.2 := by simp [valueAt, List.find?_cons, e']
      rw [valV_pos e, b]; exact h2
    · have e' : ¬ q.1 = k := fun z => e (h1.trans z)
      have b : valueAt (q :: qs) k = valueAt qs k := by simp [valueAt, List.find?_cons, e']
      rw [valV_neg e, b]; exact ih
theorem KV.any {kvs : List (κ × V)} {vs : List (κ × Value)} (r : KV kvs vs) (k : κ) : (kvs.any fun kv => decide (kv.1 = k)) = vs.any fun kv => decide (kv.1 = k) := by
  unfold KV at r
  induction r with
  | nil => rfl
  | cons h t ih => rw [List.any_cons, List.any_cons, ih, h.1]
theorem KV.repl {kvs : List (κ × V)} {vs : List (κ × Value)} (r : KV kvs vs) (k : κ) {y : V} {u : Value} (ry : RelV y u) :
    KV (kvs.map fun kv => if kv.1 = k then (kv.1, y) else kv) (vs.map fun kv => if kv.1 = k then (kv.1, u) else kv) := by
  unfold KV at r ⊢
  induction r with
  | nil => exact .nil
  | @cons p q ps qs h t ih =>
    rw [List.map_cons, List.map_cons]
    refine .cons ?_ ih
    obtain ⟨h1, h2⟩ := h
    by_cases e : p.1 = k
    · rw [if_pos e, if_pos (h1.symm.trans e)]; exact ⟨h1, ry⟩
    · rw [if_neg e, if_neg (fun z => e (h1.trans z))]; exact ⟨h1, h2⟩
theorem KV.put {kvs : List (κ × V)} {vs : List (κ × Value)} (r : KV kvs vs) (k : κ) {y : V} {u : Value} (ry : RelV y u) : KV (putK kvs k y) (stored vs k u) := by
  unfold putK stored
  rw [r.any k]
  by_cases e : (vs.any fun kv => decide (kv.1 = k)) = true
  · rw [if_pos e, if_pos e]; exact r.repl k ry
  · rw [if_neg e, if_neg e]; exact Paired.snoc r ⟨rfl, ry⟩
theorem KV.length {kvs : List (κ × V)} {vs : List (κ × Value)} (r : KV kvs vs) : kvs.length = vs.length := Paired.length r
end
theorem kV_is {P : Program} {w : World} {k : Key} {u : Value} (r : RelV (kV k) u) : (mixKind P w).is k u = true := by
  cases k with
  | inl i => obtain ⟨t, e⟩ := (show ∃ t, u = Value.int i t from r); subst e; exact mixKind_int P w i t
  | inr x => obtain ⟨t, e⟩ := (show ∃ t, u = Value.str x t from r); subst e; exact mixKind_str P w x t
theorem items_are {P : Program} {w : World} : ∀ {ks : List Key} {us : List Value}, Vals (ks.map kV) us → ItemsAre (mixKind P w) ks us
  | [], _, r => by rw [List.map_nil] at r; cases r; exact .nil
  | k :: ks, _, r => by
    rw [List.map_cons] at r
    cases r with
    | cons h t => exact .cons (kV_is h) (items_are t)
abbrev KT (H : Hp) : List (List Key × V) → List (List Key × Addr × Value) → Prop := Paired fun p q => p.1 = q.1 ∧ H q.2.1 = some (.tup (p.1.map kV)) ∧ RelV p.2 q.2.2
theorem KT.val {H : Hp} {kvs : List (List Key × V)} {xs : List (List Key × Addr × Value)} (r : KT H kvs xs) (k : List Key) : RelO (valV kvs k) ((atKey xs k).map (·.2)) := by
  induction r with
  | nil => exact True.intro
  | @cons p q ps qs h t ih =>
    obtain ⟨h1, _, h2⟩ := h
    by_cases e : p.1 = k
    · have e' : q.1 = k := h1.symm.trans e
      have b : atKey (q :: qs) k = some q.2 := by simp [atKey, List.find?_cons, e']
      rw [valV_pos e, b]; exact h2
    · have e' : ¬ q.1 = k := fun z => e (h1.trans z)
      have b : atKey (q :: qs) k = atKey qs k := by simp [atKey, List.find?_cons, e']
      rw [valV_neg e, b]; exact ih
section
variable {P : Program} {w : World} {H : Hp} {h : Heap} {a : Addr}
theorem rd_of {u : HO} (ok : HOk P w H h) (e : Rd H a u) : ObjOk P w H h a u := e.ok ok
theorem dk_rd {kvs : List (Key × V)} (ok : HOk P w H h) (e : Rd H a (.dK kvs)) : kvs.length ≤ sizeLine ∧ (a == sysModules) = false ∧ ∃ vs, KV kvs vs ∧ h.DictOf (mixKind P w) a vs :=
  show ObjOk P w H h a (.dK kvs) from rd_of ok e
theorem dk_of {kvs : List (Key × V)} (ok : HOk P w H h) (e : H a = some (.dK kvs)) : kvs.length ≤ sizeLine ∧ (a == sysModules) = false ∧ ∃ vs, KV kvs vs ∧ h.DictOf (mixKind P w) a vs := dk_rd ok (.inl e)
theorem key_of {ks : List Key} (ok : HOk P w H h) (e : H a = some (.tup (ks.map kV))) : (tupleKind (mixKind P w)).is h ks a := by
  obtain ⟨_, its, r, o, h1, h2, n, h3⟩ := (show ObjOk P w H h a (.tup (ks.map kV)) from ok a _ e)
  exact ⟨o, its.toArray, n, h1, h2, h3, by simpa using items_are r⟩
theorem dt_rd {kvs : List (List Key × V)} (ok : HOk P w H h) (e : Rd H a (.dT kvs)) : kvs.length ≤ sizeLine ∧ (a == sysModules) = false ∧
    ∃ xs, KT H kvs xs ∧ h.DictOfH (tupleKind (mixKind P w)) a xs := by
  obtain ⟨z, y, xs, r, o, es, ep, h1, h2, h3, h4, h5⟩ := (show ObjOk P w H h a (.dT kvs) from rd_of ok e)
  refine ⟨z, y, xs, r, o, es, ep, h1, h2, h3, h4, fun x hx => ?_, h5⟩
  have all : ∀ {l : List (List Key × V)} {m : List (List Key × Addr × Value)}, KT H l m → ∀ x ∈ m, (tupleKind (mixKind P w)).is h x.1 x.2.1 := by
    intro l m q
    induction q with
    | nil => intro x hx; exact nomatch hx
    | @cons p q ps qs hq t ih =>
      intro x hx
      rcases List.mem_cons.mp hx with e | hx
      · subst e
        exact key_of ok (by rw [← hq.1]; exact hq.2.1)
      · exact ih x hx
  exact all r x hx
end
def DGet (H : Hp) (a : Addr) (y : V) (r : Option V) : Prop :=
  (∃ kvs k, Rd H a (.dK kvs) ∧ y = kV k ∧ r = valV kvs k) ∨ ∃ kvs k b, Rd H a (.dT kvs) ∧ y = .ref b ∧ H b = some (.tup (k.map kV)) ∧ r = valV kvs k
theorem DGet.k {H : Hp} {a : Addr} {kvs : List (Key × V)} {k : Key} (e : H a = some (.dK kvs)) : DGet H a (kV k) (valV kvs k) := .inl ⟨kvs, k, .inl e, rfl, rfl⟩
section
variable {X : Cx} {pins : List (Addr × Obj)} {σ : St} {H : Hp} {s : Shared} {a : Addr} {y v : V} {u r : Value} {o : Option V} {A : Around} {E : Value → Shared → Prop}
theorem Inv.big (I : Inv X pins σ H s) : sysModules < s.heap.objs.size := by
  have h : mainGlobals < s.heap.objs.size := (I.mod.glob.keeps I.bk).lt
  exact Nat.lt_trans (by decide) h
theorem d_write {h' : Heap} {t' : Nat} {ob : HO} (I : Inv X pins σ H s) (mu : Mut (H a)) (hs : Heap.SameBut a s.heap h') (he : ∃ q, h'.get? a = some q) (new : ObjOk X.prog X.w (upd H a ob) h' a ob) :
    Inv X pins σ (upd H a ob) { s with heap := h', toks := t' } :=
  I.write (x := a) (e := a) mu (.inl rfl) (fun b q hb z => (hs.2 b hb).trans z) he new
theorem dk_new {P : Program} {w : World} {H' : Hp} {h' : Heap} {kvs : List (Key × V)} {vs : List (Key × Value)} (z : kvs.length ≤ sizeLine) (hd : (a == sysModules) = false) (rel : KV kvs vs) (dd : h'.DictOf (mixKind P w) a vs) :
    ObjOk P w H' h' a (.dK kvs) := ⟨z, hd, vs, rel, dd⟩
end
theorem dk_empty {P : Program} {w : World} {H : Hp} (h : Heap) (hb : sysModules < h.objs.size) : ObjOk P w H (h.push { cls := .type "dict", data := .dict #[] }) h.objs.size (.dK []) :=
  ⟨Nat.zero_le _, beq_eq_false_iff_ne.mpr (Ne.symm (Nat.ne_of_lt hb)), [], .nil, Heap.DictOf.new h⟩
def tPairs : List (TE × TE) → St → Hp → (List (V × V) → Hp → Prop) → Prop
  | [], _, H, Q => Q [] H
  | (tk, tv) :: r, σ, H, Q => tk σ H fun x H1 => tv σ H1 fun y H2 => tPairs r σ H2 fun ps H3 => Q ((x, y) :: ps) H3
abbrev VV : List (V × V) → List (Value × Value) → Prop := Paired fun p q => RelV p.1 q.1 ∧ RelV p.2 q.2
def PPs (X : Cx) (pos : Pos) (keys : List (Option Expr)) (values : List Expr) (trs : List (TE × TE)) : Prop :=
  ∀ (pins : List (Addr × Obj)) (s : Shared) (σ : St) (H : Hp) (Q : List (V × V) → Hp → Prop), Inv X pins σ H s → tPairs trs σ H Q →
    wpAny (model X.prog X.w) X.A (evalPairs (pairTrees keys values X.env pos)) (fun vs s' => ∃ ps H', Inv X pins σ H' s' ∧ VV ps vs ∧ Q ps H') X.xe s
theorem pps_nil {X : Cx} {pos : Pos} : PPs X pos [] [] [] := fun pins s σ H Q I h => pairTrees_nil_walk ⟨[], H, I, .nil, h⟩
theorem pps_cons {X : Cx} {pos : Pos} {k v : Expr} {ks : List (Option Expr)} {vs : List Expr} {tk tv : TE} {trs : List (TE × TE)} (hk : PE X k tk) (hv : PE X v tv) (hr : PPs X pos ks vs trs) :
    PPs X pos (some k :: ks) (v :: vs) ((tk, tv) :: trs) := fun pins s σ H Q I h =>
  pairTrees_cons_walk (thn (hk pins s σ H _ I h) fun u s1 ⟨x, H1, I1, rx, q1⟩ => thn (hv pins s1 σ H1 _ I1 q1) fun w2 s2 ⟨y, H2, I2, ry, q2⟩ =>
    thn (hr pins s2 σ H2 _ I2 q2) fun ws s3 ⟨ps, H3, I3, rel, q3⟩ => ⟨(x, y) :: ps, H3, I3, .cons ⟨rx, ry⟩ rel, q3⟩)
def mergeK (kvs more : List (Key × V)) : List (Key × V) := more.foldl (fun acc kv => putK acc kv.1 kv.2) kvs
theorem KV.merge : ∀ {more : List (Key × V)} {rs : List (Key × Value)} {kvs : List (Key × V)} {vs : List (Key × Value)}, KV more rs → KV kvs vs → KV (mergeK kvs more) (merged vs rs) := by
  intro more rs kvs vs r
  unfold KV at r
  induction r generalizing kvs vs with
  | nil => intro q; exact q
  | @cons p q ps qs h t ih =>
    intro r0
    have e : KV (putK kvs p.1 p.2) (stored vs q.1 q.2) := by
      have := r0.put p.1 h.2
      rw [← h.1]; exact this
    exact ih e
theorem length_mergeK : ∀ (more kvs : List (Key × V)), (mergeK kvs more).length ≤ kvs.length + more.length
  | [], kvs => by show kvs.length ≤ kvs.length + 0; omega
  | p :: r, kvs => by
    have h1 := length_mergeK r (putK kvs p.1 p.2)
    have h2 := length_putK kvs p.1 p.2
    show (mergeK (putK kvs p.1 p.2) r).length ≤ _
    rw [List.length_cons]; omega
theorem carries_of {P : Program} {w : World} : ∀ {kvs : List (Key × V)} {ws : List (Value × Value)}, VV (kvs.map fun kv => (kV kv.1, kv.2)) ws → ∃ rs, Carries (mixKind P w) ws rs ∧ KV kvs rs
  | [], _, r => by rw [List.map_nil] at r; cases r; exact ⟨[], True.intro, .nil⟩
  | p :: kvs, _, r => by
    rw [List.map_cons] at r
    cases r with
    | @cons a b as bs h t =>
      obtain ⟨rs, c, q⟩ := carries_of (P := P) (w := w) t
      obtain ⟨b1, b2⟩ := b
      exact ⟨(p.1, b2) :: rs, ⟨kV_is h.1, rfl, c⟩, .cons ⟨rfl, h.2⟩ q⟩
def tDisp (trs : List (TE × TE)) : TE := fun σ H Q => ∀ p, H p = none → tPairs trs σ (upd H p (.dK [])) fun ps H2 => H2 p = some (.dK []) ∧ ∃ kvs : List (Key × V), ps = kvs.map (fun kv => (kV kv.1, kv.2)) ∧ kvs.length ≤ 15 ∧ Q (.ref p) (upd H2 p (.dK (mergeK [] kvs)))
theorem pe_disp {X : Cx} {pos : Pos} {keys : List (Option Expr)} {values : List Expr} {trs : List (TE × TE)} (h : PPs X pos keys values trs) (hall : keys.all (·.isSome) = true) (hl : keys.length = values.length) (h0 : keys ≠ [])
    (h15 : keys.length ≤ 15) : PE X (.Dict keys values pos) (tDisp trs) := by
  intro pins s σ H Q I q
  have hn := I.hok.fresh (Nat.le_refl s.heap.objs.size)
  have I1 := I.laid (a := s.heap.objs.size) (o := .dK []) (h' := s.heap.push { cls := .type "dict", data := .dict #[] }) (t' := s.toks) (fun _ _ q => Heap.get?_push_of_some _ q) (Nat.le_refl _) (dk_empty s.heap I.big)
  refine wpAny_Dict_walk (knd := mixKind X.prog X.w) hall hl h0 h15 (thn (h pins _ σ _ _ I1 (q _ hn)) fun ws s2 ⟨ps, H2, I2, rel, e, kvs, ep, lk, q2⟩ => ?_)
  subst ep
  obtain ⟨rs, c, rk⟩ := carries_of (P := X.prog) (w := X.w) rel
  obtain ⟨z, hd, vs0, r0, dd⟩ := dk_of I2.hok e
  cases r0
  refine ⟨rs, c, dd, fun h' dd' hs => ⟨.ref s.heap.objs.size, _, ?_, rfl, q2⟩⟩
  have hz : (mergeK [] kvs).length ≤ sizeLine := by
    have h1 := length_mergeK kvs []
    rw [List.length_nil] at h1
    rw [sizeLine_eq]; omega
  have he : ∃ q, h'.get? s.heap.objs.size = some q := let ⟨q, _, _, hq, _⟩ := dd'; ⟨q, hq⟩
  exact d_write I2 (by rw [e]; exact True.intro) hs he (dk_new hz hd (rk.merge .nil) dd')
structure M1 (X : Cx) (o : Expr) (m : Str) (apos : Pos) (e : Expr) (cpos : Pos) : Prop where
  base : attributeBase o m X.env (eval o X.env) = eval o X.env
  few : ((backTo cpos (starEach [e] X.env)).all (fun x => !x.1) && (backToKw cpos (keywordEach [] X.env)).all (fun x => x.1.isSome)
    && decide (([e] : List Expr).length + ([] : List Keyword).length + (if ([] : List Keyword).isEmpty then 0 else 1) < 30)) = true
  line : (apos.endLine == cpos.line) = true
  trees : backTo cpos (starEach [e] X.env) = [(false, eval e X.env)]
structure M2 (X : Cx) (o : Expr) (m : Str) (apos : Pos) (e f : Expr) (cpos : Pos) : Prop where
  base : attributeBase o m X.env (eval o X.env) = eval o X.env
  few : ((backTo cpos (starEach [e, f] X.env)).all (fun x => !x.1) && (backToKw cpos (keywordEach [] X.env)).all (fun x => x.1.isSome)
    && decide (([e, f] : List Expr).length + ([] : List Keyword).length + (if ([] : List Keyword).isEmpty then 0 else 1) < 30)) = true
  line : (apos.endLine == cpos.line) = true
  trees : backTo cpos (starEach [e, f] X.env) = [(false, eval e X.env), (false, eval f X.env)]
def IsD (H : Hp) (a : Addr) : Prop := (∃ kvs, Rd H a (.dK kvs)) ∨ ∃ kvs, Rd H a (.dT kvs)
theorem isD_at {X : Cx} {pins : List (Addr × Obj)} {σ : St} {H : Hp} {s : Shared} {a : Addr} (I : Inv X pins σ H s) (d : IsD H a) :
    s.TypeIs (.ref a) "dict" ∧ (∀ b, Value.ref a = .ref b → ∃ ob, s.heap.get? b = some ob ∧ ob.dict = none) ∧ (a == sysModules) = false := by
  rcases d with ⟨kvs, e⟩ | ⟨kvs, e⟩
  · obtain ⟨_, hd, vs, _, dd⟩ := dk_rd I.hok e
    refine ⟨dd.typeIs, fun b q => ?_, hd⟩
    cases q
    obtain ⟨ob, _, _, h1, h2, _⟩ := dd
    exact ⟨ob, h1, h2.2.1⟩
  · obtain ⟨_, hd, xs, _, dd⟩ := dt_rd I.hok e
    refine ⟨dd.typeIs, fun b q => ?_, hd⟩
    cases q
    obtain ⟨ob, _, _, h1, h2, _⟩ := dd
    exact ⟨ob, h1, h2.2.1⟩
section
variable {X : Cx} {pins : List (Addr × Obj)} {σ : St} {H : Hp} {s : Shared} {a : Addr} {y d : V} {u r : Value} {o : Option V} {A : Around} {E : Value → Shared → Prop}
theorem d_get2 {Q : Value → Shared → Prop} (hu : A.units + 1 < cLine) (I : Inv X pins σ H s) (g : DGet H a y o) (ry : RelV y u) (rd : RelV d r) (h : ∀ w' s', Inv X pins σ H s' → RelV (o.getD d) w' → Q w' s') :
    wpAny (model X.prog X.w) A (call (.builtin "dict.get") [.ref a, u, r]) Q E s := by
  rcases g with ⟨kvs, k, e, ey, l⟩ | ⟨kvs, k, b, e, ey, eb, l⟩
  · subst ey
    obtain ⟨z, hd, vs, rel, dd⟩ := dk_rd I.hok e
    refine call_meetsIn PySem.F.slot_dict_get dd.typeIs PySem.F.entry_dict_get (PySem.F.args_dict_get_3 _ _ _) (meets_dict_get_default (mixKind X.prog X.w) a (kV_is ry) hd r) ⟨_, dd.mapOf, h _ _ (I.tok _) ?_⟩
    rw [l]
    exact (rel.val k).getD rd
  · subst ey
    cases (show u = Value.ref b from ry)
    obtain ⟨z, hd, xs, rel, dd⟩ := dt_rd I.hok e
    refine call_meetsIn PySem.F.slot_dict_get dd.typeIs PySem.F.entry_dict_get (PySem.F.args_dict_get_3 _ _ _) (meetsH_dict_get_default (tupleKind (mixKind X.prog X.w)) a b hd r) ⟨tupleKind_room_in1 hu, k, xs, key_of I.hok eb, dd, h _ _ (I.tok _) ?_⟩
    rw [l]
    exact (rel.val k).getD rd
end
def tDGet2 (td ty tx : TE) : TE := fun σ H Q => td σ H fun x H1 => ∃ a, x = .ref a ∧ IsD H1 a ∧ ty σ H1 fun y H2 => tx σ H2 fun z H3 => ∃ o, DGet H3 a y o ∧ Q (o.getD z) H3
section
variable {X : Cx} {o e f : Expr} {apos cpos : Pos} {td ty tx : TE}
theorem pe_dget2 (hu : X.A.units + 1 < cLine) (ho : PE X o td) (he : PE X e ty) (hf : PE X f tx) (m : M2 X o "get" apos e f cpos) : PE X (.Call (.Attribute o "get" apos) [e, f] [] cpos) (tDGet2 td ty tx) := by
  intro pins s σ H Q I h
  refine wpAny_Call_method m.base m.few m.line PySem.F.plainAttrs_dict PySem.F.slot_dict_get PySem.F.type_dict_get (thn (ho pins s σ H _ I h) fun u s1 ⟨x, H1, I1, rx, a, ex, d, q1⟩ => ?_)
  subst ex
  obtain rfl : u = Value.ref a := rx
  obtain ⟨t1, t2, _⟩ := isD_at I1 d
  refine ⟨t1, t2, ?_⟩
  rw [m.trees]
  refine Calls.callWith_builtin rfl (Calls.evalArgs_plain (Calls.spliced_cons (thn (he pins s1 σ H1 _ I1 q1) fun iv s2 ⟨y, H2, I2, ry, q2⟩ =>
    Calls.spliced_cons (thn (hf pins s2 σ H2 _ I2 q2) fun fv s3 ⟨z, H3, I3, rz, ov, g, q3⟩ => Calls.spliced_nil ?_))))
  exact d_get2 hu I3 g ry rz fun w' s4 I4 rw' => ⟨_, H3, I4, rw', q3⟩
end
end L2
namespace Att
open PySem PySem.W PySem.Calls PyProof.Rows
theorem ints_of_wellAll {P : Params} {h : Heap} : ∀ (ns : List Int) (vs : List Value), WellAll P h vs (ns.map WData.int) → IntsAre vs ns := by
  intro ns
  induction ns with
  | nil =>
    intro vs w
    rw [List.map_nil] at w
    cases w
    exact .nil
  | cons n ns ih =>
    intro vs w
    rw [List.map_cons] at w
    cases w with
    | cons a b =>
      cases a
      exact .cons _ _ (ih _ b)
theorem script_of {l : OpenLaw} {n : Nat} (hn : l.most = some n) {P : Params} {h : Heap} {args : List WData} {vals : List Value}
    (hpre : l.row.toRowW.claim.pre args = true) (hwl : WellAll P h vals args) :
    ∃ a vs ns, vals = [Value.ref a] ∧ args = [WData.list (ns.map WData.int)] ∧ h.get? a = some { cls := .type "list", data := .seq vs.toArray } ∧ IntsAre vs ns ∧ ns.length ≤ n := by
  have hsh : WShape.hasAll [] args [.list .int] = true := (pre_splitW hpre).1
  have hc : l.pre.holds [] { args := args } = true := (pre_splitW hpre).2
  obtain ⟨d, r, rfl, h1, h2⟩ := hasAllW_cons hsh
  obtain rfl := hasAllW_nil h2
  obtain ⟨xs, rfl, h3⟩ := hasW_list h1
  obtain ⟨ns, rfl⟩ := items_int h3
  have hlen : ns.length ≤ n := by
    unfold OpenLaw.pre at hc
    have h4 : (WTm.not (.lt (.lit (.int (n : Int))) (.len (.arg 0)))).holds [] { args := [.list (ns.map .int)] } = true := by
      have h4 := (holds_andW hc).1
      rw [hn] at h4
      exact h4
    have h5 := condW_of h4 (w_not (w_lt w_lit (w_len_list (w_arg rfl))))
    rw [List.length_map] at h5
    refine Nat.le_of_not_lt fun q => ?_
    have q' : (n : Int) < ((ns.length : Nat) : Int) := by omega
    first
      | (rw [decide_eq_true q'] at h5; exact absurd h5 (by decide))
      | (simp at h5; omega)
  cases hwl with
  | cons w1 w2 =>
    cases w2
    cases w1 with
    | list ho hall => exact ⟨_, _, ns, rfl, rfl, ho, ints_of_wellAll ns _ hall, hlen⟩
theorem post_true (l : OpenLaw) (args : List WData) : l.row.toRowW.claim.post args (.bool true) args = true :=
  postW_of (r := l.row.toRowW) (X := (true == true))
    (show WShape.has [] (.bool true) .bool = true by first | rfl | decide | simp [WShape.has, WShape.arms, WShape.armsAll])
    (show (WTm.eq .res (.lit (.bool true))).value [] { args := args, res := some (.bool true), after := args } = some (.bool (true == true)) from w_eq_bool (w_res rfl) w_lit) rfl
theorem attach_call {l : OpenLaw} {n : Nat} {q : Program} {loose : List Str} {XP : (Str → Option Value) → Heap → Prop} {YP : World → Heap → Prop} {d : DefRec}
    (hn : l.most = some n) (hdf : d.params.defaults = [])
    (call : ∀ (w : World) (s₀ s₁ : Shared) (mg mb : Str → Option Value) (fa : Addr) (o : Obj) (pm cd doc : Value) (a : Addr) (vs : List Value) (ns : List Int),
      Ground q loose [] XP w s₀ mg mb s₁.heap → YP w s₁.heap →
      s₁.heap.get? fa = some o → o.data = .func (docDef d.name d.params d.body d.scope pm cd doc) → s₁.heap.CodeRec cd d.name → mg d.name = some (.ref fa) →
      s₁.heap.get? a = some { cls := .type "list", data := .seq vs.toArray } → IntsAre vs ns → ns.length ≤ n → s₁.gens = #[] →
      codeAny (model l.prog w) callerA (.call (.ref fa) ⟨[.ref a], []⟩) (fun r s' => r = .ok (.ret (.bool true)) ∧ OldK s₁.heap s'.heap ∧ s'.os = s₁.os ∧ AllBare s'.gens) s₁) :
    WalkO q loose XP YP l.row.toRowW d [] (fun f vs => PySem.call f vs) := by
  intro w s₀ s₁ mg mb G Y fa o pm cd doc dV kV ho hd hcd hD hmg hg args vals as hpre hlay hrd hwl hlo
  obtain rfl : dV = .none := Dflts.none hD hdf
  obtain rfl : kV = .none := Dflts.noKw hD
  obtain ⟨a, vs, ns, rfl, rfl, hobj, hints, hlen⟩ := script_of hn hpre hwl
  refine enter_call (codeAny_mono (call w s₀ s₁ mg mb fa o pm cd doc a vs ns G Y ho (fd_plain hd) hcd hmg hobj hints hlen hg) fun r s' hq => ?_)
  obtain ⟨rfl, h2, h3, h4⟩ := hq
  exact ⟨.inl ⟨.bool true, .bool true, [], rfl, fun _ => rfl, .bool true, post_true l _, fun _ => ⟨List.Pairwise.nil, fun _ hm => (nomatch hm)⟩⟩, h2, h3, h4⟩
section
variable {prog : Program} {w : World} {A : Around} {E : Value → Shared → Prop} {s : Shared} {K : Frag}
def ledger (h : Heap) (L d : Addr) : List (Addr × Obj) := (List.range h.objs.size).filterMap fun a => if a = L ∨ a = d then none else (h.get? a).map fun o => (a, o)
end
end Att
namespace L2
open PySem PySem.Spec PyProof.Rows
theorem vals_ints : ∀ {vs : List Value} {ns : List Int}, IntsAre vs ns → Vals (ns.map V.int) vs
  | _, _, .nil => .nil
  | _, _, .cons n t h => .cons ⟨t, rfl⟩ (vals_ints h)
def Only (H : Hp) : Prop := ∀ b, H b = none ∨ ∃ o xs, H b = some (.frz o (.lst xs))
theorem law_call {P : Program} {w : World} {K : PySem.W.Frag} {mg mb : Str → Option Value} {CX : CXT} {k : Nat} {fa a : Addr} {fd : FuncData} {x : Str} {sp : Sp} {s₁ : Shared} {vs : List Value} {ns : List Int}
    (KX : K.In s₁.heap) (hns : s₁.heap.Ns mainGlobals mg) (hb : s₁.heap.Ns builtinsNs mb) (hbb : ∀ x : Str, x ≠ "__name__" → mb x = bootBuiltins x) (hlim : s₁.heap.NoLimit) (hg : s₁.gens = #[])
    (ha : s₁.heap.get? a = some { cls := .type "list", data := .seq vs.toArray }) (hi : IntsAre vs ns) (hl : ns.length ≤ sizeLine) (hr : Room k callerA)
    (F : ∀ base : Heap, K.In base → base.Ns mainGlobals mg → FnOk P w K mg base CX k fa fd [x] sp) (hbind : ∀ (s : Shared) (u : Value), BindsTo s fd ⟨[u], []⟩ [(x, u)])
    (hsp : ∀ H : Hp, Only H → SqL K H a (ns.map V.int) → sp [.ref a] H (fun v _ => v = .bl true) fun _ _ _ => False)
    (hCX : ∀ H e s', CX [] H s₁ (fun _ _ _ => False) e s' → False) :
    codeAny (model P w) callerA (.call (.ref fa) ⟨[.ref a], []⟩) (fun r s' => r = .ok (.ret (.bool true)) ∧ OldK s₁.heap s'.heap ∧ s'.os = s₁.os ∧ AllBare s'.gens) s₁ := by
  have rv := vals_ints hi
  have lenV := hi.length
  -- from an abstract heap in which nothing but the script may be tracked
  have core : ∀ H : Hp, Only H → SqL K H a (ns.map V.int) → HOk P w H s₁.heap → (∀ b, H b ≠ none → b = a) → (H a ≠ none → K.lookup a = none) →
      codeAny (model P w) callerA (.call (.ref fa) ⟨[.ref a], []⟩) (fun r s' => r = .ok (.ret (.bool true)) ∧ OldK s₁.heap s'.heap ∧ s'.os = s₁.os ∧ AllBare s'.gens) s₁ := by
    intro H hO hS hok hA hK
    have base_of : ∀ {b : Addr} {o : Obj}, s₁.heap.get? b = some o → H b = none → (hidT s₁.heap H).get? b = some o := fun e n => hidT_get e n
    have noA : ∀ {b : Addr} {o : Obj} {es : Array DictEntry} {ep : Nat}, s₁.heap.get? b = some o → o.data = .dict es ep → H b = none := fun {b o es ep} e d => by
      cases q : H b with
      | none => rfl
      | some u =>
        have e' : b = a := hA b (by rw [q]; simp)
        subst e'
        rw [ha] at e; cases e
        have d' : Data.seq vs.toArray _ = Data.dict es ep := d
        cases d'
    have nsK : ∀ {b : Addr} {m : Str → Option Value}, s₁.heap.Ns b m → (hidT s₁.heap H).Ns b m := fun {b m} ⟨o, es, ep, e, d, r⟩ => ⟨o, es, ep, base_of e (noA e d), d, r⟩
    have hKb : K.In (hidT s₁.heap H) := fun b o e => base_of (KX b o e) (by
      cases q : H b with
      | none => rfl
      | some u =>
        have e' : b = a := hA b (by rw [q]; simp)
        subst e'
        rw [hK (by rw [q]; simp)] at e; cases e)
    have hM : Mod K mg (hidT s₁.heap H) := ⟨hKb, nsK hns, ⟨mb, nsK hb, hbb⟩, let ⟨mc, h1, h2⟩ := hlim; ⟨mc, nsK h1, h2⟩⟩
    have e0 : Env0 P w K mg (hidT s₁.heap H) callerA [] s₁ H := ⟨rfl, hM, fun b o e => of_hidT e, Nat.le_of_eq (hidT_size _ _), trivial, fun b hb => absurd (show b ∈ ([] : List Addr) from hb) (by simp), hok, .of_eq hg⟩
    refine codeAny_mono ((F _ hKb (nsK hns)).run callerA [] s₁ H ⟨[.ref a], []⟩ [.ref a] [.ref a] _ _ hr e0 (hbind s₁ (.ref a)) (.cons rfl .nil) (hsp H hO hS)) fun r s' h => ?_
    cases r with
    | error e => exact (hCX H e s' h).elim
    | ok fl =>
      cases fl with
      | next => exact False.elim h
      | brk => exact False.elim h
      | cont => exact False.elim h
      | ret u =>
        obtain ⟨v, H', os, bare, un, hok', r', q⟩ := h
        have q' : v = .bl true := q
        subst q'
        obtain rfl : u = Value.bool true := r'
        refine ⟨rfl, OldK.of_keep fun b o e => ?_, os, bare⟩
        cases q : H b with
        | none => exact un.keep b o e q (by intro z; exact absurd (show b ∈ ([] : List Addr) from z) (by simp)) (by simp)
        | some u =>
          rcases hO b with z | ⟨ob, xs, z⟩
          · rw [q] at z; cases z
          · have z2 := un.frzs b ob _ z
            obtain ⟨e1, _⟩ := hok b _ z
            obtain ⟨e2, _⟩ := hok' b _ z2
            rw [e] at e1; cases e1
            exact e2
  cases hk : K.lookup a with
  | some o =>
    -- the script is one of the module's own objects
    have e := KX a o hk
    rw [ha] at e
    cases e
    refine core (fun _ => none) (fun _ => .inl rfl) (.inr ⟨_, vs.toArray, _, hk, rfl, rfl, rfl, by rw [List.size_toArray, lenV]; exact hl, by simpa using rv⟩) (fun b u z => by have z' : (none : Option HO) = some u := z; cases z') (fun b z => absurd rfl z) fun z => absurd rfl z
  | none =>
    refine core (fun b => if b = a then some (.frz { cls := .type "list", data := .seq vs.toArray } (.lst (ns.map V.int))) else none) (fun b => ?_) (.inl (.inr ⟨{ cls := .type "list", data := .seq vs.toArray }, if_pos rfl⟩)) (fun b u z => ?_) (fun b z => ?_) fun _ => hk
    · by_cases hb : b = a
      · exact .inr ⟨_, _, if_pos hb⟩
      · exact .inl (if_neg hb)
    · by_cases hb : b = a
      · have z' := (if_pos hb).symm.trans z
        cases z'
        subst hb
        exact ⟨ha, by rw [List.length_map]; exact hl, vs, _, rv, ha⟩
      · have z' := (if_neg hb).symm.trans z
        cases z'
    · by_cases hb : b = a
      · exact hb
      · exact absurd (if_neg hb) z
end L2
namespace L2
open PySem PySem.Spec PyProof.Rows
theorem walk_of {l : PySem.W.OpenLaw} {n k : Nat} {q : Program} {loose : List Str} {XP : (Str → Option Value) → Heap → Prop} {YP : World → Heap → Prop} {d : DefRec} {K : Params → PySem.W.Frag} {CX : World → CXT} {sp : World → Sp} {x : Str}
    (hn : l.most = some n) (hn2 : n ≤ sizeLine) (hdf : d.params.defaults = []) (hr : Room k callerA)
    (hY : ∀ (w : World) (h : Heap), YP w h → (K w.params).In h)
    (F : ∀ (w : World) (mg : Str → Option Value) (fa : Addr) (h : Heap), (K w.params).In h → h.Ns mainGlobals mg → mg d.name = some (.ref fa) →
      ∃ fd : FuncData, (∀ (s : Shared) (u : Value), BindsTo s fd ⟨[u], []⟩ [(x, u)]) ∧
        ∀ base : Heap, (K w.params).In base → base.Ns mainGlobals mg → FnOk l.prog w (K w.params) mg base (CX w) k fa fd [x] (sp w))
    (hsp : ∀ (w : World) (H : Hp) (a : Addr) (ns : List Int), ns.length ≤ n → Only H → SqL (K w.params) H a (ns.map V.int) → sp w [.ref a] H (fun v _ => v = .bl true) fun _ _ _ => False)
    (hCX : ∀ (w : World) (H : Hp) (s : Shared) (e : Value) (s' : Shared), CX w [] H s (fun _ _ _ => False) e s' → False) :
    PySem.W.WalkO q loose XP YP l.row.toRowW d [] (fun f vs => PySem.call f vs) := by
  refine Att.attach_call hn hdf fun w s₀ s₁ mg mb fa o pm cd doc a vs ns G Y ho hd hcd hmg hobj hints hlen hg => ?_
  have KX := hY w _ Y
  obtain ⟨fd, hb, hF⟩ := F w mg fa _ KX G.T.g hmg
  exact law_call KX G.T.g G.T.b G.T.builtins G.T.nolimit hg hobj hints (Nat.le_trans hlen hn2) hr hF hb (fun H hO hS => hsp w H a ns hlen hO hS) fun H e s' => hCX w H s₁ e s'
end L2
namespace L2
open PySem PySem.Spec PyProof.Rows
def defArgs (s : Stmt) : Arguments := match s with
  | .FunctionDef _ a _ _ _ _ _ _ _ _ => a
  | _ => { posonlyargs := [], args := [], vararg := none, kwonlyargs := [], kw_defaults := [], kwarg := none, defaults := [] }
def defBody (s : Stmt) : List Stmt := match s with
  | .FunctionDef _ _ b _ _ _ _ _ _ _ => b
  | _ => []
def defScope (s : Stmt) : Scope := match s with
  | .FunctionDef _ _ _ _ _ _ sc _ _ _ => sc
  | _ => { kind := .function, names := [], isGenerator := false, isCoroutine := false }
abbrev CX0 : CXT := fun _ _ _ _ _ _ => False
abbrev E0 : XK := fun _ _ _ => False
theorem pass0 {X : Cx} : Passes CX0 X E0 := fun _ _ _ _ _ _ _ h => h.elim
structure Fun (K : PySem.W.Frag) (x qual : Str) (st : Stmt) (f : Addr) (fd : FuncData) : Prop where
  ex : ∃ (oc : Value) (od : Option Addr) (kV doc pm : Value) (an : Option Addr) (cdv ct : Value) (osl : Array (Option Value)),
    fd = PySem.W.fnOf x qual (defArgs st) (defBody st) (defScope st) .none kV doc pm an cdv ct ∧ K.lookup f = some ⟨oc, od, .func fd, osl⟩ ∧ PySem.W.codeIn K cdv qual = true
  kp : PySem.W.keepIn K (.ref f) = true
section
variable {P : Program} {w : World} {K : PySem.W.Frag} {mg : Str → Option Value} {base : Heap}
theorem Fun.ok {x qual : Str} {st : Stmt} {f : Addr} {fd : FuncData} {N ps : List Str} {k : Nat} {sp : Sp} (F : Fun K x qual st f fd) (S : FnScope N ps (defScope st)) (len : ∀ vs H Q E, sp vs H Q E → vs.length = ps.length)
    (hbody : ∀ (cdv : Value) (A : Around) (outer : List Env) (s : Shared) (H : Hp) (vs : List V) (Q : VK) (E : XK), Room k (A.deeper (envOfC qual (defScope st) s.heap.objs.size f cdv)) → sp vs H Q E →
      ∃ t, PSs (cxOf CX0 P w K mg base N qual (defScope st) f cdv A outer s H E).nox (defBody st) t ∧ t { nx := fun _ H' => Q .non H', rt := Q } (start N vs) H) : FnOk P w K mg base CX0 (k + 1) f fd ps sp := by
  obtain ⟨oc, od, kV, doc, pm, an, cdv, ct, osl, rfl, lk, hcd⟩ := F.ex
  refine fn_of lk hcd S len fun A outer s H vs Q E hr hsp => ?_
  obtain ⟨t, h, q⟩ := hbody cdv A outer s H vs Q E hr hsp
  exact ⟨t, h.nox, q⟩
theorem Fun.binds {x qual : Str} {st : Stmt} {f : Addr} {fd : FuncData} {ps : List Str} (F : Fun K x qual st f fd)
    (h : ∀ (kV doc pm : Value) (an : Option Addr) (cdv ct : Value) (us : List Value), us.length = ps.length → bindArgs (PySem.W.fnOf x qual (defArgs st) (defBody st) (defScope st) .none kV doc pm an cdv ct) ⟨us, []⟩ = pure (ps.zip us)) : Binds K fd ps [] := by
  obtain ⟨oc, od, kV, doc, pm, an, cdv, ct, osl, rfl, lk, hcd⟩ := F.ex
  exact .all (h kV doc pm an cdv ct)
theorem fun_mk {x qual : Str} {st : Stmt} {f : Addr} {oc : Value} {od an : Option Addr} {osl : Array (Option Value)} {kV doc pm cdv ct : Value} (l : K.lookup f = some ⟨oc, od, .func (PySem.W.fnOf x qual (defArgs st) (defBody st) (defScope st) .none kV doc pm an cdv ct), osl⟩)
    (c : PySem.W.codeIn K cdv qual = true) (k : PySem.W.keepIn K (.ref f) = true) : Fun K x qual st f (PySem.W.fnOf x qual (defArgs st) (defBody st) (defScope st) .none kV doc pm an cdv ct) := ⟨⟨oc, od, kV, doc, pm, an, cdv, ct, osl, rfl, l, c⟩, k⟩
end
theorem hu_of {A : Around} {k : Nat} (hr : Room k A) : A.units + 1 < cLine := Nat.lt_of_le_of_lt (Nat.add_le_add_left (by decide : 1 ≤ 64) _) hr.units
section
variable {X : Cx}
theorem pv (i : Nat) {x : Str} {pos : Pos} (hN : X.N[i]? = some x := by rfl) (hv : Vis X.env.scope x := by first | exact Or.inl rfl | exact Or.inr (Or.inl rfl) | exact Or.inr (Or.inr rfl)) (hd : (x == ("__debug__" : Str)) = false := by decide)
    (hcd : (x == ("__classdict__" : Str)) = false := by decide) : PE X (.Name x pos) (tVar i) := pe_var hN hv hd hcd
end
theorem iteF {A B : Prop} (h : B) : if false = true then A else B := by
  rw [if_neg Bool.false_ne_true]
  exact h
theorem iteT {A B : Prop} (h : A) : if true = true then A else B := by
  rw [if_pos rfl]
  exact h
theorem ite2 {c A B : Prop} [Decidable c] (h1 : c → A) (h2 : ¬ c → B) : if c then A else B := by
  by_cases h : c
  · rw [if_pos h]
    exact h1 h
  · rw [if_neg h]
    exact h2 h
def Same (H H' : Hp) : Prop := ∀ b o, H b = some o → H' b = some o
theorem Same.refl (H : Hp) : Same H H := fun _ _ h => h
theorem Same.trans {H H1 H2 : Hp} (a : Same H H1) (b : Same H1 H2) : Same H H2 := fun c o h => b c o (a c o h)
theorem Same.free {H H' : Hp} (e : Same H H') {l : Addr} (h : H' l = Option.none) : H l = Option.none := by
  cases q : H l with
  | none => rfl
  | some o =>
    rw [e l o q] at h
    cases h
end L2
namespace L2
open PySem PySem.Spec PyProof.Rows
def closL (cells : List (Str × Addr)) : List (Str × NameKind) → List (Str × Addr) → List (Str × Addr)
  | [], acc => acc
  | (n, k) :: r, acc => if (k == NameKind.free) = true then (match cells.lookup n with | some c => closL cells r ((n, c) :: acc) | none => closL cells r acc) else closL cells r acc
theorem closL_run {env : Env} : ∀ (ns : List (Str × NameKind)) (acc : List (Str × Addr)), (∀ y ∈ ns, y.2 = .free → ∃ c, env.cells.lookup y.1 = some c) →
    (forIn ns acc (fun x cs => (match x with | (name, kind) => if (kind == NameKind.free) = true then (do let c ← cellOf env name; pure (ForInStep.yield ((name, c) :: cs))) else pure (ForInStep.yield cs))) : Sem (List (Str × Addr))) = pure (closL env.cells ns acc)
  | [], acc, _ => rfl
  | (n, k) :: r, acc, h => by
    rw [List.forIn_cons]
    by_cases hk : (k == NameKind.free) = true
    · obtain ⟨c, hc⟩ := h (n, k) List.mem_cons_self (by simpa using hk)
      have hc : env.cells.lookup n = some c := hc
      have e := closL_run (env := env) r ((n, c) :: acc) fun y hy => h y (List.mem_cons_of_mem _ hy)
      simp only [closL, hk, if_true, cellOf, hc, pure_bind]
      exact e
    · have e := closL_run (env := env) r acc fun y hy => h y (List.mem_cons_of_mem _ hy)
      have hk : (k == NameKind.free) = false := by simpa using hk
      simp only [closL, hk, Bool.false_eq_true, if_false, pure_bind]
      exact e
theorem closureFor_eq {scope : Scope} {env : Env} (h : ∀ y ∈ scope.names, y.2 = .free → ∃ c, env.cells.lookup y.1 = some c) : closureFor scope env = pure (closL env.cells scope.names []) := by
  have e := closL_run (env := env) scope.names [] h
  unfold closureFor
  simp only [bind_pure]
  first
    | exact e
    | (refine Eq.trans ?_ e; congr 1)
    | (simp only [bind_pure_comp] at e ⊢; exact e)
theorem closL_sub {cells : List (Str × Addr)} : ∀ {ns : List (Str × NameKind)} {acc : List (Str × Addr)} {x : Str} {c : Addr}, (closL cells ns acc).lookup x = some c → acc.lookup x = some c ∨ cells.lookup x = some c
  | [], acc, x, c, h => .inl h
  | (n, k) :: r, acc, x, c, h => by
    unfold closL at h
    split at h
    · split at h
      · rename_i q hq
        rcases closL_sub h with z | z
        · rw [List.lookup_cons] at z
          cases hx : x == n with
          | true =>
            rw [hx] at z
            cases z
            have : x = n := by simpa using hx
            subst this
            exact .inr hq
          | false =>
            rw [hx] at z
            exact .inl z
        · exact .inr z
      · exact closL_sub h
    · exact closL_sub h
theorem closL_has {cells : List (Str × Addr)} : ∀ {ns : List (Str × NameKind)} {acc : List (Str × Addr)} {x : Str} {c : Addr}, cells.lookup x = some c → ((x, NameKind.free) ∈ ns ∨ acc.lookup x = some c) → (closL cells ns acc).lookup x = some c
  | [], acc, x, c, hc, h => h.elim (fun z => nomatch z) fun z => z
  | (n, k) :: r, acc, x, c, hc, h => by
    unfold closL
    split
    · rename_i hk
      split
      · rename_i q hq
        refine closL_has hc ?_
        rcases h with h | h
        · rcases List.mem_cons.mp h with e | h
          · cases e
            rw [hc] at hq
            cases hq
            exact .inr (by simp)
          · exact .inl h
        · by_cases e : x = n
          · subst e
            rw [hc] at hq
            cases hq
            exact .inr (by simp)
          · exact .inr (by rw [List.lookup_cons, (by simpa using e : (x == n) = false)]; exact h)
      · rename_i hq
        refine closL_has hc ?_
        rcases h with h | h
        · rcases List.mem_cons.mp h with e | h
          · cases e
            rw [hc] at hq
            cases hq
          · exact .inl h
        · exact .inr h
    · rename_i hk
      refine closL_has hc ?_
      rcases h with h | h
      · rcases List.mem_cons.mp h with e | h
        · cases e
          exact absurd rfl hk
        · exact .inl h
      · exact .inr h
theorem lookup_relabel_free {env : Env} : ∀ {names : List (Str × NameKind)} {x : Str}, names.lookup x = some .free →
    (names.map fun (n, k) => if (k == NameKind.free && env.scope.kind == .function && env.kindOf n == some .cell) then (n, NameKind.cell) else (n, k)).lookup x = some .cell ∨
    (names.map fun (n, k) => if (k == NameKind.free && env.scope.kind == .function && env.kindOf n == some .cell) then (n, NameKind.cell) else (n, k)).lookup x = some .free
  | [], _, h => by simp at h
  | (n, k) :: r, x, h => by
    have ih := @lookup_relabel_free env r x
    show List.lookup x ((if (k == NameKind.free && env.scope.kind == .function && env.kindOf n == some .cell) = true then (n, NameKind.cell) else (n, k)) :: _) = _ ∨ List.lookup x ((if (k == NameKind.free && env.scope.kind == .function && env.kindOf n == some .cell) = true then (n, NameKind.cell) else (n, k)) :: _) = _
    cases hx : x == n with
    | true =>
      simp only [List.lookup_cons, hx] at h
      cases h
      by_cases hc : (NameKind.free == NameKind.free && env.scope.kind == .function && env.kindOf n == some .cell) = true
      · rw [if_pos hc]; simp [List.lookup_cons, hx]
      · rw [if_neg hc]; simp [List.lookup_cons, hx]
    | false =>
      simp only [List.lookup_cons, hx] at h
      by_cases hc : (k == NameKind.free && env.scope.kind == .function && env.kindOf n == some .cell) = true
      · rw [if_pos hc]; simp only [List.lookup_cons, hx]; exact ih h
      · rw [if_neg hc]; simp only [List.lookup_cons, hx]; exact ih h
theorem of_relabel {env : Env} : ∀ {names : List (Str × NameKind)} {x : Str} {q : NameKind}, (names.map fun (n, k) => if (k == NameKind.free && env.scope.kind == .function && env.kindOf n == some .cell) then (n, NameKind.cell) else (n, k)).lookup x = some q →
    (∀ y ∈ names, y.2 ≠ .cell) → q = .cell ∨ q = .free → (x, NameKind.free) ∈ names
  | [], _, _, h, _, _ => by simp at h
  | (n, k) :: r, x, q, h, hn, hq => by
    have ih := @of_relabel env r x q
    have h : List.lookup x ((if (k == NameKind.free && env.scope.kind == .function && env.kindOf n == some .cell) = true then (n, NameKind.cell) else (n, k)) :: r.map fun (n, k) => if (k == NameKind.free && env.scope.kind == .function && env.kindOf n == some .cell) then (n, NameKind.cell) else (n, k)) = some q := h
    have nk : k ≠ .cell := hn (n, k) List.mem_cons_self
    have hn' : ∀ y ∈ r, y.2 ≠ .cell := fun y hy => hn y (List.mem_cons_of_mem _ hy)
    cases hx : x == n with
    | true =>
      have e : x = n := by simpa using hx
      subst e
      by_cases hc : (k == NameKind.free && env.scope.kind == .function && env.kindOf x == some .cell) = true
      · have : k = .free := by
          simp only [Bool.and_eq_true] at hc
          simpa using hc.1.1
        subst this
        exact List.mem_cons_self
      · rw [if_neg hc] at h
        simp only [List.lookup_cons, hx] at h
        cases h
        rcases hq with z | z
        · exact absurd z nk
        · rw [z]; exact List.mem_cons_self
    | false =>
      by_cases hc : (k == NameKind.free && env.scope.kind == .function && env.kindOf n == some .cell) = true
      · rw [if_pos hc] at h; simp only [List.lookup_cons, hx] at h; exact List.mem_cons_of_mem _ (ih h hn' hq)
      · rw [if_neg hc] at h; simp only [List.lookup_cons, hx] at h; exact List.mem_cons_of_mem _ (ih h hn' hq)
end L2
namespace L2
open PySem PySem.Spec PyProof.Rows
def startC (ix : List (Option Nat)) (σ : St) : St := ix.map fun o => o.bind fun i => (σ[i]?).join
def cxC (X : Cx) (N : List Str) (scope : Scope) (C : Addr) (fp : List Addr) (s : Shared) (H : Hp) : Cx :=
  { X with N := N, s₀ := s, H₀ := H, env := compEnvC scope (closL X.env.cells scope.names []) C X.env, outer := X.stack, stack := X.stack, ex := fp, fn := fun _ => false, xe := fun _ _ => False }
structure CompOk (X : Cx) (scope : Scope) (N : List Str) (ix : List (Option Nat)) : Prop where
  kind : scope.kind = .function
  nocell : ∀ y ∈ scope.names, y.2 ≠ .cell
  len : ix.length = N.length
  names : ∀ y ∈ scope.names, y.2 = .local → scope.names.lookup y.1 = some .local
  fr : ∀ y ∈ scope.names, y.2 = .free → X.env.kindOf y.1 = some .cell ∨ X.env.kindOf y.1 = some .free
  cap : ∀ (j i : Nat), ix[j]? = some (some i) → ∃ x : Str, N[j]? = some x ∧ X.N[i]? = some x ∧ scope.names.lookup x = some .free ∧ (x, NameKind.free) ∈ scope.names
theorem mem_of_lookup {names : List (Str × NameKind)} {x : Str} {k : NameKind} (h : names.lookup x = some k) : (x, k) ∈ names := by
  induction names with
  | nil => simp at h
  | cons p r ih =>
    obtain ⟨n, q⟩ := p
    rw [List.lookup_cons] at h
    cases hx : x == n with
    | true =>
      rw [hx] at h; cases h; have : x = n := by simpa using hx
      subst this; exact List.mem_cons_self
    | false => rw [hx] at h; exact List.mem_cons_of_mem _ (ih h)
section
variable {X : Cx} {pins : List (Addr × Obj)} {σ : St} {H : Hp} {s : Shared} {scope : Scope} {N : List Str} {ix : List (Option Nat)} {fp : List Addr}
theorem CompOk.ok (c : CompOk X scope N ix) (I : Inv X pins σ H s) (hf : ∀ b ∈ fp, FpOk X pins H b) (hlt : ∀ b ∈ fp, b < s.heap.objs.size) {C : Nat} (hC : s.heap.objs.size ≤ C) : (cxC X N scope C fp s H).Ok where
  mod := I.ok.mod
  kind := c.kind
  glob := I.ok.glob
  blt := I.ok.blt
  above := hC
  inj := fun x y d h1 h2 => by
    have h1 : (closL X.env.cells scope.names []).lookup x = some d := h1
    have h2 : (closL X.env.cells scope.names []).lookup y = some d := h2
    rcases closL_sub h1 with z | z
    · simp at z
    · rcases closL_sub h2 with z' | z'
      · simp at z'
      · exact I.ok.inj x y d z z'
  has := fun x h => by
    have hm : (x, NameKind.free) ∈ scope.names := by
      rcases h with h | h
      · exact of_relabel h c.nocell (.inl rfl)
      · exact of_relabel h c.nocell (.inr rfl)
    obtain ⟨d, hd⟩ := I.ok.has x (c.fr _ hm rfl)
    exact ⟨d, closL_has hd (.inl hm)⟩
  cab := fun x d h => by cases h
  hd := I.ok.hd
  frames := I.ok.frames
  stk := .inl rfl
  exf := fun b hb => by
    refine ⟨fun z => ?_, fun x d e z => ?_⟩
    · have z : b = C := z
      have := hlt b hb
      rw [z] at this
      exact absurd (Nat.lt_of_lt_of_le this hC) (Nat.lt_irrefl _)
    · rcases closL_sub e with q | q
      · simp at q
      · exact (hf b hb).2.2.2.2.1 x d q z
  bs := fun b o e => I.bs b o e
  bsz := Nat.le_trans I.ok.bsz I.sz
  noex := fun b o e hb => by
    rcases (hf b hb).2.2.2.1 with z | z
    · exact I.ok.noex b o e z
    · exact absurd (Nat.lt_of_lt_of_le (Heap.lt_size (I.ok.bs b o e).1) z) (Nat.lt_irrefl _)
  exfs := fun b hb z => by
    rcases List.mem_cons.mp (I.stkSub b z) with e | e
    · exact (hf b hb).2.1 e
    · exact (hf b hb).2.2.1 e
  funs := I.stack
  frf := I.stkFree
theorem CompOk.enter (c : CompOk X scope N ix) (I : Inv X pins σ H s) (hf : ∀ b ∈ fp, FpOk X pins H b) (ho : ∀ b ∈ fp, ∃ o, s.heap.get? b = some o ∧ ∀ v, o.data ≠ .cell v) {C D : Nat} {h' : Heap} {t' : Nat} {m : Str → Option Value} {oD : Obj} (hC : C = s.heap.objs.size + 1) (hD : D = s.heap.objs.size)
    (k : ∀ b o, s.heap.get? b = some o → h'.get? b = some o) (hn : h'.Ns C m) (hoD : h'.get? D = some oD) (hdD : ∀ v, oD.data ≠ .cell v) :
    Inv (cxC X N scope C fp s H) (pins ++ [(D, oD)]) (startC ix σ) H { s with heap := h', toks := t' } := by
  have hlt : ∀ b ∈ fp, b < s.heap.objs.size := fun b hb => let ⟨o, e, _⟩ := ho b hb; Heap.lt_size e
  have sub : ∀ x d, (closL X.env.cells scope.names []).lookup x = some d → X.env.cells.lookup x = some d := fun x d e => by
    rcases closL_sub e with z | z
    · simp at z
    · exact z
  refine ⟨c.ok I hf hlt (by omega), rfl, I.bare, Un.kept k, ⟨m, hn, fun j x v e1 e2 e3 => ?_⟩, fun x d e => ?_, I.hok.fresh (by show s.heap.objs.size ≤ C; omega), fun x d e => I.freeC x d (sub x d e), fun p hp => ?_, I.hok.kept k, ?_⟩
  · have e2 : (ix.map fun o => o.bind fun i => (σ[i]?).join)[j]? = some (some v) := e2
    rw [List.getElem?_map] at e2
    cases hj : ix[j]? with
    | none => rw [hj] at e2; cases e2
    | some o =>
      rw [hj] at e2
      cases o with
      | none => cases e2
      | some i =>
        have e2 : some ((σ[i]?).join) = some (some v) := e2
        obtain ⟨x', a1, a2, a3, a4⟩ := c.cap j i hj
        have e1 : N[j]? = some x := e1
        rw [e1] at a1
        cases a1
        have hs : σ[i]? = some (some v) := by
          have z := Option.some.inj e2
          cases q : σ[i]? with
          | none => rw [q] at z; cases z
          | some w => rw [q] at z; have z : w = some v := z; rw [z]
        have kx := c.fr _ a4 rfl
        obtain ⟨m0, hn0, hl0⟩ := I.loc
        obtain ⟨u, r, l⟩ := hl0 i x v a2 hs (kx.elim (fun z => .inr (.inl z)) fun z => .inr (.inr z))
        refine ⟨u, r, .inr ⟨?_, ?_⟩⟩
        · exact lookup_relabel_free (env := X.env) a3
        · rcases l with ⟨z, _⟩ | ⟨_, d, hd, hcell⟩
          · rcases kx with q | q <;> rw [q] at z <;> cases z
          · refine ⟨d, closL_has hd (.inl a4), ?_⟩
            obtain ⟨o, ho, hdt⟩ := hcell
            exact ⟨o, k d o ho, hdt⟩
  · obtain ⟨v, o, ho, hdt⟩ := I.cell x d (sub x d e)
    exact ⟨v, o, k d o ho, hdt⟩
  · have nstk : ∀ b, b ≠ X.env.locals → b ∉ X.fs → b ∉ frs X.stack := fun b h1 h2 z => by
      rcases List.mem_cons.mp (I.stkSub b z) with e | e
      · exact h1 e
      · exact h2 e
    have old : ∀ p ∈ X.pn ++ pins, h'.get? p.1 = some p.2 ∧ H p.1 = none ∧ p.1 ≠ C ∧ p.1 ∉ frs X.stack ∧ ∀ v, p.2.data ≠ .cell v := fun p hp => by
      obtain ⟨a1, a2, a3, a4, a5⟩ := I.pin p hp
      have : @LT.lt Nat _ p.1 s.heap.objs.size := Heap.lt_size a1
      exact ⟨k _ _ a1, a2, Nat.ne_of_lt (by rw [hC]; exact Nat.lt_succ_of_lt this), nstk _ a3 a4, a5⟩
    have hp : p ∈ X.pn ++ (pins ++ [(D, oD)]) := hp
    rcases List.mem_append.mp hp with z | z
    · exact old p (List.mem_append_left _ z)
    · rcases List.mem_append.mp z with z | z
      · exact old p (List.mem_append_right _ z)
      · have e : p = (D, oD) := by simpa using z
        subst e
        have lt : @LT.lt Nat _ X.env.locals s.heap.objs.size := I.lt
        refine ⟨hoD, I.hok.fresh (by show s.heap.objs.size ≤ D; omega), (by show (D : Nat) ≠ C; omega), nstk D (Nat.ne_of_gt (by rw [hD]; exact lt)) (I.nofs (by omega)), hdD⟩
  · show (ix.map _).length = N.length
    rw [List.length_map, c.len]
theorem CompOk.leave (c : CompOk X scope N ix) (I : Inv X pins σ H s) (hf : ∀ b ∈ fp, FpOk X pins H b) {C D : Nat} {σ' : St} {H' : Hp} {s' : Shared} {ys : List V} {its : List Value} {n : Nat} {pl : List (Addr × Obj)} (hC : C = s.heap.objs.size + 1) (hD : D = s.heap.objs.size)
    (I' : Inv (cxC X N scope C fp s H) (pl ++ [(D, { cls := .type "list", data := .seq its.toArray n })]) σ' H' s') (rv : Vals ys its) (hz : ys.length ≤ sizeLine) :
    Inv X pins σ (upd H' D (.lst ys)) s' := by
  have pD := I'.pin (D, _) (List.mem_append_right _ (List.mem_append_right _ List.mem_cons_self))
  have hDn : H' D = none := pD.2.1
  have u : Un (frs X.stack) fp H H' s.heap s'.heap := I'.base
  have hlt : ∀ b o, s.heap.get? b = some o → b ≠ D := fun b o e => Nat.ne_of_lt (by have : @LT.lt Nat _ b s.heap.objs.size := Heap.lt_size e; rw [hD]; exact this)
  refine I.call' (ch := fp) I'.os ?_ ?_ I'.bare fun b hb => ?_
  · refine ⟨u.keep, u.slot, fun b o e n hx => by rw [upd_ne (hlt b o e)]; exact u.free b o e n hx, u.there, fun b xs e => ?_, fun b o w e => ?_, fun b ps e => ?_⟩
    · have e' := u.tups b xs e
      rw [upd_ne (ne_of_none e' hDn)]; exact e'
    · have e' := u.frzs b o w e
      rw [upd_ne (ne_of_none e' hDn)]; exact e'
    · obtain ⟨more, e'⟩ := u.tbls b ps e
      exact ⟨more, by rw [upd_ne (ne_of_none e' hDn)]; exact e'⟩
  · intro b o e
    by_cases hb : b = D
    · subst hb
      rw [upd_same] at e
      cases e
      exact ⟨hz, its, n, rv, pD.1⟩
    · rw [upd_ne hb] at e
      refine (I'.hok b o e).stay (fun _ _ _ q => q) (fun a q => ?_) fun a xs q => ?_
      · rw [upd_ne (ne_of_none q hDn)]; exact q
      · rw [upd_ne (ne_of_none q hDn)]; exact q
  · obtain ⟨f0, f1, f2, f3, f4, f5⟩ := hf b hb
    exact ⟨f3, f1, f4, f5⟩
end
end L2
namespace L2
open PySem PySem.Spec PyProof.Rows
section
variable {prog : Program} {w : World} {A : Around} {R : Result → Shared → Prop} {s : Shared}
theorem compLoop_any {elt target iter : Expr} {ifs : List Expr} {scope : Scope} {pos : Pos} {it acc : Value} {env : Env} (I : Nat → Shared → Prop)
    (turn : ∀ n s, I n s → wpAny (model prog w) A (pyNext it) (fun r s₁ => match r with
      | none => R (.ok .next) s₁
      | some v => wpAny (model prog w) A (letOwnedTupleGo target it v) (fun _ s₁ => wpAny (model prog w) A (assign target env v) (fun _ s₂ =>
          wpAny (model prog w) A (forIn ifs true fun c r => if r = true then do let ok ← isTrue c env (eval c env); pure (ForInStep.yield ok) else pure (ForInStep.yield r)) (fun ok s₃ =>
            if ok = true then wpAny (model prog w) A (eval elt env) (fun x s₄ =>
              wpAny (model prog w) A (call (.builtin "list.append") [acc, x]) (fun _ s₅ => ∃ m, m < n ∧ I m s₅) (fun _ _ => False) s₄) (fun _ _ => False) s₃
            else ∃ m, m < n ∧ I m s₃) (fun _ _ => False) s₂) (fun _ _ => False) s₁) (fun _ _ => False) s₁) (fun _ _ => False) s)
    (n : Nat) (h : I n s) :
    codeAny (model prog w) A (.compLoop (.ListComp elt [⟨target, iter, ifs, 0⟩] scope pos) 0 it acc env) R s := by
  refine codeAny_loop rfl I (fun n s hI => ?_) n h
  show wpAny _ A ((compTurn (.ListComp elt [⟨target, iter, ifs, 0⟩] scope pos) 0 it acc env).onRaise (fun x => do noteFrame x env; theTreesLotGoes x)) _ _ s
  refine wpAny_noted ?_
  rw [compTurn_list]
  refine wpAny_bind (wpAny_standAt (wpAny_bind (wpAny_mono (turn n s hI) (fun r s₁ h₁ => ?_) fun _ _ h' => h'.elim)))
  cases r with
  | none => exact wpAny_pure h₁
  | some v =>
    refine wpAny_bind (wpAny_mono h₁ (fun _ s₁ h₁ => ?_) fun _ _ h' => h'.elim)
    refine wpAny_bind (wpAny_mono h₁ (fun _ s₂ h₂ => wpAny_bind (wpAny_mono h₂ (fun ok s₃ h₃ => ?_) fun _ _ h' => h'.elim)) fun _ _ h' => h'.elim)
    cases ok with
    | false => exact wpAny_pure ⟨rfl, h₃⟩
    | true =>
      refine wpAny_bind (wpAny_bind (wpAny_mono h₃ (fun x s₄ h₄ => wpAny_bind (wpAny_mono h₄ (fun _ s₅ h₅ => ?_) fun _ _ h' => h'.elim)) fun _ _ h' => h'.elim))
      exact wpAny_pure (wpAny_pure ⟨rfl, h₅⟩)
end
def PIf (X : Cx) (cs : List Expr) (t : TT) : Prop :=
  ∀ (pins : List (Addr × Obj)) (s : Shared) (σ : St) (H : Hp) (Q : Bool → Hp → Prop), Inv X pins σ H s → t σ H Q →
    wpAny (model X.prog X.w) X.A (forIn cs true fun c r => if r = true then do let ok ← isTrue c X.env (eval c X.env); pure (ForInStep.yield ok) else pure (ForInStep.yield r)) (TP X pins σ Q) X.xe s
def tTrue : TT := fun _ H Q => Q true H
theorem pif_nil {X : Cx} : PIf X [] tTrue := fun _ _ _ H _ I h => wpAny_tests_nil ⟨H, I, h⟩
abbrev WC := Nat → Nat → List V → St → Hp → Prop
def rComp (ix : List (Option Nat)) (g : TG) (tc : TT) (te : TE) (σ : St) (Q : VK) (J : It) (H1 : Hp) : Prop :=
  ∃ W : WC, (∃ m, W 0 m [] (startC ix σ) H1) ∧ ∀ i m ys σ' H', W i m ys σ' H' →
    (J.stop i H' ∧ ys.length ≤ sizeLine ∧ ∀ p, H' p = none → Q (.ref p) (upd H' p (.lst ys))) ∨
    (J.go i H' ∧ ys.length < sizeLine ∧ ∀ x H2, J.yld i H' x H2 → g x σ' H2 fun σ2 H3 => tc σ2 H3 fun b H4 =>
      if b = true then te σ2 H4 fun v H5 => ∃ m', m' < m ∧ W (i + 1) m' (ys ++ [v]) σ2 H5 else ∃ m', m' < m ∧ W (i + 1) m' ys σ2 H4)
def tComp (ix : List (Option Nat)) (wi : TI) (g : TG) (tc : TT) (te : TE) : TE := fun σ H Q => wi σ H (rComp ix g tc te σ Q)
section
variable {X : Cx} {scope : Scope} {N : List Str} {ix : List (Option Nat)} {elt tg iter : Expr} {ifs : List Expr} {g : TG} {tc : TT} {te : TE} {pos : Pos}
theorem comp_block {pins : List (Addr × Obj)} {σ : St} {s2 : Shared} {Q : VK} {itv : Value} {RR : Value → Addr → Result → Shared → Prop} {E : Value → Shared → Prop} (c : CompOk X scope N ix) (hc : X.calm = true)
    (hg : ∀ C fp s H, PG (cxC X N scope C fp s H) tg g) (ht : ∀ C fp s H, PIf (cxC X N scope C fp s H) ifs tc) (he : ∀ C fp s H, PE (cxC X N scope C fp s H) elt te)
    (h2 : PIE X pins σ tg (rComp ix g tc te σ Q) itv s2)
    (hR : ∀ (D C : Addr) (s' : Shared) (H' : Hp) (m : Str → Option Value), Inv X pins σ H' s' → s'.heap.Ns C m → H' C = none → X.s₀.heap.objs.size ≤ C → (∀ p ∈ X.pn ++ pins, p.1 ≠ C) → C ≠ X.env.locals → (∀ x c, X.env.cells.lookup x = some c → c ≠ C) → Q (.ref D) H' → RR (.ref D) C (.ok .next) s') :
    wpAny (model X.prog X.w) X.A (newList []) (fun acc s₃ => wpAny (model X.prog X.w) X.A (newFunctionEnv scope X.env.globals (closL X.env.cells scope.names []) [] X.env.qual none .none (some X.env)) (fun cenv s₄ =>
      codeAny (model X.prog X.w) X.A (.compStart (.ListComp elt [⟨tg, iter, ifs, 0⟩] scope pos) 0 itv acc { cenv with scope := relabel scope X.env }) (RR acc cenv.locals) s₄) E s₃) E s2 := by
  obtain ⟨it, fp, tn, J, H2, rfl, I2, T, st2, f2, W, ⟨m0, w0⟩, turn⟩ := h2
  refine wpAny_newObj_type (wpAny_newFunctionEnv c.nocell (by intro y hy; simp at hy) (fun h₁ hns₁ hsb₁ => ?_) c.kind)
  dsimp only at hns₁ hsb₁ ⊢
  generalize hH2 : s2.heap.push { cls := .type "list", dict := none, data := .seq ([] : List Value).toArray } = G2 at hns₁ hsb₁ ⊢
  have hCs : G2.objs.size = s2.heap.objs.size + 1 := by rw [← hH2, Heap.size_push]
  generalize hCe : G2.objs.size = C at hns₁ hsb₁ hCs ⊢
  generalize hDe : s2.heap.objs.size = D at hCs ⊢
  have ltC : ∀ b, @LT.lt Nat _ b D → b ≠ C := fun b hb => Nat.ne_of_lt (by rw [hCs]; exact Nat.lt_succ_of_lt hb)
  have ltS : ∀ b o, s2.heap.get? b = some o → @LT.lt Nat _ b D := fun b o e => by rw [← hDe]; exact Heap.lt_size e
  have hDC : D ≠ C := Nat.ne_of_lt (by rw [hCs]; exact Nat.lt_succ_self _)
  have old : ∀ b o, s2.heap.get? b = some o → h₁.get? b = some o := fun b o e => hsb₁.extBut b o (ltC b (ltS b o e)) (Heap.get?_push_of_some _ (hH2 ▸ Heap.get?_push_of_some _ e))
  have hoD : h₁.get? D = some { cls := .type "list", dict := none, data := .seq ([] : List Value).toArray } := by
    refine hsb₁.extBut _ _ hDC (Heap.get?_push_of_some _ ?_)
    rw [← hH2, ← hDe]
    exact Heap.get?_push_size _ rfl
  have I4 : Inv (cxC X N scope C fp s2 H2) (pins ++ [(D, { cls := .type "list", data := .seq ([] : List Value).toArray })]) (startC ix σ) H2 { s2 with heap := h₁, toks := s2.toks + ([] : List (Str × Value)).length } :=
    c.enter I2 f2 (T.obj _ _ st2) (by rw [hCs, hDe]) hDe.symm old hns₁ hoD fun v z => by cases z
  have st4 : tn 0 h₁ := T.keep _ _ _ st2 fun b _ o e => old b o e
  have pinD : ∀ p ∈ X.pn ++ pins, p.1 ≠ D := fun p hp => Nat.ne_of_lt (ltS _ _ (I2.pin p hp).1)
  have pinC : ∀ p ∈ X.pn ++ pins, p.1 ≠ C := fun p hp => ltC _ (ltS _ _ (I2.pin p hp).1)
  have celD : ∀ x d, X.env.cells.lookup x = some d → @LT.lt Nat _ d D := fun x d e => by
    obtain ⟨v, o, ho, _⟩ := I2.cell x d e
    exact ltS d o ho
  have fpD : ∀ b ∈ fp, @LT.lt Nat _ b D := fun b hb => by
    obtain ⟨o, e, _⟩ := T.obj _ _ st2 b hb
    exact ltS b o e
  have sub : ∀ x d, (closL X.env.cells scope.names []).lookup x = some d → X.env.cells.lookup x = some d := fun x d e => by
    rcases closL_sub e with z | z
    · simp at z
    · exact z
  have stat : ∀ {H' : Hp} {oD : Obj}, (∀ b ∈ fp, H' b = none) → ∀ b ∈ fp, FpOk (cxC X N scope C fp s2 H2) (pins ++ [(D, oD)]) H' b := fun {H' oD} hn b hb => by
    obtain ⟨f0, f1, f2, f3, f4, f5⟩ := f2 b hb
    refine ⟨hn b hb, ltC b (fpD b hb), fun z => ?_, .inl hb, fun x d e => f4 x d (sub x d e), fun p hp => ?_⟩
    · rcases List.mem_cons.mp (I2.stkSub b z) with e | e
      · exact f1 e
      · exact f2 e
    · have hp : p ∈ X.pn ++ (pins ++ [(D, oD)]) := hp
      rw [← List.append_assoc] at hp
      rcases List.mem_append.mp hp with z | z
      · exact f5 p z
      · have e : p = (D, oD) := by simpa using z
        subst e
        exact Nat.ne_of_gt (fpD b hb)
  have loop : ∀ s3 : Shared, s3 = { s2 with heap := h₁, toks := s2.toks + ([] : List (Str × Value)).length } →
      codeAny (model X.prog X.w) X.A (.compLoop (.ListComp elt [⟨tg, iter, ifs, 0⟩] scope pos) 0 (.ref it) (.ref D) (cxC X N scope C fp s2 H2).env) (RR (.ref D) C) s3 := by
    rintro s3 rfl
    refine compLoop_any (fun n s' => ∃ i σ' H' ys its k, Inv (cxC X N scope C fp s2 H2) (pins ++ [(D, { cls := .type "list", data := .seq (List.toArray its) k })]) σ' H' s' ∧ tn i s'.heap ∧ (∀ b ∈ fp, H' b = none) ∧ Vals ys its ∧ W i n ys σ' H') ?_ m0
      ⟨0, _, H2, [], [], _, I4, st4, fun b hb => (f2 b hb).1, .nil, w0⟩
    rintro n s3 ⟨i, σ3, H3, ys, its, k, I3, st3, fr3, rv, w3⟩
    rcases turn i n ys σ3 H3 w3 with ⟨stop, hz, qn⟩ | ⟨go, hz, step⟩
    · refine thn (T.done (cxC X N scope C fp s2 H2) rfl rfl rfl hc i _ s3 σ3 H3 _ I3 (stat fr3) st3 stop) fun r s4 ⟨hr, I4⟩ => ?_
      subst hr
      have hDn : H3 D = none := (I3.pin (D, _) (List.mem_append_right _ (List.mem_append_right _ List.mem_cons_self))).2.1
      obtain ⟨m4, hn4, _⟩ := id I4.loc
      refine hR D C s4 _ m4 (c.leave I2 f2 (by rw [hCs, hDe]) hDe.symm I4 rv hz) hn4 ?_ ?_ pinC ?_ (fun x d e => ltC d (celD x d e)) (qn D hDn)
      · rw [upd_ne hDC.symm]; exact I4.free
      · refine Nat.le_trans I2.sz ?_
        rw [hDe, hCs]; exact Nat.le_succ _
      · refine Nat.ne_of_gt (Nat.lt_of_lt_of_le I2.lt ?_)
        rw [hDe, hCs]; exact Nat.le_succ _
    · refine thn (T.item (cxC X N scope C fp s2 H2) rfl rfl rfl hc i _ s3 σ3 H3 _ I3 (stat fr3) st3 go) fun r s4 ⟨u, hr, h4⟩ => ?_
      subst hr
      refine thn h4 fun _ s5 ⟨x, H5, I5, r5, y5, st5, fr5⟩ => ?_
      have I5' := I5.pinned (stat fr5) (T.obj _ _ st5)
      refine thn (hg C fp s2 H2 _ s5 σ3 H5 x u _ I5' r5 (step x H5 y5)) fun _ s6 ⟨σ6, H6, I6, q6⟩ => ?_
      refine thn (ht C fp s2 H2 _ s6 σ6 H6 _ I6 q6) fun ok s7 ⟨H7, I7, q7⟩ => ?_
      have keep : ∀ {s' : Shared} {σ' : St} {H' : Hp}, Inv (cxC X N scope C fp s2 H2) ((pins ++ [(D, { cls := .type "list", data := .seq its.toArray k })]) ++ pinsAt fp s5.heap) σ' H' s' → tn (i + 1) s'.heap ∧ ∀ b ∈ fp, H' b = none := fun {s' σ' H'} I' => by
        refine ⟨T.keep _ _ _ st5 fun b hb o e => (I'.pin (b, o) (List.mem_append_right _ (List.mem_append_right _ (mem_pinsAt hb e)))).1, fun b hb => ?_⟩
        obtain ⟨o, e, d⟩ := T.obj _ _ st5 b hb
        exact (I'.pin (b, o) (List.mem_append_right _ (List.mem_append_right _ (mem_pinsAt hb e)))).2.1
      cases ok with
      | false =>
        rw [if_neg Bool.false_ne_true]
        rw [if_neg Bool.false_ne_true] at q7
        obtain ⟨m', hm, w7⟩ := q7
        obtain ⟨k1, k2⟩ := keep I7
        exact ⟨m', hm, i + 1, σ6, H7, ys, its, k, I7.unpinned, k1, k2, rv, w7⟩
      | true =>
        rw [if_pos rfl]
        rw [if_pos rfl] at q7
        refine thn (he C fp s2 H2 _ s7 σ6 H7 _ I7 q7) fun y s8 ⟨v, H8, I8, r8, m', hm, w8⟩ => ?_
        obtain ⟨k1, k2⟩ := keep I8
        have pD := I8.pin (D, _) (List.mem_append_right _ (List.mem_append_left _ (List.mem_append_right _ List.mem_cons_self)))
        have I8u := I8.unpinned
        have I8v : Inv (cxC X N scope C fp s2 H2) pins σ6 H8 s8 := I8u.unpinned
        have len := rv.length
        refine wpAny_list_append_plain (items := its.toArray) (hsz := by simp; omega) ⟨k, pD.1⟩ fun h9 hl9 hs9 => ?_
        obtain ⟨k9, e9⟩ := hl9
        have I9 : Inv (cxC X N scope C fp s2 H2) pins σ6 H8 { s8 with heap := h9 } := by
          refine I8v.turned (t' := s8.toks) (it := D) (fun b o hb e => hs9.extBut b o hb e) pD.2.1 hDC (.inr ?_) (fun x d e => Nat.ne_of_lt (celD x d (sub x d e))) fun p hp => ?_
          · show s2.heap.objs.size ≤ D
            rw [hDe]; exact Nat.le_refl _
          · exact pinD p hp
        have e9' : h9.get? D = some { cls := .type "list", data := .seq (its ++ [y]).toArray k9 } := by
          rw [e9]; simp
        refine ⟨m', hm, i + 1, σ6, H8, ys ++ [v], its ++ [y], k9, I9.pins_of fun p hp => ?_, T.keep _ _ _ k1 fun b hb o e => hs9.extBut b o (Nat.ne_of_lt (fpD b hb)) e, k2, rv.append (.cons r8 .nil), w8⟩
        rcases List.mem_append.mp hp with z | z
        · exact I9.pin p (List.mem_append_right _ z)
        · have e : p = (D, { cls := .type "list", data := .seq (its ++ [y]).toArray k9 }) := by simpa using z
          subst e
          exact ⟨e9', pD.2.1, pD.2.2.1, pD.2.2.2.1, fun v z => by cases z⟩
  exact codeAny_compStart_list (loop _ rfl) (T.self _ 0 _ _ _ st4 (loop _ rfl))
variable {wi : TI}
theorem pe_comp (c : CompOk X scope N ix) (hc : X.calm = true) (hi : PI X tg iter wi) (hg : ∀ C fp s H, PG (cxC X N scope C fp s H) tg g) (ht : ∀ C fp s H, PIf (cxC X N scope C fp s H) ifs tc) (he : ∀ C fp s H, PE (cxC X N scope C fp s H) elt te)
    (hs : ∀ x, foldedSetIterable iter X.env x = pure x := by intro _; rfl) : PE X (.ListComp elt [⟨tg, iter, ifs, 0⟩] scope pos) (tComp ix wi g tc te) := by
  intro pins s σ H Q I h
  rw [eval_ListComp]
  have hcl : ∀ y ∈ scope.names, y.2 = NameKind.free → ∃ d, X.env.cells.lookup y.1 = some d := fun y hy e => I.ok.has _ (c.fr y hy e)
  refine wpAny_comprehension_free (use := none) rfl hs (closureFor_eq hcl) c.kind c.names (thn (hi pins s σ H _ I h) fun v s1 h1 => thn h1 fun itv s2 h2 => ?_)
  refine comp_block (RR := fun acc C => compPost (model X.prog X.w) X.A X.xe none (EP X pins σ Q) acc C) c hc hg ht he h2 ?_
  intro D C s' H' m I' hn hC hz hp hL hcells q
  exact ⟨m, hn, fun h' hs' => ⟨.ref D, H', I'.turned (t' := s'.toks) (fun b o hb e => hs'.extBut b o hb e) hC hL (.inr hz) hcells hp, rfl, q⟩⟩
theorem ps_comp {i : Nat} {x : Str} {px spos : Pos} (hN : X.N.Nodup) (hx0 : X.N[i]? = some x) (hx : X.env.scope.names.lookup x = some .local) (c : CompOk X scope N ix) (hc : X.calm = true) (hi : PI X tg iter wi) (hg : ∀ C fp s H, PG (cxC X N scope C fp s H) tg g) (ht : ∀ C fp s H, PIf (cxC X N scope C fp s H) ifs tc) (he : ∀ C fp s H, PE (cxC X N scope C fp s H) elt te)
    (hsw : swapsWith (.ListComp elt [⟨tg, iter, ifs, 0⟩] scope pos) (some (.Name x px)) spos.line X.env = pure true := by rfl)
    (hs : ∀ x, foldedSetIterable iter X.env x = pure x := by intro _; rfl) : PS X (.Assign [.Name x px] (.ListComp elt [⟨tg, iter, ifs, 0⟩] scope pos) spos) (tAsg (tComp ix wi g tc te) (gName i)) := by
  intro pins s σ H D0 I h
  rw [exec_Assign_Name_used _ _ _ _ hsw]
  refine wpAny_bind (wpAny_standAt (wpAny_bind ?_))
  show wpAny _ _ (do let _ ← comprehension (.ListComp elt [⟨tg, iter, ifs, 0⟩] scope pos) scope X.env _ (newList []) false (eval iter X.env) (some (assign (.Name x px) X.env))) _ _ s
  have hcl : ∀ y ∈ scope.names, y.2 = NameKind.free → ∃ d, X.env.cells.lookup y.1 = some d := fun y hy e => I.ok.has _ (c.fr y hy e)
  refine wpAny_bind (wpAny_mono (wpAny_comprehension_free (use := some (assign (.Name x px) X.env)) (Q := fun _ s' => SP X pins D0 .next s') rfl hs (closureFor_eq hcl) c.kind c.names
    (thn (hi pins s σ H _ I h) fun v s1 h1 => thn h1 fun itv s2 h2 => ?_)) (fun _ s' hq => wpAny_pure (wpAny_pure hq)) fun _ _ e => e)
  refine comp_block (RR := fun acc C => compPost (model X.prog X.w) X.A X.xe (some (assign (.Name x px) X.env)) (fun _ s' => SP X pins D0 .next s') acc C) c hc hg ht he h2 ?_
  intro D C s' H' m I' hn hC hz hp hL hcells q
  show wpAny _ _ (assign (.Name x px) X.env (.ref D)) _ _ _
  refine wpAny_assign_Name (store_ok2 (v := .ref D) I' hN hx0 (.inl hx) rfl (fun s'' I'' hsb => ?_) (.inr hx))
  obtain ⟨a, sb, ha⟩ := hsb
  have haC : a ≠ C := by
    rcases ha with e | e
    · rw [e]; exact hL.symm
    · exact hcells x a e
  refine ⟨m, hn.sameBut sb haC.symm, fun h' hs' => ⟨_, H', I''.turned (t' := s''.toks) (fun b o hb e => hs'.extBut b o hb e) hC hL (.inr hz) hcells hp, q⟩⟩
end
end L2
namespace L2
open PySem PySem.Spec PyProof.Rows
mutual
inductive Dat (K : PySem.W.Frag) (H : Hp) (P : Addr → Prop) : V → PyData → Prop
  | non : Dat K H P .non .none
  | bl (b : Bool) : Dat K H P (.bl b) (.bool b)
  | int (i : Int) : Dat K H P (.int i) (.int i)
  | str (x : Str) : Dat K H P (.str x) (.str x)
  | lst {a : Addr} {vs : List V} {ds : List PyData} : SqL K H a vs → P a → DatAll K H P vs ds → Dat K H P (.ref a) (.list ds)
  | tup {a : Addr} {vs : List V} {ds : List PyData} : SqT K H a vs → P a → DatAll K H P vs ds → Dat K H P (.ref a) (.tuple ds)
inductive DatAll (K : PySem.W.Frag) (H : Hp) (P : Addr → Prop) : List V → List PyData → Prop
  | nil : DatAll K H P [] []
  | cons {v : V} {d : PyData} {vs : List V} {ds : List PyData} : Dat K H P v d → DatAll K H P vs ds → DatAll K H P (v :: vs) (d :: ds)
end
def Keep (P : Addr → Prop) (H H' : Hp) : Prop := ∀ b o, P b → H b = some o → H' b = some o
theorem Keep.sqL {P : Addr → Prop} {H H' : Hp} {K : PySem.W.Frag} {a : Addr} {xs : List V} (k : Keep P H H') (p : P a) (h : SqL K H a xs) : SqL K H' a xs := by
  rcases h with (h | ⟨o, h⟩) | h
  · exact .inl (.inl (k _ _ p h))
  · exact .inl (.inr ⟨o, k _ _ p h⟩)
  · exact .inr h
theorem Keep.sqT {P : Addr → Prop} {H H' : Hp} {K : PySem.W.Frag} {a : Addr} {xs : List V} (k : Keep P H H') (p : P a) (h : SqT K H a xs) : SqT K H' a xs := by
  rcases h with (h | ⟨o, h⟩) | h
  · exact .inl (.inl (k _ _ p h))
  · exact .inl (.inr ⟨o, k _ _ p h⟩)
  · exact .inr h
mutual
theorem Dat.keep {K : PySem.W.Frag} {H H' : Hp} {P : Addr → Prop} (k : Keep P H H') : ∀ {v : V} {d : PyData}, Dat K H P v d → Dat K H' P v d
  | _, _, .non => .non
  | _, _, .bl b => .bl b
  | _, _, .int i => .int i
  | _, _, .str x => .str x
  | _, _, .lst h p r => .lst (k.sqL p h) p (r.keep k)
  | _, _, .tup h p r => .tup (k.sqT p h) p (r.keep k)
theorem DatAll.keep {K : PySem.W.Frag} {H H' : Hp} {P : Addr → Prop} (k : Keep P H H') : ∀ {vs : List V} {ds : List PyData}, DatAll K H P vs ds → DatAll K H' P vs ds
  | _, _, .nil => .nil
  | _, _, .cons h r => .cons (h.keep k) (r.keep k)
end
mutual
theorem Dat.imp {K : PySem.W.Frag} {H : Hp} {P P' : Addr → Prop} (k : ∀ a, P a → P' a) : ∀ {v : V} {d : PyData}, Dat K H P v d → Dat K H P' v d
  | _, _, .non => .non
  | _, _, .bl b => .bl b
  | _, _, .int i => .int i
  | _, _, .str x => .str x
  | _, _, .lst h p r => .lst h (k _ p) (r.imp k)
  | _, _, .tup h p r => .tup h (k _ p) (r.imp k)
theorem DatAll.imp {K : PySem.W.Frag} {H : Hp} {P P' : Addr → Prop} (k : ∀ a, P a → P' a) : ∀ {vs : List V} {ds : List PyData}, DatAll K H P vs ds → DatAll K H P' vs ds
  | _, _, .nil => .nil
  | _, _, .cons h r => .cons (h.imp k) (r.imp k)
end
section
variable {X : Cx} {pins : List (Addr × Obj)} {σ : St} {H : Hp} {s : Shared}
mutual
theorem Inv.reads {P : Addr → Prop} (I : Inv X pins σ H s) : ∀ {v : V} {d : PyData} {u : Value}, Dat X.K H P v d → RelV v u → ∃ as, Reads s.heap u d as
  | _, _, u, .non, r => by cases (show u = Value.none from r); exact ⟨_, .none⟩
  | _, _, u, .bl b, r => by cases (show u = Value.bool b from r); exact ⟨_, .bool b⟩
  | _, _, u, .int i, r => by obtain ⟨t, rfl⟩ := (show ∃ t, u = Value.int i t from r); exact ⟨_, .int i t⟩
  | _, _, u, .str x, r => by obtain ⟨t, rfl⟩ := (show ∃ t, u = Value.str x t from r); exact ⟨_, .str x t⟩
  | .ref a, _, u, .lst h p rs, r => by
    cases (show u = Value.ref a from r)
    obtain ⟨its, rv, ⟨o, n, e, c, _, d⟩, _⟩ := I.list h
    obtain ⟨as, q⟩ := Inv.readsAll I rs rv
    exact ⟨_, .list e c d (by simpa using q)⟩
  | .ref a, _, u, .tup h p rs, r => by
    cases (show u = Value.ref a from r)
    obtain ⟨its, rv, ⟨o, e, c, n, d⟩, _⟩ := I.tuple h
    obtain ⟨as, q⟩ := Inv.readsAll I rs rv
    exact ⟨_, .tuple e c d (by simpa using q)⟩
theorem Inv.readsAll {P : Addr → Prop} (I : Inv X pins σ H s) : ∀ {vs : List V} {ds : List PyData} {us : List Value}, DatAll X.K H P vs ds → Vals vs us → ∃ as, ReadsAll s.heap us ds as
  | _, _, _, .nil, r => by cases r; exact ⟨_, .nil⟩
  | _, _, _, .cons h rs, r => by
    cases r with
    | cons r1 r2 =>
      obtain ⟨as, q⟩ := Inv.reads I h r1
      obtain ⟨bs, q'⟩ := Inv.readsAll I rs r2
      exact ⟨_, .cons q q'⟩
end
def rEqD (K : PySem.W.Frag) : R2 := fun x y H Q => ∃ P dx dy, Dat K H P x dx ∧ Dat K H P y dy ∧ dx.canLay0 = true ∧ dy.canLay0 = true ∧ dx.depth ≤ 60 ∧ Q (.bl (PyData.eqv dx dy)) H
theorem op_eqD (hu : X.A.units + 64 < cLine) : OpR X (compareOp .Eq) (rEqD X.K) := by
  intro pins s σ H x y v u Q I rx ry h
  obtain ⟨P, dx, dy, hx, hy, lx, ly, dd, q⟩ := h
  obtain ⟨as, qa⟩ := I.reads hx rx
  obtain ⟨bs, qb⟩ := I.reads hy ry
  exact SeqAt.compareEq_reads qa qb lx ly (by omega) ⟨.bl _, H, I, rfl, q⟩
def ivl (lo hi : Int) : List Int := (List.range (hi - lo).toNat).map fun (i : Nat) => lo + (i : Int)
theorem ivl_length (lo hi : Int) : (ivl lo hi).length = (hi - lo).toNat := by simp [ivl]
end
end L2
namespace L2
open PySem PySem.Spec PyProof.Rows
section
variable {X : Cx}
def tyOfV (K : PySem.W.Frag) (x : V) (H : Hp) (T : String) : Prop := TyOf K H x (.type T)
def rIsi (K : PySem.W.Frag) : List V → Hp → VK → Prop := fun xs H Q => ∃ x T C b, xs = [x, .ty C] ∧ tyOfV K x H T ∧ PySem.W.kitOne K (.type T) (.type C) = some b ∧ Q (.bl b) H
theorem call_isi : CallR X (.builtin "isinstance") (rIsi X.K) := by
  intro pins s σ H xs us Q I r h
  obtain ⟨x, T, C, b, rfl, ty, e, q⟩ := h
  obtain ⟨u, w', rfl, rx, ry⟩ := vals2 r
  cases (show w' = Value.type C from ry)
  exact isinst_ok I rx ty e fun tk => ⟨.bl b, H, I.tok _, rfl, q⟩
theorem kit_self (K : PySem.W.Frag) (T : String) : PySem.W.kitOne K (.type T) (.type T) = some true := by
  unfold PySem.W.kitOne
  rw [if_pos (beq_self_eq_true _)]
def rAll (K : PySem.W.Frag) : List V → Hp → VK → Prop := fun xs H Q => ∃ (p : Addr) (bs : List Bool), xs = [.ref p] ∧ SqL K H p (bs.map V.bl) ∧ Q (.bl (bs.all id)) H
theorem vals_bools : ∀ {bs : List Bool} {us : List Value}, Vals (bs.map V.bl) us → us = bs.map Value.bool
  | [], us, r => by cases r; rfl
  | b :: r, us, h => by
    cases h with
    | cons h1 h2 =>
      rw [List.map_cons, ← vals_bools h2]
      rw [show _ = Value.bool b from h1]
theorem call_all (hc : X.calm = true) : CallR X (.builtin "all") (rAll X.K) := by
  intro pins s σ H xs us Q I r h
  obtain ⟨p, bs, rfl, hl, q⟩ := h
  obtain ⟨u, rfl, rx⟩ := vals1 r
  cases rx
  obtain ⟨its, rv, pl, hz⟩ := I.list hl
  have e := vals_bools rv
  subst e
  refine call_all_walk (wpAny_pyIter_list pl.isList ?_)
  have lt : p < s.heap.objs.size := by obtain ⟨o, n, e, _⟩ := pl; exact Heap.lt_size e
  refine ⟨s.heap.objs.size, _, _, _, _, _, fun i => bs.getD i true, rfl, Walks.list (A := X.A.in1) (show X.A.in1.handled = none from I.ok.hd hc) s.heap.objs.size p (Nat.ne_of_lt lt) (bs.map Value.bool).toArray, ?_, ?_, ?_⟩
  · refine ⟨⟨_, Heap.get?_push_size _ rfl, rfl, rfl⟩, pl.isList.at fun o e => Heap.get?_push_of_some _ e⟩
  · intro i v s' Q' E' hP hQ'
    have hP : (bs.map Value.bool).toArray[i]? = some v := hP
    have : (bs.map Value.bool)[i]? = some v := by simpa using hP
    rw [List.getElem?_map] at this
    cases hb : bs[i]? with
    | none => rw [hb] at this; cases this
    | some b =>
      rw [hb] at this
      cases this
      have hg : bs.getD i true = b := by rw [List.getD_eq_getElem?_getD, hb]; rfl
      have hQ' : Q' (bs.getD i true) s' := hQ'
      rw [hg] at hQ'
      exact wpAny_truthy_bool hQ'
  · intro h' tk hk
    have e : (List.range (bs.map Value.bool).toArray.size).all (fun i => bs.getD i true) = bs.all id := by
      have : ∀ (l : List Bool), (List.range l.length).all (fun i => l.getD i true) = l.all id := by
        intro l
        induction l with
        | nil => rfl
        | cons b r ih =>
          rw [List.length_cons, List.range_succ_eq_map, List.all_cons, List.all_cons, List.all_map]
          rw [← ih]
          rfl
      simpa using this bs
    rw [e]
    refine ⟨.bl (bs.all id), H, ?_, rfl, q⟩
    refine (I.kept (t' := s.toks) (h' := h') fun b o e => hk b o ?_ (Heap.get?_push_of_some _ e)).tok tk
    intro z
    have z : b = s.heap.objs.size := by simpa using z
    exact absurd (Heap.lt_size e) (by rw [z]; exact Nat.lt_irrefl _)
end
end L2
namespace L2
open PySem PySem.Spec PyProof.Rows
structure FnAt (P : Program) (w : World) (K : PySem.W.Frag) (mg : Str → Option Value) (base : Heap) (x : Str) (k : Nat) (ps : List Str) (sp : Sp) : Prop where
  ex : ∃ (f : Addr) (fd : FuncData), FnOk P w K mg base CX0 k f fd ps sp ∧ mg x = some (.ref f) ∧ PySem.W.keepIn K (.ref f) = true ∧ Binds K fd ps []
section
variable {X : Cx} {x : Str} {k : Nat} {ps : List Str} {sp : Sp} {e : Expr} {es : List Expr} {t : TA} {p pos : Pos}
theorem pe_callF (F : FnAt X.prog X.w X.K X.mg X.base x k ps sp) (hr : Room k X.A) (hg : Gl X x) (ha : PA X (e :: es) t) (hdb : (x == ("__debug__" : Str)) = false := by decide +kernel) (he : starEach (e :: es) X.env = (false, eval e X.env) :: starEach es X.env := by rfl) (hpl : (backTo pos (starEach es X.env)).any (·.1) = false := by rfl) :
    PE X (.Call (.Name x p) (e :: es) [] pos) (tCall sp [] E0 t) := by
  obtain ⟨f, fd, F, hm, hk, hb⟩ := F.ex
  exact pe_call F hr hg hm hk hb .nil pass0 ha hdb he hpl
def CDivL (i j : Int) : Prop := 0 < j ∧ j < 2 ^ 200
theorem log2_lt {j : Int} (h : 0 < j) (h2 : j < 2 ^ 200) : j.natAbs.log2 < 9000 := by
  have h3 : j.natAbs < 2 ^ 200 := by
    have e : ((j.natAbs : Nat) : Int) = j := Int.natAbs_of_nonneg (Int.le_of_lt h)
    have : ((j.natAbs : Nat) : Int) < ((2 ^ 200 : Nat) : Int) := by rw [e]; simpa using h2
    exact Int.ofNat_lt.mp this
  have h0 : j.natAbs ≠ 0 := by omega
  have := (Nat.log2_lt h0).mpr h3
  omega
theorem op_fdivL : OpR X (binaryOp .FloorDiv) (rI CDivL fun i j => .int (i / j)) := opI fun i j _ _ _ _ _ hc q => by
  refine floordiv_int (by have := hc.1; omega) ?_ (.inl (PyProof.noPylong_of_log2 (log2_lt hc.1 hc.2)))
  rw [Int.fdiv_eq_ediv_of_nonneg _ (Int.le_of_lt hc.1)]
  exact q
end
def capB (XN N : List Str) (ix : List (Option Nat)) (names : List (Str × NameKind)) : Bool :=
  (List.range ix.length).all fun j => match ix[j]? with
    | some (some i) => match N[j]? with
      | some x => XN[i]? == some x && names.lookup x == some .free
      | none => false
    | _ => true
theorem cap_ok {XN N : List Str} {ix : List (Option Nat)} {names : List (Str × NameKind)} (h : capB XN N ix names = true) :
    ∀ (j i : Nat), ix[j]? = some (some i) → ∃ x : Str, N[j]? = some x ∧ XN[i]? = some x ∧ names.lookup x = some .free ∧ (x, NameKind.free) ∈ names := by
  intro j i e
  have hj : j < ix.length := (List.getElem?_eq_some_iff.mp e).1
  have q := List.all_eq_true.mp h j (List.mem_range.mpr hj)
  rw [e] at q
  dsimp only at q
  cases hn : N[j]? with
  | none => rw [hn] at q; cases q
  | some x =>
    rw [hn] at q
    dsimp only at q
    obtain ⟨q1, q2⟩ := Bool.and_eq_true_iff.mp q
    have q1 : XN[i]? = some x := by simpa using q1
    have q2 : names.lookup x = some NameKind.free := by
      cases hl : names.lookup x with
      | none => rw [hl] at q2; cases q2
      | some k => rw [hl] at q2; cases k <;> first | rfl | cases q2
    exact ⟨x, rfl, q1, q2, mem_of_lookup q2⟩
def SameX (p : Addr) (H H' : Hp) : Prop := ∀ b o, b ≠ p → H b = some o → H' b = some o
theorem SameX.refl (p : Addr) (H : Hp) : SameX p H H := fun _ _ _ h => h
theorem SameX.trans {p : Addr} {H H1 H2 : Hp} (a : SameX p H H1) (b : SameX p H1 H2) : SameX p H H2 := fun c o n h => b c o n (a c o n h)
theorem Same.x {p : Addr} {H H' : Hp} (a : Same H H') : SameX p H H' := fun c o _ h => a c o h
theorem SameX.upd {p : Addr} {H : Hp} {o : HO} : SameX p H (upd H p o) := fun c o n h => by rw [upd_ne n]; exact h
theorem Same.new {p : Addr} {H : Hp} {o : HO} (h : H p = none) : Same H (upd H p o) := fun c o e => by rw [upd_ne (ne_of_none e h)]; exact e
end L2
namespace L2
open PySem PySem.Spec PyProof.Rows
def compB (XS : List (Str × NameKind)) (XN : List Str) (names : List (Str × NameKind)) (N : List Str) (ix : List (Option Nat)) : Bool :=
  names.all (fun y => match y.2 with
    | .cell => false
    | .local => (match names.lookup y.1 with | some .local => true | _ => false)
    | .free => (match XS.lookup y.1 with | some .cell => true | some .free => true | _ => false)
    | _ => true) && decide (ix.length = N.length) && capB XN N ix names
theorem comp_ok {X : Cx} {scope : Scope} {N : List Str} {ix : List (Option Nat)} (hk : scope.kind = .function) (h : compB X.env.scope.names X.N scope.names N ix = true) : CompOk X scope N ix := by
  unfold compB at h
  obtain ⟨h, h3⟩ := Bool.and_eq_true_iff.mp h
  obtain ⟨h1, h2⟩ := Bool.and_eq_true_iff.mp h
  have all : ∀ y ∈ scope.names, _ := fun y hy => List.all_eq_true.mp h1 y hy
  refine ⟨hk, fun y hy e => ?_, of_decide_eq_true h2, fun y hy e => ?_, fun y hy e => ?_, cap_ok h3⟩
  · have q := all y hy
    rw [e] at q
    cases q
  · have q := all y hy
    rw [e] at q
    dsimp only at q
    cases hl : scope.names.lookup y.1 with
    | none => rw [hl] at q; cases q
    | some k => rw [hl] at q; cases k <;> first | rfl | cases q
  · have q := all y hy
    rw [e] at q
    dsimp only at q
    show X.env.scope.names.lookup y.1 = _ ∨ X.env.scope.names.lookup y.1 = _
    cases hl : X.env.scope.names.lookup y.1 with
    | none => rw [hl] at q; cases q
    | some k => rw [hl] at q; cases k <;> first | exact .inl rfl | exact .inr rfl | cases q
section
variable {X : Cx} {K : PySem.W.Frag}
theorem call_isiK (h : X.K = K) : CallR X (.builtin "isinstance") (rIsi K) := by subst h; exact call_isi
theorem ix_listK (h : X.K = K) : IxR X (rIxL K) := by subst h; exact ix_list
theorem ix_tupK (h : X.K = K) : IxR X (rIxT K) := by subst h; exact ix_tup
theorem call_lenK (h : X.K = K) : CallR X (.builtin "len") (fun xs H Q => ∃ p ys, xs = [.ref p] ∧ (SqL K H p ys ∨ SqT K H p ys) ∧ Q (.int ys.length) H) := by subst h; exact call_len_seq
theorem call_allK (h : X.K = K) (hc : X.calm = true) : CallR X (.builtin "all") (rAll K) := by subst h; exact call_all hc
theorem op_notInK (h : X.K = K) : OpR X (compareOp .NotIn) (rIn K true) := by subst h; exact op_notIn_seq
theorem pi_listK {tg l : Expr} {tl : TE} (h : X.K = K) (hl : PE X l tl) : PI X tg l (iList K tl) := by subst h; exact pi_list hl
theorem pi_tupK {tg l : Expr} {tl : TE} (h : X.K = K) (hl : PE X l tl) : PI X tg l (iTup K tl) := by subst h; exact pi_tup hl
theorem pg_tupK {es : List Expr} {k : Nat} {t : TGs} {n : Nat} {pos : Pos} (hk : X.K = K) (hc : X.calm = true) (h : PGs X es t)
    (hn : (assignEach es X.env).length = n := by rfl) (hst : (assignEach es X.env).findIdx? (·.1) = none := by rfl) : PG X (.Tuple es k pos) (gTup K n t) := by subst hk; exact pg_tup hc h hn hst
end
end L2
namespace Sw
open PySem L2
inductive Exs (H : Hp) : List V → List (Int × Int) → Prop
  | nil : Exs H [] []
  | cons {t : Addr} {a b : Int} {vs : List V} {r : List (Int × Int)} : H t = some (.tup [.int a, .int b]) → Exs H vs r → Exs H (.ref t :: vs) ((a, b) :: r)
theorem Exs.length {H : Hp} : ∀ {vs : List V} {r : List (Int × Int)}, Exs H vs r → vs.length = r.length
  | _, _, .nil => rfl
  | _, _, .cons _ x => by rw [List.length_cons, List.length_cons, x.length]
theorem Exs.keep {H H' : Hp} (k : ∀ b xs, H b = some (.tup xs) → H' b = some (.tup xs)) : ∀ {vs : List V} {r : List (Int × Int)}, Exs H vs r → Exs H' vs r
  | _, _, .nil => .nil
  | _, _, .cons h x => .cons (k _ _ h) (x.keep k)
theorem Exs.append {H : Hp} : ∀ {vs ws : List V} {r q : List (Int × Int)}, Exs H vs r → Exs H ws q → Exs H (vs ++ ws) (r ++ q)
  | _, _, _, _, .nil, y => y
  | _, _, _, _, .cons h x, y => .cons h (x.append y)
theorem Exs.snoc {H : Hp} {vs : List V} {r : List (Int × Int)} {t : Addr} {a b : Int} (x : Exs H vs r) (h : H t = some (.tup [.int a, .int b])) : Exs H (vs ++ [.ref t]) (r ++ [(a, b)]) := x.append (.cons h .nil)
theorem Exs.get {H : Hp} : ∀ {vs : List V} {r : List (Int × Int)} {i : Nat} {x : V}, Exs H vs r → vs[i]? = some x → ∃ t a b, x = .ref t ∧ H t = some (.tup [.int a, .int b]) ∧ r[i]? = some (a, b)
  | _, _, _, _, .nil, e => by simp at e
  | _, _, 0, _, .cons h x, e => by simp at e; subst e; exact ⟨_, _, _, rfl, h, rfl⟩
  | _, _, i + 1, _, .cons h x, e => by
    obtain ⟨t, a, b, e1, e2, e3⟩ := x.get (i := i) (by simpa using e)
    exact ⟨t, a, b, e1, e2, by simpa using e3⟩
theorem Exs.dat {K : PySem.W.Frag} {H : Hp} : ∀ {vs : List V} {r : List (Int × Int)}, Exs H vs r → DatAll K H (fun _ => True) vs (r.map fun p => .tuple [.int p.1, .int p.2])
  | _, _, .nil => .nil
  | _, _, .cons h x => .cons (.tup (SqT.of h) True.intro (.cons (.int _) (.cons (.int _) .nil))) x.dat
theorem Same.tups {H H' : Hp} (s : Same H H') : ∀ b xs, H b = some (.tup xs) → H' b = some (.tup xs) := fun b xs e => s b _ e
theorem SameX.tups {p : Addr} {H H' : Hp} {ys : List V} (s : SameX p H H') (hp : H p = some (.lst ys)) : ∀ b xs, H b = some (.tup xs) → H' b = some (.tup xs) := fun b xs e => s b _ (ne_of e hp (by intro z; cases z)) e
theorem lay_row : ∀ (r : List (Int × Int)), PyData.canLayAll0 (r.map fun p => PyData.tuple [.int p.1, .int p.2]) = true
  | [] => rfl
  | p :: r => by rw [List.map_cons]; unfold PyData.canLayAll0; rw [lay_row r]; rfl
theorem depth_row : ∀ (r : List (Int × Int)), PyData.depthAll (r.map fun p => PyData.tuple [.int p.1, .int p.2]) ≤ 1
  | [] => by simp [PyData.depthAll]
  | p :: r => by
    rw [List.map_cons]; unfold PyData.depthAll
    have := depth_row r
    simp [PyData.depth, PyData.depthAll]; omega
theorem eqv_row : ∀ (r q : List (Int × Int)), PyData.eqvAll (r.map fun p => PyData.tuple [.int p.1, .int p.2]) (q.map fun p => PyData.tuple [.int p.1, .int p.2]) = decide (r = q)
  | [], [] => by simp [PyData.eqvAll]
  | [], m :: r => by simp [PyData.eqvAll]
  | n :: r, [] => by simp [PyData.eqvAll]
  | (a, b) :: r, (c, d) :: q => by
    rw [List.map_cons, List.map_cons]; unfold PyData.eqvAll; rw [eqv_row r q]
    simp [PyData.eqv, PyData.eqvAll]
    by_cases h1 : a = c <;> by_cases h2 : b = d <;> by_cases h3 : r = q <;> simp [h1, h2, h3]
def swp (x : Int) (e : Int × Int) : Int := if x = e.1 then e.2 else if x = e.2 then e.1 else x
def go (row : List (Int × Int)) (x : Int) : Int := row.foldl swp x
def ledM (n : Int) (row : List (Int × Int)) : List Int := (ivl 1 (n + 1)).map (go row)
def Good (n : Int) (row : List (Int × Int)) : Prop := ∀ e ∈ row, 1 ≤ e.1 ∧ e.1 < e.2 ∧ e.2 ≤ n
theorem Good.append {n : Int} {r q : List (Int × Int)} (a : Good n r) (b : Good n q) : Good n (r ++ q) := fun e h => (List.mem_append.mp h).elim (a e) (b e)
theorem swp_in {n x : Int} {e : Int × Int} (h : 1 ≤ e.1 ∧ e.1 < e.2 ∧ e.2 ≤ n) (h1 : 1 ≤ x) (h2 : x ≤ n) : 1 ≤ swp x e ∧ swp x e ≤ n := by
  unfold swp; split
  · omega
  · split <;> omega
theorem swp_swp (x : Int) (e : Int × Int) : swp (swp x e) e = x := by
  unfold swp
  by_cases h1 : x = e.1
  · rw [if_pos h1]
    by_cases h2 : e.2 = e.1
    · rw [if_pos h2]; omega
    · rw [if_neg h2, if_pos rfl]; exact h1.symm
  · rw [if_neg h1]
    by_cases h2 : x = e.2
    · rw [if_pos h2, if_pos rfl]; exact h2.symm
    · rw [if_neg h2, if_neg h1, if_neg h2]
end Sw
namespace L2
open PySem PySem.Spec PyProof.Rows
theorem comp_by {ix : List (Option Nat)} {g : TG} {tc : TT} {te : TE} {σ : St} {Q : VK} {J : It} {H : Hp} {n : Nat} (Pv : Nat → List V → St → Hp → Prop) (hn : n ≤ 1000000) (h0 : Pv 0 [] (startC ix σ) H)
    (hgo : ∀ i ys σ H, i < n → Pv i ys σ H → J.go i H) (hst : ∀ ys σ H, Pv n ys σ H → J.stop n H) (hlen : ∀ i ys σ H, Pv i ys σ H → ys.length ≤ i)
    (hs : ∀ i ys σ H x H2 (R : St → List V → Hp → Prop), i < n → Pv i ys σ H → J.yld i H x H2 → (∀ σ2 ys2 H5, Pv (i + 1) ys2 σ2 H5 → R σ2 ys2 H5) →
      g x σ H2 fun σ2 H3 => tc σ2 H3 fun b H4 => if b = true then te σ2 H4 fun v H5 => R σ2 (ys ++ [v]) H5 else R σ2 ys H4)
    (hd : ∀ ys σ' H' p, Pv n ys σ' H' → H' p = none → Q (.ref p) (upd H' p (.lst ys))) : rComp ix g tc te σ Q J H := by
  have big : (1000000 : Nat) < sizeLine := by decide
  refine ⟨fun i m ys σ' H' => m = n - i ∧ i ≤ n ∧ Pv i ys σ' H', ⟨n, by simp, Nat.zero_le _, h0⟩, ?_⟩
  rintro i m ys σ' H' ⟨rfl, hi, p⟩
  have hl := hlen i ys σ' H' p
  by_cases hlt : i < n
  · refine .inr ⟨hgo i ys σ' H' hlt p, by omega, fun x H2 y => ?_⟩
    exact hs i ys σ' H' x H2 (fun σ2 ys2 H5 => ∃ m', m' < n - i ∧ (m' = n - (i + 1) ∧ i + 1 ≤ n ∧ Pv (i + 1) ys2 σ2 H5)) hlt p y fun σ2 ys2 H5 q => ⟨n - (i + 1), by omega, rfl, hlt, q⟩
  · have e : i = n := by omega
    subst e
    exact .inl ⟨hst ys σ' H' p, by omega, fun q hq => hd ys σ' H' q p hq⟩
theorem compL {K : PySem.W.Frag} {ix : List (Option Nat)} {te : TE} {σ : St} {Q : VK} {H : Hp} {a : Addr} {xs : List V} {k : Nat} (Pv : Nat → List V → St → Hp → Prop) (hn : xs.length ≤ 1000000) (h0 : Pv 0 [] (startC ix σ) H)
    (hl : ∀ i ys σ H, i ≤ xs.length → Pv i ys σ H → SqL K H a xs) (hlen : ∀ i ys σ H, Pv i ys σ H → ys.length ≤ i)
    (hs : ∀ i ys σ H x (R : St → List V → Hp → Prop), xs[i]? = some x → Pv i ys σ H → (∀ σ2 ys2 H5, Pv (i + 1) ys2 σ2 H5 → R σ2 ys2 H5) → te (σ.set k (some x)) H fun v H5 => R (σ.set k (some x)) (ys ++ [v]) H5)
    (hd : ∀ ys σ' H' p, Pv xs.length ys σ' H' → H' p = none → Q (.ref p) (upd H' p (.lst ys))) : rComp ix (gName k) tTrue te σ Q (Itl K a) H := by
  refine comp_by Pv hn h0 (fun i ys σ H hi p => ⟨xs, xs[i], hl i ys σ H (Nat.le_of_lt hi) p, by simp [hi]⟩) (fun ys σ H p => ⟨xs, hl _ ys σ H (Nat.le_refl _) p, Nat.le_refl _⟩) hlen (fun i ys σ H x H2 R hi p y r => ?_) hd
  obtain ⟨rfl, y⟩ := y
  unfold gName tTrue
  simp only [if_true]
  exact hs i ys σ _ x R (y xs (hl i ys σ _ (Nat.le_of_lt hi) p)) p r
theorem compT {K : PySem.W.Frag} {ix : List (Option Nat)} {te : TE} {σ : St} {Q : VK} {H : Hp} {a : Addr} {xs : List V} {k : Nat} (Pv : Nat → List V → St → Hp → Prop) (hn : xs.length ≤ 1000000) (h0 : Pv 0 [] (startC ix σ) H)
    (hl : ∀ i ys σ H, i ≤ xs.length → Pv i ys σ H → SqT K H a xs) (hlen : ∀ i ys σ H, Pv i ys σ H → ys.length ≤ i)
    (hs : ∀ i ys σ H x (R : St → List V → Hp → Prop), xs[i]? = some x → Pv i ys σ H → (∀ σ2 ys2 H5, Pv (i + 1) ys2 σ2 H5 → R σ2 ys2 H5) → te (σ.set k (some x)) H fun v H5 => R (σ.set k (some x)) (ys ++ [v]) H5)
    (hd : ∀ ys σ' H' p, Pv xs.length ys σ' H' → H' p = none → Q (.ref p) (upd H' p (.lst ys))) : rComp ix (gName k) tTrue te σ Q (Itt K a) H := by
  refine comp_by Pv hn h0 (fun i ys σ H hi p => ⟨xs, xs[i], hl i ys σ H (Nat.le_of_lt hi) p, by simp [hi]⟩) (fun ys σ H p => ⟨xs, hl _ ys σ H (Nat.le_refl _) p, Nat.le_refl _⟩) hlen (fun i ys σ H x H2 R hi p y r => ?_) hd
  obtain ⟨rfl, y⟩ := y
  unfold gName tTrue
  simp only [if_true]
  exact hs i ys σ _ x R (y xs (hl i ys σ _ (Nat.le_of_lt hi) p)) p r
section
variable {X : Cx} {K : PySem.W.Frag} {o e : Expr} {es : List Expr} {to : TE} {t : TA} {name : Str} {apos cpos : Pos} {T id : String} {r : V → List V → Hp → VK → Prop}
theorem pe_bmK (h : X.K = K) (pa : PlainAttrs T) (slot : Slot T name id) (hty : typeOf (.builtin id) = pure (.type "method_descriptor")) (hm : MtR X id r) (ho : PE X o to) (ha : PA X (e :: es) t)
    (hbase : attributeBase o name X.env (eval o X.env) = eval o X.env := by rfl)
    (hfew : ((backTo cpos (starEach (e :: es) X.env)).all (fun x => !x.1) && (backToKw cpos (keywordEach [] X.env)).all (fun x => x.1.isSome)
      && decide ((e :: es).length + ([] : List Keyword).length + (if ([] : List Keyword).isEmpty then 0 else 1) < 30)) = true := by rfl)
    (hline : (apos.endLine == cpos.line) = true := by rfl) (hs : starEach (e :: es) X.env = (false, eval e X.env) :: starEach es X.env := by rfl) (hplain : (backTo cpos (starEach es X.env)).any (·.1) = false := by rfl) :
    PE X (.Call (.Attribute o name apos) (e :: es) [] cpos) (tBM K T r to t) := by
  subst h; exact pe_bm pa slot hty hm ho ha hbase hfew hline hs hplain
theorem sl_listK (h : X.K = K) : SlR X (rSlL K) := by subst h; exact sl_list
theorem sl_tupK (h : X.K = K) : SlR X (rSlT K) := by subst h; exact sl_tup
theorem op_catTK (h : X.K = K) : OpR X (binaryOp .Add) (rCatT K) := by subst h; exact op_catT
end
end L2
namespace Sw
open PySem L2
def Ord (n : Int) (xs : List Int) : Prop := xs.Perm (ivl 1 (n + 1))
theorem Ord.length {n : Int} {xs : List Int} (o : Ord n xs) : xs.length = n.toNat := by
  rw [List.Perm.length_eq o, ivl_length]; congr 1; omega
end Sw
namespace L2
open PySem PySem.Spec PyProof.Rows
section
variable {X : Cx} {K : PySem.W.Frag}
theorem vals_toks : ∀ {ns : List Int} {us : List Value}, Vals (ns.map V.int) us → ∃ xs : List (Int × Tok), us = xs.map (fun p => Value.int p.1 p.2) ∧ xs.map (·.1) = ns
  | [], us, r => by cases r; exact ⟨[], rfl, rfl⟩
  | n :: ns, us, r => by
    cases r with
    | cons r1 r2 =>
      obtain ⟨t, rfl⟩ := r1
      obtain ⟨xs, rfl, e⟩ := vals_toks r2
      exact ⟨(n, t) :: xs, rfl, by rw [List.map_cons, e]⟩
def rMinL (K : PySem.W.Frag) : List V → Hp → VK → Prop := fun xs H Q => ∃ (p : Addr) (ns : List Int) (M : Int), xs = [.ref p] ∧ SqL K H p (ns.map V.int) ∧ M ∈ ns ∧ (∀ a ∈ ns, M ≤ a) ∧ Q (.int M) H
theorem call_minL (hc : X.calm = true) (hK : X.K = K) : CallR X (.builtin "min") (rMinL K) := by
  subst hK
  intro pins s σ H xs us Q I r h
  obtain ⟨p, ns, M, rfl, hl, hM, hm, q⟩ := h
  obtain ⟨u, rfl, rx⟩ := vals1 r
  cases rx
  obtain ⟨its, rv, pl, hz⟩ := I.list hl
  obtain ⟨xs, rfl, e⟩ := vals_toks rv
  have hpos : 0 < xs.length := by
    rw [← List.length_map (f := (·.1)), e]
    exact List.length_pos_of_mem hM
  refine min_intList (l := p) (xs := xs.toArray) (I.ok.hd hc) ?_ (by simpa using hpos) fun v h' tk hv hk => ?_
  · have := pl.isList
    unfold intItems
    simpa using this
  · have num : ∀ i, numAt xs.toArray i = ns.getD i 0 := by
      intro i
      unfold numAt
      rw [List.getElem?_toArray, ← e, List.getD_eq_getElem?_getD, List.getElem?_map]
    obtain ⟨b1, b2⟩ := argBest_lt (numAt xs.toArray) (xs.toArray.size - 1)
    generalize argBest (fun i j => decide (numAt xs.toArray i < numAt xs.toArray j)) (xs.toArray.size - 1) = k at b1 b2 hv
    have lk : k < xs.length := by simp at b1; omega
    have hv' : v = Value.int xs[k].1 xs[k].2 := by
      unfold intItems at hv
      simp at hv
      rw [List.getElem?_eq_getElem lk] at hv
      obtain ⟨a, b, h1, h2⟩ := hv
      have h1 := Option.some.inj h1
      rw [h1]
      exact h2.symm
    subst hv'
    have lx : xs.length = ns.length := by rw [← e, List.length_map]
    have ek : xs[k].1 = ns[k] := by
      have : (xs.map (·.1))[k]'(by rw [List.length_map]; exact lk) = ns[k] := by simp only [e]
      simpa using this
    have eM : xs[k].1 = M := by
      rw [ek]
      refine Int.le_antisymm ?_ (hm _ (List.getElem_mem _))
      obtain ⟨j, hj, ej⟩ := List.mem_iff_getElem.mp hM
      have := b2 j (by simp; omega)
      rw [num, num] at this
      rw [← ej]
      rw [List.getD_eq_getElem?_getD, List.getElem?_eq_getElem (by omega), List.getD_eq_getElem?_getD, List.getElem?_eq_getElem hj] at this
      exact this
    rw [eM]
    refine ⟨.int M, H, ?_, ⟨_, rfl⟩, q⟩
    exact (I.kept (t' := s.toks) (h' := h') fun b o e => hk b o e).tok tk
def tChain3 (r r' r'' : R2) (ta tb tc td : TE) : TE := fun σ H Q => ta σ H fun x H1 => tb σ H1 fun y H2 => r x y H2 fun z H3 => ∃ k, z = .bl k ∧
  (if k = true then tc σ H3 fun w' H4 => r' y w' H4 fun z' H5 => ∃ k', z' = .bl k' ∧ (if k' = true then td σ H5 fun w2 H6 => r'' w' w2 H6 Q else Q (.bl false) H5) else Q (.bl false) H3)
end
end L2
namespace L2
open PySem PySem.Spec PyProof.Rows
section
variable {X : Cx} {K : PySem.W.Frag}
theorem ints_are : ∀ {ns : List Int} {us : List Value}, Vals (ns.map V.int) us → IntsAre us ns
  | [], us, r => by cases r; exact .nil
  | n :: ns, us, r => by
    cases r with
    | cons r1 r2 =>
      obtain ⟨t, rfl⟩ := r1
      exact .cons n t (ints_are r2)
theorem vals_are : ∀ {us : List Value} {ns : List Int}, IntsAre us ns → Vals (ns.map V.int) us
  | _, _, .nil => .nil
  | _, _, .cons n t r => .cons ⟨t, rfl⟩ (vals_are r)
def rSort (K : PySem.W.Frag) : List V → Hp → VK → Prop := fun xs H Q => ∃ (p : Addr) (ns : List Int), xs = [.ref p] ∧ SqL K H p (ns.map V.int) ∧ ns.length < 64 ∧ ∀ (l : Addr) (ns' : List Int), H l = none → ns'.Perm ns → ns'.Pairwise (· ≤ ·) → Q (.ref l) (upd H l (.lst (ns'.map V.int)))
theorem call_sorted (hK : X.K = K) : CallR X (.builtin "sorted") (rSort K) := by
  subst hK
  intro pins s σ H xs us Q I r h
  obtain ⟨p, ns, rfl, hl, hz, q⟩ := h
  obtain ⟨u, rfl, rx⟩ := vals1 r
  cases rx
  obtain ⟨its, rv, pl, _⟩ := I.list hl
  have len := rv.length
  rw [List.length_map] at len
  refine sorted_ints pl.isList (ints_are rv) (by omega) fun out ns' ia pm pw => ?_
  obtain ⟨e, he⟩ := sortedAll_at s.heap its out
  have lp := pm.length_eq
  have big : (64 : Nat) ≤ sizeLine := by decide
  refine ⟨.ref (s.heap.objs.size + 1), _, I.laid (o := .lst (ns'.map V.int)) (fun b u e => sortedAll_old e) (Nat.le_succ _) ⟨by rw [List.length_map]; omega, out.toList, e, vals_are ia, by simpa using he⟩, rfl, q _ ns' (I.hok.fresh (Nat.le_succ _)) pm pw⟩
end
end L2
namespace L2
open PySem PySem.Spec PyProof.Rows
def kitB (T C : String) : Option Bool := if (Value.type T == Value.type C) = true then some true else if PySem.W.kitMeta C = true then (fastBuiltinMro T).map (·.contains (Value.type C)) else none
theorem kit_type (K : PySem.W.Frag) {T C : String} {b : Bool} (h : kitB T C = some b) : PySem.W.kitOne K (.type T) (.type C) = some b := h
theorem kit_int_bool (K : PySem.W.Frag) : PySem.W.kitOne K (.type "int") (.type "bool") = some false := kit_type K (by decide +kernel)
end L2
namespace Sw
open PySem L2
def ld (xs : List Int) (x : Int) : Int := xs.getD (x - 1).toNat 0
def itn (f : Int → Int) : Nat → Int → Int
  | 0, x => x
  | k + 1, x => f (itn f k x)
def per (xs : List Int) (x : Int) : Nat := (List.range xs.length).findIdx (fun k => itn (ld xs) (k + 1) x == x) + 1
def orb (xs : List Int) (x : Int) : List Int := (List.range (per xs x)).map fun k => itn (ld xs) k x
def least (xs : List Int) (x : Int) : Bool := (orb xs x).all fun y => decide (x ≤ y)
def rndM (n : Int) (xs : List Int) : List (List Int) := ((ivl 1 (n + 1)).filter (least xs)).map (orb xs)
end Sw
namespace Sw
open PySem L2
inductive Rise : Int → List (Int × Int) → Prop
  | nil {m : Int} : Rise m []
  | snoc {m a b : Int} {r : List (Int × Int)} : Rise (b - 1) r → 1 ≤ a → a < b → b ≤ m → Rise m (r ++ [(a, b)])
end Sw
namespace Sw
open PySem L2
def bump : Nat → List (List Int) → List (List Int)
  | _, [] => []
  | k, r :: t => (r ++ [100 + (k : Int)]) :: bump (k + 1) t
def half (l : List (List Int)) (i : Nat) : List (List Int) := bump 0 (l.take i) ++ l.drop i
end Sw
namespace Sw
open PySem L2
def Cyc (n : Int) (xs r : List Int) : Prop := r ≠ [] ∧ ∀ (i : Nat) (x : Int), r[i]? = some x → 1 ≤ x ∧ x ≤ n ∧ r[(i + 1) % r.length]? = some (ld xs x)
structure Rnds (n : Int) (xs : List Int) (rs : List (List Int)) : Prop where
  cyc : ∀ r ∈ rs, Cyc n xs r
  nd : rs.flatten.Nodup
  rest : ∀ x, 1 ≤ x → x ≤ n → x ∉ rs.flatten → ld xs x = x
structure Part (n : Int) (xs : List Int) (rf rl : List (List Int)) : Prop where
  cf : ∀ r ∈ rf, Cyc n xs r
  cl : ∀ r ∈ rl, Cyc n xs r
  nd : (rf.flatten ++ rl.flatten).Nodup
  rest : ∀ x, 1 ≤ x → x ≤ n → x ∉ rf.flatten → x ∉ rl.flatten → ld xs x = x
end Sw
namespace L2
open PySem PySem.Spec PyProof.Rows
theorem int_shown {i : Int} (h : i.natAbs < 10 ^ 35) : (PyData.int i).shown.length ≤ 40 := by
  rw [PyData.shown_int]
  have len : ∀ s : String, (Str.ofString s).length = s.length := fun s => PySem.ofString_length s
  rw [len]
  have nat : ∀ n : Nat, n < 10 ^ 35 → (Nat.repr n).length ≤ 35 := fun n hn => by
    have := (Nat.length_toDigits_le_iff (b := 10) (n := n) (k := 35) (by decide) (by decide)).mpr hn
    unfold Nat.repr
    simpa using this
  match i, h with
  | .ofNat n, h =>
    have := nat n h
    show (Nat.repr n).length ≤ 40
    omega
  | .negSucc n, h =>
    have := nat (n + 1) h
    show ("-" ++ Nat.repr (n + 1)).length ≤ 40
    rw [String.length_append]
    have : "-".length = 1 := rfl
    omega
mutual
inductive DT (H : Hp) (P : Addr → Prop) : V → PyData → Prop
  | non : DT H P .non .none
  | bl (b : Bool) : DT H P (.bl b) (.bool b)
  | int (i : Int) : DT H P (.int i) (.int i)
  | str (x : Str) : DT H P (.str x) (.str x)
  | lst {a : Addr} {vs : List V} {ds : List PyData} : H a = some (.lst vs) → P a → DTs H P vs ds → DT H P (.ref a) (.list ds)
  | tup {a : Addr} {vs : List V} {ds : List PyData} : H a = some (.tup vs) → P a → DTs H P vs ds → DT H P (.ref a) (.tuple ds)
inductive DTs (H : Hp) (P : Addr → Prop) : List V → List PyData → Prop
  | nil : DTs H P [] []
  | cons {v : V} {d : PyData} {vs : List V} {ds : List PyData} : DT H P v d → DTs H P vs ds → DTs H P (v :: vs) (d :: ds)
end
mutual
theorem DT.keep {H H' : Hp} {P : Addr → Prop} (k : Keep P H H') : ∀ {v : V} {d : PyData}, DT H P v d → DT H' P v d
  | _, _, .non => .non
  | _, _, .bl b => .bl b
  | _, _, .int i => .int i
  | _, _, .str x => .str x
  | _, _, .lst h p r => .lst (k _ _ p h) p (r.keep k)
  | _, _, .tup h p r => .tup (k _ _ p h) p (r.keep k)
theorem DTs.keep {H H' : Hp} {P : Addr → Prop} (k : Keep P H H') : ∀ {vs : List V} {ds : List PyData}, DTs H P vs ds → DTs H' P vs ds
  | _, _, .nil => .nil
  | _, _, .cons h r => .cons (h.keep k) (r.keep k)
end
mutual
theorem DT.dat {K : PySem.W.Frag} {H : Hp} {P : Addr → Prop} : ∀ {v : V} {d : PyData}, DT H P v d → Dat K H P v d
  | _, _, .non => .non
  | _, _, .bl b => .bl b
  | _, _, .int i => .int i
  | _, _, .str x => .str x
  | _, _, .lst h p r => .lst (SqL.of h) p r.dat
  | _, _, .tup h p r => .tup (SqT.of h) p r.dat
theorem DTs.dat {K : PySem.W.Frag} {H : Hp} {P : Addr → Prop} : ∀ {vs : List V} {ds : List PyData}, DTs H P vs ds → DatAll K H P vs ds
  | _, _, .nil => .nil
  | _, _, .cons h r => .cons h.dat r.dat
end
theorem DTs.length {H : Hp} {P : Addr → Prop} : ∀ {vs : List V} {ds : List PyData}, DTs H P vs ds → vs.length = ds.length
  | _, _, .nil => rfl
  | _, _, .cons h r => by rw [List.length_cons, List.length_cons, r.length]
theorem DTs.append {H : Hp} {P : Addr → Prop} : ∀ {vs ws : List V} {ds es : List PyData}, DTs H P vs ds → DTs H P ws es → DTs H P (vs ++ ws) (ds ++ es)
  | _, _, _, _, .nil, y => y
  | _, _, _, _, .cons h x, y => .cons h (x.append y)
theorem DTs.snoc {H : Hp} {P : Addr → Prop} {vs : List V} {ds : List PyData} {v : V} {d : PyData} (x : DTs H P vs ds) (h : DT H P v d) : DTs H P (vs ++ [v]) (ds ++ [d]) := x.append (.cons h .nil)
theorem DTs.take {H : Hp} {P : Addr → Prop} : ∀ {vs : List V} {ds : List PyData} (k : Nat), DTs H P vs ds → DTs H P (vs.take k) (ds.take k)
  | _, _, 0, _ => .nil
  | _, _, k + 1, .nil => .nil
  | _, _, k + 1, .cons h x => .cons h (x.take k)
theorem DTs.drop {H : Hp} {P : Addr → Prop} : ∀ {vs : List V} {ds : List PyData} (k : Nat), DTs H P vs ds → DTs H P (vs.drop k) (ds.drop k)
  | _, _, 0, x => x
  | _, _, k + 1, .nil => .nil
  | _, _, k + 1, .cons h x => x.drop k
theorem DTs.get {H : Hp} {P : Addr → Prop} : ∀ {vs : List V} {ds : List PyData} {i : Nat} {x : V}, DTs H P vs ds → vs[i]? = some x → ∃ d, ds[i]? = some d ∧ DT H P x d
  | _, _, _, _, .nil, e => by simp at e
  | _, _, 0, _, .cons h x, e => by simp at e; subst e; exact ⟨_, rfl, h⟩
  | _, _, i + 1, _, .cons h x, e => by
    obtain ⟨d, e1, e2⟩ := x.get (i := i) (by simpa using e)
    exact ⟨d, by simpa using e1, e2⟩
def tyD : PyData → String
  | .none => "NoneType"
  | .bool _ => "bool"
  | .int _ => "int"
  | .str _ => "str"
  | .list _ => "list"
  | .tuple _ => "tuple"
  | .dict _ => "dict"
theorem DT.ty {K : PySem.W.Frag} {H : Hp} {P : Addr → Prop} {v : V} {d : PyData} (h : DT H P v d) : TyOf K H v (.type (tyD d)) := by
  cases h with
  | non => exact .non
  | bl b => exact .bl b
  | int i => exact .int i
  | str x => exact .str x
  | lst h p r => exact .lst h
  | tup h p r => exact .tup h
def isL : PyData → Bool
  | .list _ => true
  | _ => false
theorem kit_list (K : PySem.W.Frag) {H : Hp} {P : Addr → Prop} {v : V} {d : PyData} (h : DT H P v d) : PySem.W.kitOne K (.type (tyD d)) (.type "list") = some (isL d) := by
  cases h with
  | non => exact kit_type K (show kitB "NoneType" "list" = some false by decide +kernel)
  | bl b => exact kit_type K (show kitB "bool" "list" = some false by decide +kernel)
  | int i => exact kit_type K (show kitB "int" "list" = some false by decide +kernel)
  | str x => exact kit_type K (show kitB "str" "list" = some false by decide +kernel)
  | lst h p r => exact kit_type K (show kitB "list" "list" = some true by decide +kernel)
  | tup h p r => exact kit_type K (show kitB "tuple" "list" = some false by decide +kernel)
def isT : PyData → Bool
  | .tuple _ => true
  | _ => false
theorem kit_tuple (K : PySem.W.Frag) {H : Hp} {P : Addr → Prop} {v : V} {d : PyData} (h : DT H P v d) : PySem.W.kitOne K (.type (tyD d)) (.type "tuple") = some (isT d) := by
  cases h with
  | non => exact kit_type K (show kitB "NoneType" "tuple" = some false by decide +kernel)
  | bl b => exact kit_type K (show kitB "bool" "tuple" = some false by decide +kernel)
  | int i => exact kit_type K (show kitB "int" "tuple" = some false by decide +kernel)
  | str x => exact kit_type K (show kitB "str" "tuple" = some false by decide +kernel)
  | lst h p r => exact kit_type K (show kitB "list" "tuple" = some false by decide +kernel)
  | tup h p r => exact kit_type K (show kitB "tuple" "tuple" = some true by decide +kernel)
def isI : PyData → Bool
  | .int _ => true
  | .bool _ => true
  | _ => false
theorem kit_int (K : PySem.W.Frag) {H : Hp} {P : Addr → Prop} {v : V} {d : PyData} (h : DT H P v d) : PySem.W.kitOne K (.type (tyD d)) (.type "int") = some (isI d) := by
  cases h with
  | non => exact kit_type K (show kitB "NoneType" "int" = some false by decide +kernel)
  | bl b => exact kit_type K (show kitB "bool" "int" = some true by decide +kernel)
  | int i => exact kit_type K (show kitB "int" "int" = some true by decide +kernel)
  | str x => exact kit_type K (show kitB "str" "int" = some false by decide +kernel)
  | lst h p r => exact kit_type K (show kitB "list" "int" = some false by decide +kernel)
  | tup h p r => exact kit_type K (show kitB "tuple" "int" = some false by decide +kernel)
def isB : PyData → Bool
  | .bool _ => true
  | _ => false
theorem kit_bool (K : PySem.W.Frag) {H : Hp} {P : Addr → Prop} {v : V} {d : PyData} (h : DT H P v d) : PySem.W.kitOne K (.type (tyD d)) (.type "bool") = some (isB d) := by
  cases h with
  | non => exact kit_type K (show kitB "NoneType" "bool" = some false by decide +kernel)
  | bl b => exact kit_type K (show kitB "bool" "bool" = some true by decide +kernel)
  | int i => exact kit_type K (show kitB "int" "bool" = some false by decide +kernel)
  | str x => exact kit_type K (show kitB "str" "bool" = some false by decide +kernel)
  | lst h p r => exact kit_type K (show kitB "list" "bool" = some false by decide +kernel)
  | tup h p r => exact kit_type K (show kitB "tuple" "bool" = some false by decide +kernel)
structure Fit (B : Nat) (d : PyData) : Prop where
  sh : d.showable = true
  nd : d.hasDict = false
  dp : d.depth ≤ 20
  ls : PyData.leavesShort 40 d = true
  wt : d.weight ≤ B
theorem Fit.len {B : Nat} {d : PyData} (f : Fit B d) (hB : B ≤ 100000) : d.shown.length ≤ sizeLine := by
  have := PyData.shown_le 40 (by decide) d f.ls
  have big : (10000000 : Nat) ≤ sizeLine := by decide
  have := f.wt
  omega
section
variable {X : Cx} {K : PySem.W.Frag}
def rRepr (K : PySem.W.Frag) : List V → Hp → VK → Prop := fun xs H Q => ∃ (x : V) (P : Addr → Prop) (d : PyData) (B : Nat), xs = [x] ∧ Dat K H P x d ∧ Fit B d ∧ B ≤ 100000 ∧ Q (.str d.shown) H
theorem call_repr (hg : X.A.guards = some []) (hu : X.A.units + 64 < cLine) : CallR X (.builtin "repr") (rRepr X.K) := by
  intro pins s σ H xs us Q I r h
  obtain ⟨x, P, d, B, rfl, hd, ft, hB, q⟩ := h
  obtain ⟨u, rfl, rx⟩ := vals1 r
  have hl := ft.len hB
  obtain ⟨as, rd⟩ := I.reads hd rx
  cases hd with
  | non =>
    cases (show u = Value.none from rx)
    exact PySem.P.repr_of_none ⟨.str _, H, I.tok _, ⟨_, rfl⟩, by rw [PyData.shown_none] at q; exact q⟩
  | bl b =>
    cases (show u = Value.bool b from rx)
    exact PySem.P.repr_of_bool ⟨.str _, H, I.tok _, ⟨_, rfl⟩, by rw [PyData.shown_bool] at q; exact q⟩
  | int i =>
    obtain ⟨t, rfl⟩ := (show ∃ t, u = Value.int i t from rx)
    have : i.natAbs.log2 < 1920 := by have := ft.sh; unfold PyData.showable at this; exact of_decide_eq_true this
    exact PySem.P.repr_of_int this ⟨.str _, H, I.tok _, ⟨_, rfl⟩, by rw [PyData.shown_int] at q; exact q⟩
  | str z =>
    obtain ⟨t, rfl⟩ := (show ∃ t, u = Value.str z t from rx)
    rw [PyData.shown_str] at hl q
    exact PySem.P.repr_of_str ⟨.str _, H, I.tok _, ⟨_, rfl⟩, q⟩ hl
  | lst h p rs =>
    cases (show u = Value.ref _ from rx)
    exact repr_of_reads' rd ft.sh (fun z => by rw [ft.nd] at z; cases z) hg (by have := ft.dp; omega) (fun _ _ e => e) (fun h' t tk k => ⟨.str _, H, (I.kept (t' := s.toks) (h' := h') k).tok tk, ⟨_, rfl⟩, q⟩) hl
  | tup h p rs =>
    cases (show u = Value.ref _ from rx)
    exact repr_of_reads' rd ft.sh (fun z => by rw [ft.nd] at z; cases z) hg (by have := ft.dp; omega) (fun _ _ e => e) (fun h' t tk k => ⟨.str _, H, (I.kept (t' := s.toks) (h' := h') k).tok tk, ⟨_, rfl⟩, q⟩) hl
end
theorem fit_none : Fit 0 .none := ⟨rfl, rfl, Nat.zero_le _, rfl, Nat.le_refl _⟩
theorem fit_bool (b : Bool) : Fit 0 (.bool b) := ⟨rfl, rfl, Nat.zero_le _, rfl, Nat.le_refl _⟩
theorem log_lt {i : Int} (h : i.natAbs < 10 ^ 35) : i.natAbs.log2 < 120 := by
  by_cases z : i.natAbs = 0
  · rw [z]; decide
  · exact (Nat.log2_lt z).mpr (Nat.lt_of_lt_of_le h (by decide))
theorem fit_int {i : Int} (h : i.natAbs < 10 ^ 35) : Fit 200 (.int i) := by
  have l := log_lt h
  refine ⟨?_, rfl, Nat.zero_le _, ?_, ?_⟩
  · unfold PyData.showable; exact decide_eq_true (by omega)
  · unfold PyData.leavesShort; exact decide_eq_true (int_shown h)
  · unfold PyData.weight; split <;> omega
structure Fits (B k : Nat) (ds : List PyData) : Prop where
  sh : PyData.showableAll ds = true
  nd : PyData.hasDictAll ds = false
  dp : PyData.depthAll ds ≤ k
  ls : PyData.leavesShortAll 40 ds = true
  wt : PyData.weightAll ds ≤ B * ds.length
theorem fits_of {B k : Nat} (hk : k ≤ 20) : ∀ {ds : List PyData}, (∀ d ∈ ds, Fit B d ∧ d.depth ≤ k) → Fits (B + 1) k ds
  | [], _ => ⟨rfl, rfl, Nat.zero_le _, rfl, Nat.zero_le _⟩
  | d :: ds, h => by
    obtain ⟨f, hd⟩ := h d List.mem_cons_self
    have r := fits_of hk (ds := ds) fun e he => h e (List.mem_cons_of_mem _ he)
    refine ⟨?_, ?_, ?_, ?_, ?_⟩
    · unfold PyData.showableAll; rw [f.sh, r.sh]; rfl
    · unfold PyData.hasDictAll; rw [f.nd, r.nd]; rfl
    · unfold PyData.depthAll; have := r.dp; omega
    · unfold PyData.leavesShortAll; rw [f.ls, r.ls]; rfl
    · unfold PyData.weightAll
      have a := f.wt
      have b := r.wt
      rw [List.length_cons, Nat.mul_add, Nat.mul_one]
      omega
theorem fit_list {B k : Nat} {ds : List PyData} (hk : k < 20) (h : ∀ d ∈ ds, Fit B d ∧ d.depth ≤ k) : Fit ((B + 1) * ds.length) (.list ds) ∧ (PyData.list ds).depth ≤ k + 1 := by
  have r := fits_of (by omega) h
  have dd := r.dp
  refine ⟨⟨?_, ?_, ?_, ?_, ?_⟩, ?_⟩
  · unfold PyData.showable; exact r.sh
  · unfold PyData.hasDict; exact r.nd
  · unfold PyData.depth; omega
  · unfold PyData.leavesShort; exact r.ls
  · unfold PyData.weight; exact r.wt
  · unfold PyData.depth; omega
theorem fit_tuple {B k : Nat} {ds : List PyData} (hk : k < 20) (h : ∀ d ∈ ds, Fit B d ∧ d.depth ≤ k) : Fit ((B + 1) * ds.length) (.tuple ds) ∧ (PyData.tuple ds).depth ≤ k + 1 := by
  have r := fits_of (by omega) h
  have dd := r.dp
  refine ⟨⟨?_, ?_, ?_, ?_, ?_⟩, ?_⟩
  · unfold PyData.showable; exact r.sh
  · unfold PyData.hasDict; exact r.nd
  · unfold PyData.depth; omega
  · unfold PyData.leavesShort; exact r.ls
  · unfold PyData.weight; exact r.wt
  · unfold PyData.depth; omega
theorem Fit.mono {B B' : Nat} {d : PyData} (f : Fit B d) (h : B ≤ B') : Fit B' d := ⟨f.sh, f.nd, f.dp, f.ls, Nat.le_trans f.wt h⟩
end L2
namespace L2
open PySem PySem.Spec PyProof.Rows
def Lone (h : Heap) (e : Addr) : Prop := ∃ o vs, h.get? e = some o ∧ o.data = .fields vs ∧ vs[2]? = some .none
section
variable {M : Model} {A : Around} {E : Value → Shared → Prop} {s : Shared} {B : Heap} {env : Env} {outer : List Env} {L e : Addr} {cls a0 : Value}
abbrev tbObj (head : Value) (L : Addr) (pl : List Value) : Obj := { cls := .type "traceback", dict := none, data := .fields ([head, .ref L, .none, rawInt L, .none] ++ (if pl.isEmpty then List.replicate 6 Value.none else pl)).toArray }
theorem entry_lone {o : Obj} {vs : Array Value} {head : Value} {hadNext : Bool} {Q : Unit → Shared → Prop}
    (fr : A.frames = some (env :: outer)) (ff : s.heap.FunFrames B (env :: outer)) (ef : env.frame = some L) (eo : s.heap.get? e = some o) (kb : B.StaysIn s.heap) (en : B.get? e = none) (ed : o.data = .fields vs) (z0 : vs[0]? = some a0) (z2 : vs[2]? = some .none)
    (k : ∀ h', Heap.NotedW B (env :: outer) e o.cls a0 (rawInt L) s.heap h' → Lone h' e → Q () { s with heap := h' }) :
    wpAny M A (do let a ← frameOf env; let pl ← entryPlaceOf L hadNext; let b ← EntryCells.newEntry head a .none (rawInt L) .none pl; setField (.ref e) 1 b) Q E s := by
  have n2 : 2 < vs.size := (Array.getElem?_eq_some_iff.mp z2).1
  have n1 : 1 < vs.size := by omega
  have eno : e ∉ (env :: outer).filterMap (·.frame) := fun hm => by
    obtain ⟨_, o', ho, hnf⟩ := ff.mem hm
    rw [eo] at ho
    cases ho
    exact hnf vs ed
  refine wpAny_bind (wpAny_frameOf_fun fr ff ef fun g hs => wpAny_bind (wpAny_entryPlaceOf fun pl hpl => ?_))
  unfold EntryCells.newEntry newFields
  refine wpAny_bind (wpAny_newObj_type ?_ (hpl.sizeOk5 _ _ _ _ _))
  have eo1 : g.get? e = some o := (hs.2.1 e eno).trans eo
  have kb1 : B.StaysIn g := fun b u hb => (hs.2.1 b fun hm => by rw [(ff.mem hm).1] at hb; cases hb).trans (kb b u hb)
  have eo2 := Heap.get?_push_of_some (h := g) (tbObj head L pl) eo1
  have nT : g.objs.size ≠ e := Nat.ne_of_gt (Heap.lt_size eo1)
  have d3 := Obj.data_mapFields ed (·.setIfInBounds 1 (Value.ref g.objs.size))
  have eo3 := Heap.get?_update_self (Obj.mapFields (·.setIfInBounds 1 (Value.ref g.objs.size))) eo2 (Obj.isFreed_of_fields d3)
  have tb3 := (Heap.get?_update_other (g.push (tbObj head L pl)) (Obj.mapFields (·.setIfInBounds 1 (Value.ref g.objs.size))) (Ne.symm nT)).trans (Heap.get?_push_size g rfl)
  have stay : ∀ b u, b ≠ e → g.get? b = some u → ((g.push (tbObj head L pl)).update e (Obj.mapFields (·.setIfInBounds 1 (Value.ref g.objs.size)))).get? b = some u := fun b u hbe hb =>
    (Heap.get?_update_other _ _ (Ne.symm hbe)).trans (Heap.get?_push_of_some _ hb)
  have noE : ∀ b u, s.heap.get? b = some u → (∀ ws, u.data ≠ .fields ws) → b ≠ e := fun b u hb hnf q => by
    rw [q, eo] at hb
    cases hb
    exact hnf vs ed
  refine wpAny_setField eo2 ed n1 (k _ ⟨fun b u hb => stay b u (fun q => by rw [q, en] at hb; cases hb) (kb1 b u hb), ff.of_keeps fun b u hb hnf => ?_, ?_, fun b u hb hnf => ?_⟩ ⟨_, _, eo3, d3, ?_⟩)
  · obtain ⟨sl, hq⟩ := hs.2.2 b u hb
    exact ⟨_, stay b _ (noE b u hb hnf) hq, rfl⟩
  · refine ⟨_, _, g.objs.size, _, _, eo3, ⟨Obj.cls_mapFields _ _, ?_⟩, d3, by simp [n1], kb1.fresh, nT, tb3, rfl, ?_⟩
    · rw [Array.getElem?_setIfInBounds_ne (by decide)]; exact z0
    · rcases hpl with rfl | ⟨_, _, _, _, _, _, _, rfl⟩ <;> simp
  · obtain ⟨sl, hq⟩ := hs.2.2 b u hb
    exact ⟨sl, stay b _ (noE b u hb hnf) hq⟩
  · rw [Array.getElem?_setIfInBounds_ne (by decide)]; exact z2
theorem Lone.sees {h : Heap} (l : Lone h e) (t : h.TracedW B e cls a0) : ∃ oe vs T oT ts, h.get? e = some oe ∧ oe.cls = cls ∧ vs[0]? = some a0 ∧ vs[2]? = some .none ∧ oe.data = .fields vs ∧ vs[1]? = some (.ref T) ∧ B.get? T = none ∧ T ≠ e ∧ h.get? T = some oT ∧ oT.data = .fields ts ∧ ts[3]? = some .none := by
  obtain ⟨o, vs, h1, h2, h3⟩ := l
  obtain ⟨oe, ws, T, oT, ts, g1, ⟨g2, g3⟩, g4, g5, g6, g7, g8, g9, g10⟩ := t
  rw [h1] at g1
  cases g1
  rw [h2] at g4
  cases g4
  exact ⟨o, vs, T, oT, ts, h1, g2, g3, h3, h2, g5, g6, g7, g8, g9, g10⟩
theorem note_lone {Q : Unit → Shared → Prop} (fr : A.frames = some (env :: outer)) (ef : env.frame = some L) (fl : Heap.FlyingW B (env :: outer) e cls a0 s.heap) (l : Lone s.heap e)
    (k : ∀ h', Heap.HeldW B (env :: outer) e cls a0 L h' → s.heap.UpToSlots h' → Lone h' e → Q () { s with heap := h' }) : wpAny M A (noteFrame (.ref e) env) Q E s := by
  obtain ⟨kb, en, ff, t⟩ := fl
  obtain ⟨oe, vs, T, oT, ts, eo, rfl, z0, z2, ed, z1, tn, nT, et, dT, z3⟩ := l.sees t
  unfold noteFrame
  simp only [ef]
  refine wpAny_bind (wpAny_field eo ed z1 ?_)
  rw [if_pos (by simp)]
  refine wpAny_bind (wpAny_field et dT z3 ?_)
  rw [if_neg (by simp [rawInt])]
  refine wpAny_bind (wpAny_setField et dT (Array.getElem?_eq_some_iff.mp z3).1 ?_)
  have oth : ∀ b, b ≠ T → (s.heap.update T (Obj.mapFields (·.setIfInBounds 3 Value.none))).get? b = s.heap.get? b := fun b hb => Heap.get?_update_other _ _ (Ne.symm hb)
  have noT : ∀ b u, s.heap.get? b = some u → (∀ ws, u.data ≠ .fields ws) → b ≠ T := fun b u hb hnf q => by
    rw [q, et] at hb
    cases hb
    exact hnf ts dT
  refine entry_lone fr (ff.of_keeps fun b u hb hnf => ⟨u, (oth b (noT b u hb hnf)).trans hb, rfl⟩) ef ((oth e (Ne.symm nT)).trans eo) (fun b u hb => (oth b fun q => by rw [q, tn] at hb; cases hb).trans (kb b u hb)) en ed z0 z2 fun h' ⟨x1, x2, x3, x4⟩ l' => ?_
  exact k h' ⟨x1, en, x2, x3⟩ (fun b u hb hnf => x4 b u ((oth b (noT b u hb hnf)).trans hb) hnf) l'
theorem land_lone {fl : Value} {l : List Env} {Q : Unit → Shared → Prop} (kb : B.StaysIn s.heap) (en : B.get? e = none) (ff : s.heap.FunFrames B l) (t : s.heap.TracedAtW B e cls a0 fl) (lo : Lone s.heap e)
    (k : ∀ h', Heap.FlyingW B l e cls a0 h' → s.heap.UpToSlots h' → Lone h' e → Q () { s with heap := h' }) : wpAny M A (setFlight (.ref e) none) Q E s := by
  obtain ⟨o, vs, h1, h2, h3⟩ := lo
  obtain ⟨oe, ws, T, oT, ts, g1, g2, g4, g5, g6, g7, g8, g9, g10⟩ := t
  rw [h1] at g1
  cases g1
  rw [h2] at g4
  cases g4
  have sz : 3 < ts.size := (Array.getElem?_eq_some_iff.mp g10).1
  have oth : ∀ b, b ≠ T → (s.heap.update T (Obj.mapFields (·.setIfInBounds 3 ((none : Option Addr).elim Value.none fun f => rawInt f)))).get? b = s.heap.get? b := fun b hb => Heap.get?_update_other _ _ (Ne.symm hb)
  have noT : ∀ b u, s.heap.get? b = some u → (∀ ws, u.data ≠ .fields ws) → b ≠ T := fun b u hb hnf q => by
    rw [q, g8] at hb
    cases hb
    exact hnf ts g9
  have e' := (oth e (Ne.symm g7)).trans h1
  unfold setFlight
  refine wpAny_bind (wpAny_field h1 h2 g5 ?_)
  rw [if_pos (by simp)]
  refine wpAny_setField g8 g9 sz (k _ ⟨fun b u hb => (oth b fun q => by rw [q, g6] at hb; cases hb).trans (kb b u hb), en, ff.of_keeps fun b u hb hnf => ⟨u, (oth b (noT b u hb hnf)).trans hb, rfl⟩, ?_⟩ (fun b u hb hnf => ⟨u.slots, (oth b (noT b u hb hnf)).trans hb⟩) ⟨o, vs, e', h2, h3⟩)
  exact ⟨o, vs, T, _, _, e', g2, h2, g5, g6, g7, Heap.get?_update_self _ g8 (Obj.isFreed_of_fields (Obj.data_mapFields g9 _)), Obj.data_mapFields g9 _, by simp [sz]⟩
theorem leave_lone {Q : Unit → Shared → Prop} (fr : A.frames = some (env :: outer)) (ef : env.frame = some L) (fl : Heap.FlyingW B (env :: outer) e cls a0 s.heap) (l : Lone s.heap e)
    (k : ∀ h', Heap.FlyingW B (env :: outer) e cls a0 h' → s.heap.UpToSlots h' → Lone h' e → Q () { s with heap := h' }) : wpAny M A (leaving env (.ref e)) Q E s := by
  unfold leaving
  refine wpAny_bind (note_lone fr ef fl l fun g hh sm l' => ?_)
  obtain ⟨f1, f2, f3, f4⟩ := hh
  exact land_lone (s := { s with heap := g }) f1 f2 f3 f4 l' fun h' a1 a2 a3 => k h' a1 (sm.trans a2) a3
theorem leave_made {o : Obj} {vs : Array Value} {Q : Unit → Shared → Prop} (fr : A.frames = some (env :: outer)) (ff : s.heap.FunFrames B (env :: outer)) (ef : env.frame = some L) (eo : s.heap.get? e = some o) (kb : B.StaysIn s.heap) (en : B.get? e = none) (ed : o.data = .fields vs) (z0 : vs[0]? = some a0) (z1 : vs[1]? = some .none) (z2 : vs[2]? = some .none)
    (k : ∀ h', Heap.FlyingW B (env :: outer) e o.cls a0 h' → s.heap.UpToSlots h' → Lone h' e → Q () { s with heap := h' }) : wpAny M A (leaving env (.ref e)) Q E s := by
  unfold leaving noteFrame
  simp only [ef]
  refine wpAny_bind (wpAny_bind (wpAny_field eo ed z1 ?_))
  rw [if_neg (by decide)]
  refine entry_lone fr ff ef eo kb en ed z0 z2 fun g hn l' => ?_
  obtain ⟨f1, f3, f4, sm⟩ := hn
  exact land_lone (s := { s with heap := g }) f1 en f3 f4 l' fun h' a1 a2 a3 => k h' a1 (Heap.UpToSlots.trans sm a2) a3
end
end L2
namespace L2
open PySem PySem.Spec PyProof.Rows
theorem ObjOk.here {P : Program} {w : World} {H : Hp} {h : Heap} {a : Addr} {o : HO} (x : ObjOk P w H h a o) : ∃ ob, h.get? a = some ob := by
  cases o with
  | lst xs => obtain ⟨_, _, _, _, e⟩ := x; exact ⟨_, e⟩
  | tup xs => obtain ⟨_, _, _, ob, e, _⟩ := x; exact ⟨_, e⟩
  | dK kvs => obtain ⟨_, _, _, _, o, _, _, e, _⟩ := x; exact ⟨_, e⟩
  | dT kvs => obtain ⟨_, _, _, _, o, _, _, e, _⟩ := x; exact ⟨_, e⟩
  | set S n => obtain ⟨o, _, _, _, e, _⟩ := x; exact ⟨_, e⟩
  | ins C dx fs => obtain ⟨_, _, _, e, _⟩ := x; exact ⟨_, e⟩
  | own y => obtain ⟨_, e⟩ := x; exact ⟨_, e⟩
  | xd fs => obtain ⟨_, ⟨_, _, _, e, _⟩, _⟩ := x; exact ⟨_, e⟩
  | rng lo hi => obtain ⟨_, _, _, e⟩ := x; exact ⟨_, e⟩
  | frz ob u => obtain ⟨e, _⟩ := x; exact ⟨_, e⟩
  | tbl ps => exact ⟨_, (show h.get? a = some _ from x)⟩
  | met f y => exact ⟨_, (show h.get? a = some _ from x)⟩
  | ext φ => obtain ⟨_, ⟨_, e⟩, _⟩ := x; exact ⟨_, e⟩
structure Fly (P : Program) (w : World) (fr : List Env) (H : Hp) (h : Heap) (e : Addr) (cls a0 : Value) (B : Heap) (H' : Hp) (h' : Heap) : Prop where
  un : Un (frs fr) [] H H' h h'
  hok : HOk P w H' h'
  fl : Heap.FlyingW B fr e cls a0 h'
  old : ∀ b o o', h.get? b = some o → b ∉ frs fr → h'.get? b = some o' → B.get? b = some o'
  trk : ∀ b u o', H' b = some u → h'.get? b = some o' → B.get? b = some o'
  frf : ∀ b ∈ frs fr, H' b = none
  lo : Lone h' e
section
variable {P : Program} {w : World} {fr : List Env} {H H' : Hp} {h h' h'' : Heap} {e : Addr} {cls a0 : Value} {B : Heap}
theorem Fly.move0 (fun_ : Un (frs fr) [] H H' h h') (fhok : HOk P w H' h') (ff : h'.FunFrames B fr) (fold : ∀ b o o', h.get? b = some o → b ∉ frs fr → h'.get? b = some o' → B.get? b = some o')
    (ftrk : ∀ b u o', H' b = some u → h'.get? b = some o' → B.get? b = some o') (ffrf : ∀ b ∈ frs fr, H' b = none) (fl : Heap.FlyingW B fr e cls a0 h'') (sm : h'.UpToSlots h'') (lo : Lone h'' e) : Fly P w fr H h e cls a0 B H' h'' where
  un := by
    refine ⟨fun b o q n hb hx => ?_, fun b o q n hb hx => ?_, fun_.free, fun b o q hx => ?_, fun_.tups, fun_.frzs, fun_.tbls⟩
    · have e1 := fun_.keep b o q n hb hx
      exact fl.1 b o (fold b o o q hb e1)
    · obtain ⟨sl, e1⟩ := fun_.slot b o q n hb hx
      obtain ⟨_, o1, e2, nf⟩ := ff.mem hb
      rw [e1] at e2; cases e2
      obtain ⟨sl', e3⟩ := sm b _ e1 nf
      exact ⟨sl', e3⟩
    · obtain ⟨o1, e1⟩ := fun_.there b o q hx
      by_cases hb : b ∈ frs fr
      · obtain ⟨_, o2, e2, nf⟩ := ff.mem hb
        rw [e1] at e2; cases e2
        obtain ⟨sl', e3⟩ := sm b _ e1 nf
        exact ⟨_, e3⟩
      · exact ⟨o1, fl.1 b o1 (fold b o o1 q hb e1)⟩
  hok := fun a o q => (fhok a o q).stay (fun b u hb z => by
      rcases hb with rfl | hb
      · exact fl.1 b u (ftrk b _ u q z)
      · exact fl.1 b u (ftrk b _ u hb z)) (fun _ z => z) fun _ _ z => z
  fl := fl
  old := fun b o o' q hb z => by
    obtain ⟨o1, e1⟩ := fun_.there b o q (by simp)
    have e2 := fold b o o1 q hb e1
    have e3 := fl.1 b o1 e2
    rw [z] at e3; cases e3
    exact e2
  trk := fun b u o' q z => by
    obtain ⟨o1, e1⟩ := (fhok b u q).here
    have e2 := ftrk b u o1 q e1
    have e3 := fl.1 b o1 e2
    rw [z] at e3; cases e3
    exact e2
  frf := ffrf
  lo := lo
theorem Fly.move (F : Fly P w fr H h e cls a0 B H' h') (fl : Heap.FlyingW B fr e cls a0 h'') (sm : h'.UpToSlots h'') (lo : Lone h'' e) : Fly P w fr H h e cls a0 B H' h'' := Fly.move0 F.un F.hok F.fl.2.2.1 F.old F.trk F.frf fl sm lo
theorem Fly.out {X : Cx} {pins : List (Addr × Obj)} {σ : St} {s : Shared} (I : Inv X pins σ H s) (hst : X.stack = X.env :: X.outer) (hex : X.ex = []) (F : Fly P w X.stack H s.heap e cls a0 B H' h') : Fly P w X.outer X.H₀ X.s₀.heap e cls a0 B H' h' := by
  have nx : ∀ b : Addr, b ∉ X.ex := fun b z => by rw [hex] at z; cases z
  have ns : ∀ b o, X.s₀.heap.get? b = some o → b ∉ frs X.outer → b ∉ frs X.stack := fun b o q hb z => by
    rcases List.mem_cons.mp (I.stkSub b z) with r | r
    · subst r
      exact absurd (Nat.lt_of_lt_of_le (Heap.lt_size q) I.ok.above) (Nat.lt_irrefl _)
    · exact hb r
  have so : ∀ b ∈ frs X.outer, b ∈ frs X.stack := fun b z => by
    rw [hst]
    unfold frs at z ⊢
    rw [List.filterMap_cons]
    split
    · exact z
    · exact List.mem_cons_of_mem _ z
  refine ⟨⟨fun b o q n hb hx => ?_, fun b o q n hb hx => ?_, fun b o q n hx => ?_, fun b o q hx => ?_, fun b xs q => F.un.tups b xs (I.base.tups b xs q), fun b o u q => F.un.frzs b o u (I.base.frzs b o u q), fun b ps q => ?_⟩, F.hok, ?_, fun b o o' q hb z => ?_, F.trk, fun b hb => F.frf b (so b hb), F.lo⟩
  · exact F.un.keep b o (I.base.keep b o q n hb (nx b)) (I.base.free b o q n (nx b)) (ns b o q hb) (by simp)
  · obtain ⟨sl, e1⟩ := I.base.slot b o q n hb (nx b)
    obtain ⟨sl', e2⟩ := F.un.any e1 (I.base.free b o q n (nx b)) (by simp)
    exact ⟨sl', e2⟩
  · obtain ⟨o1, e1⟩ := I.base.there b o q (nx b)
    exact F.un.free b o1 e1 (I.base.free b o q n (nx b)) (by simp)
  · obtain ⟨o1, e1⟩ := I.base.there b o q (nx b)
    exact F.un.there b o1 e1 (by simp)
  · obtain ⟨m1, e1⟩ := I.base.tbls b ps q
    obtain ⟨m2, e2⟩ := F.un.tbls b _ e1
    exact ⟨m1 ++ m2, by rw [e2, Array.append_assoc]⟩
  · have f := F.fl
    rw [hst] at f
    exact ⟨f.1, f.2.1, f.2.2.1.2.2, f.2.2.2⟩
  · obtain ⟨o1, e1⟩ := I.base.there b o q (nx b)
    exact F.old b o1 o' e1 (ns b o q hb) z
end
def CX1 (P : Program) (w : World) : CXT := fun fr H s E ev s' => ∃ (e : Addr) (cls a0 : Value) (B : Heap) (H' : Hp), ev = .ref e ∧ s'.os = s.os ∧ AllBare s'.gens ∧ Fly P w fr H s.heap e cls a0 B H' s'.heap ∧ E cls none H'
section
variable {P : Program} {w : World} {K : PySem.W.Frag} {mg : Str → Option Value} {base : Heap} {N : List Str} {qual : Str} {scope : Scope} {f : Addr} {cdv : Value} {A : Around} {outer : List Env} {s : Shared} {H : Hp} {E : XK}
abbrev cx1 (P : Program) (w : World) (K : PySem.W.Frag) (mg : Str → Option Value) (base : Heap) (N : List Str) (qual : Str) (scope : Scope) (f : Addr) (cdv : Value) (A : Around) (outer : List Env) (s : Shared) (H : Hp) (E : XK) : Cx := cxOf (CX1 P w) P w K mg base N qual scope f cdv A outer s H E
theorem pass1 : Passes (CX1 P w) (cx1 P w K mg base N qual scope f cdv A outer s H E) E := by
  intro pins σ H₁ s₁ ev s' I h
  obtain ⟨e, cls, a0, B, H', rfl, os, bare, F, q⟩ := h
  show wpAny _ _ (leaving _ (.ref e)) _ _ s'
  refine leave_lone (B := B) I.ok.frames rfl F.fl F.lo fun h'' fl sm lo => ?_
  exact ⟨e, cls, a0, B, H', rfl, os.trans I.os, bare, Fly.out I rfl rfl (F.move fl sm lo), q⟩
theorem leaves1 {pins : List (Addr × Obj)} {σ : St} {H₁ : Hp} {s₁ : Shared} {h' : Heap} {e : Addr} {cls : Value} {args : List Value} (I : Inv (cx1 P w K mg base N qual scope f cdv A outer s H E) pins σ H₁ s₁)
    (M : Heap.MadeExcOf s₁.heap h' e cls args) (q : E cls none H₁) : (cx1 P w K mg base N qual scope f cdv A outer s H E).xe (.ref e) { s₁ with heap := h' } := by
  obtain ⟨t, he, htn, ht⟩ := M.there
  show wpAny _ _ (leaving _ (.ref e)) _ _ _
  have st := I.stack
  have ff := PySem.W.funFrames_hide (as := frs (cx1 P w K mg base N qual scope f cdv A outer s H E).stack) st fun env hm a ha => List.mem_filterMap.mpr ⟨env, hm, ha⟩
  have hen : (PySem.W.hideAll s₁.heap (frs (cx1 P w K mg base N qual scope f cdv A outer s H E).stack)).get? e = none := by
    cases z : (PySem.W.hideAll s₁.heap (frs (cx1 P w K mg base N qual scope f cdv A outer s H E).stack)).get? e with
    | none => rfl
    | some o => have := PySem.W.of_hideAll _ z; rw [M.new] at this; cases this
  refine leave_made (B := PySem.W.hideAll s₁.heap (frs (cx1 P w K mg base N qual scope f cdv A outer s H E).stack)) (a0 := .ref t) I.ok.frames (ff.of_keeps fun b o hb _ => ⟨o, M.keeps b o hb, rfl⟩) rfl he (fun b o z => M.keeps b o (PySem.W.of_hideAll _ z)) hen rfl rfl rfl rfl fun h'' fl k4 lo => ?_
  refine ⟨e, cls, .ref t, PySem.W.hideAll s₁.heap (frs (cx1 P w K mg base N qual scope f cdv A outer s H E).stack), H₁, rfl, I.os, I.bare, Fly.out I rfl rfl (Fly.move0 (h' := h') (Un.kept M.keeps) (I.hok.kept M.keeps) (ff.of_keeps fun b o hb _ => ⟨o, M.keeps b o hb, rfl⟩) (fun b o o' z hb zz => ?_) (fun b u o' z zz => ?_) I.stkFree fl k4 lo), q⟩
  · have := M.keeps b o z
    rw [zz] at this; cases this
    exact PySem.W.hideAll_get _ z hb
  · obtain ⟨o1, e1⟩ := (I.hok b u z).here
    have := M.keeps b o1 e1
    rw [zz] at this; cases this
    exact PySem.W.hideAll_get _ e1 fun hb => by rw [I.stkFree b hb] at z; cases z
end
end L2
namespace L2
open PySem PySem.Spec PyProof.Rows
abbrev bmV : List Value := [.type "ValueError", .type "Exception", .type "BaseException", .type "object"]
abbrev ExcC (K : PySem.W.Frag) (C : Addr) : Prop := PySem.W.excIn K C bmV "ValueError.__new__" = true
theorem own_in {K : PySem.W.Frag} {h : Heap} {mg : Str → Option Value} {x : Str} {C : Addr} {bmB : List Value} {newId : String} (X : K.In h) (hm : mg x = some (.ref C)) (q : PySem.W.excIn K C bmB newId = true) : OwnCls x C bmB newId mg h := by
  refine ⟨hm, ?_⟩
  unfold PySem.W.excIn at q
  split at q
  · rename_i dd cd sl ho
    split at q
    · rename_i C' bm k0 k1 k2 k3 n k5 hm hs
      simp only [Bool.and_eq_true, beq_iff_eq, Bool.not_eq_true'] at q
      obtain ⟨⟨⟨⟨⟨rfl, rfl⟩, hdel⟩, ht⟩, hok⟩, hni⟩ := q
      obtain ⟨nm, bs, mro, ns, qn, hd, sn, sub, ab, col, del⟩ := cd
      dsimp only at hm hdel hok hni
      subst hm hdel
      have hsl : sl = #[k0, k1, k2, k3, some (.builtin n), k5] := by
        obtain ⟨l⟩ := sl
        simp only at hs
        rw [hs]
      subst hsl
      exact ⟨bm, ns, nm, qn, bs, hd, sn, sub, ab, col, dd, k0, k1, k2, k3, k5, _, X _ _ ho, .of_isNs (PySem.W.isNs_of_in X hok), PySem.W.nsMap_none_of_in X hok hni, PySem.W.tail_of_in X ht⟩
    · cases q
  · cases q
def tRaise (E : XK) (cls : Value) (ta : TA) : TS := fun _ σ H => ta σ H fun vs H1 => vs.length ≤ sizeLine ∧ E cls none H1
section
variable {X : Cx} {E : XK} {C : Addr} {x : Str} {np cpos pos : Pos} {e₀ : Expr} {rest : List Expr} {ta : TA}
def Lvs (X : Cx) (E : XK) : Prop := ∀ (pins : List (Addr × Obj)) (σ : St) (H : Hp) (s : Shared) (h' : Heap) (e : Addr) (cls : Value) (args : List Value), Inv X pins σ H s → Heap.MadeExcOf s.heap h' e cls args → E cls none H → X.xe (.ref e) { s with heap := h' }
theorem ps_raise (L : Lvs X E) (O : ExcC X.K C) (hc : X.calm = true) (hg : Gl X x) (hm : X.mg x = some (.ref C)) (ha : PA X (e₀ :: rest) ta) (hdb : (x == ("__debug__" : Str)) = false := by decide)
    (he : starEach (e₀ :: rest) X.env = (false, eval e₀ X.env) :: starEach rest X.env := by rfl) (hpl : (backTo cpos (starEach rest X.env)).any (·.1) = false := by rfl) :
    PS X (.Raise (some (.Call (.Name x np) (e₀ :: rest) [] cpos)) none pos) (tRaise E (.ref C) ta) := by
  intro pins s σ H D I h
  obtain ⟨tl, N, nm, q, bs, hdct, sn, sub, ab, col, dd, k0, k1, k2, k3, k5, mN, hC, hN, hni, T⟩ := (own_in I.mod.kin hm O).obj
  refine wpAny_Raise_call_subT (C := C) (nm := nm) (q := q) (N := N) (bs := bs) (bm := tl) (hdct := hdct) (sn := sn) (sub := sub) (ab := ab) (col := col) (dd := dd) (k0 := k0) (k1 := k1) (k2 := k2) (k3 := k3) (k5 := k5)
    PySem.F.excBase_ValueError (mN := mN) (T.hasType (by decide)) (I.ok.hd hc) (by rw [he]; show (false || (backTo cpos (starEach rest X.env)).any (·.1)) = false; rw [hpl]; rfl) hni (ld_glob I hg hm ⟨rfl, ?_⟩ hdb)
  have hq := ha cpos pins s σ H _ I h
  rw [he] at hq ⊢
  refine Calls.evalArgs_plain (wpAny_mono hq (fun us s₂ h₂ => ?_) fun _ _ y => y)
  obtain ⟨vs, H2, I2, r, z, ez⟩ := h₂
  refine ⟨rfl, by rw [← r.length]; exact z, I2.bk _ _ hC, hN.keeps I2.bk, T.keeps I2.bk, fun h' e M => L pins σ H2 s₂ h' e _ _ I2 M ez⟩
end
section
variable {P : Program} {w : World} {K : PySem.W.Frag} {mg : Str → Option Value} {base : Heap} {N : List Str} {qual : Str} {scope : Scope} {f : Addr} {cdv : Value} {A : Around} {outer : List Env} {s : Shared} {H : Hp} {E : XK}
theorem lvs1 : Lvs (cx1 P w K mg base N qual scope f cdv A outer s H E) E := fun _ _ _ _ _ _ _ _ I M q => leaves1 I M q
theorem own1 : PassesOwn (model P w) (cx1 P w K mg base N qual scope f cdv A outer s H E).A (cx1 P w K mg base N qual scope f cdv A outer s H E).env (cx1 P w K mg base N qual scope f cdv A outer s H E).xe := PassesOwn.leaving
theorem Fun.okX {x qual : Str} {st : Stmt} {f : Addr} {fd : FuncData} {N ps : List Str} {k : Nat} {sp : Sp} (F : Fun K x qual st f fd) (S : FnScope N ps (defScope st)) (len : ∀ vs H Q E, sp vs H Q E → vs.length = ps.length)
    (hbody : ∀ (cdv : Value) (A : Around) (outer : List Env) (s : Shared) (H : Hp) (vs : List V) (Q : VK) (E : XK), Room k (A.deeper (envOfC qual (defScope st) s.heap.objs.size f cdv)) → sp vs H Q E →
      ∃ t, PSs (cx1 P w K mg base N qual (defScope st) f cdv A outer s H E) (defBody st) t ∧ t { nx := fun _ H' => Q .non H', rt := Q } (start N vs) H) : FnOk P w K mg base (CX1 P w) (k + 1) f fd ps sp := by
  obtain ⟨oc, od, kV, doc, pm, an, cdv, ct, osl, rfl, lk, hcd⟩ := F.ex
  exact fn_of lk hcd S len fun A outer s H vs Q E hr hsp => hbody cdv A outer s H vs Q E hr hsp
end
end L2
namespace L2
open PySem PySem.Spec PyProof.Rows PySem.W PySem.Builtin PySem.Builtin.ObjectAttr PySem.Builtin.Getset_descriptor
structure ExcI (K : Frag) (C : Addr) : Prop where
  ga : findIn K (.ref C) "__getattribute__" = some (some (.builtin "BaseException.__getattribute__"))
  gt : findIn K (.ref C) "__getattr__" = some none
  fd : findIn K (.ref C) "__class__" = some (some (.builtin "object.__class__"))
  sp : specialIn K (.builtin "object.__class__") "__get__" = some (some (.builtin "getset_descriptor.__get__"))
  tk : takesIn K (.builtin "object.__class__") = some true
  mo : mroIn K C (.type "object") = some true
  mb : mroIn K C (.type "BaseException") = some true
  cl : (clsIn K C).isSome = true
def EAt (h : Heap) (x C : Addr) : Prop := ∃ ox, h.get? x = some ox ∧ ox.cls = .ref C ∧ ∃ vs, ox.data = .fields vs ∧ vs[2]? = some .none
theorem EAt.type {M : Model} {h : Heap} {x C : Addr} (I : EAt h x C) : Looks M h (typeOf (.ref x)) (.ref C) := by
  obtain ⟨ox, h1, h2, _⟩ := I
  exact h2 ▸ (Looks.ld h1).andThen .now
end L2
namespace L2
open PySem PySem.Spec PyProof.Rows PySem.W
structure ExcM (K : Frag) (C D : Addr) (b : Bool) : Prop where
  ty : typeIn K (.ref D) = some (.type "type")
  cd : (clsIn K D).isSome = true
  mb : mroIn K D (.type "BaseException") = some true
  mc : mroIn K C (.ref D) = some b
section
variable {M : Model} {A : Around} {E : Value → Shared → Prop} {s : Shared} {K : Frag} {e C D : Addr} {b : Bool}
theorem isType_in {h : Heap} (X : K.In h) (c : (clsIn K D).isSome = true) : Looks M h (isType (.ref D)) true := by
  obtain ⟨cdD, hcD⟩ := Option.isSome_iff_exists.mp c
  unfold clsIn at hcD
  split at hcD
  · rename_i c' d' cd' sl' ho
    intro A' Q' E' s' k q
    unfold isType loadHead
    exact wpAny_bind (wpAny_loadPart (k _ _ (X _ _ ho)) (wpAny_pure q))
  · cases hcD
theorem exc_matches {Q : Bool → Shared → Prop} (m : ExcM K C D b) (X : K.In s.heap) (I : EAt s.heap e C) (hq : Q b s) : wpAny M A (excMatches (.ref e) (.ref D)) Q E s := by
  obtain ⟨h, g, d, t, os⟩ := s
  have L1 : Looks M h (isInstance (.ref D) (.type "tuple")) false := (looks_typeIn X m.ty).andThen (Looks.of_pure tc_notTuple)
  have L2 := isType_in (M := M) X m.cd
  have L3 := looks_mroIn (M := M) X m.mb
  have L4 := I.type (M := M)
  have L5 := looks_mroIn (M := M) X m.mc
  have L6 : Looks M h (isExcClass (.ref D)) true := L2.andThen L3
  unfold excMatches
  refine wpAny_bind (L1.at ?_)
  rw [if_neg Bool.false_ne_true]
  refine wpAny_bind (wpAny_pure ?_)
  simp only [List.forIn_cons, List.forIn_nil]
  refine wpAny_bind (wpAny_bind (wpAny_bind (L6.at ?_)))
  simp only [Bool.not_true, Bool.false_eq_true, if_false]
  refine wpAny_pure (wpAny_pure (wpAny_bind (L4.at ?_)))
  refine wpAny_bind (wpAny_bind (wpAny_bind (L5.at ?_)))
  cases b
  · exact wpAny_pure (wpAny_pure (wpAny_pure hq))
  · exact wpAny_pure (wpAny_pure (wpAny_pure hq))
end
def Held (X : Cx) (pins : List (Addr × Obj)) (σ : St) (H : Hp) (s : Shared) (e : Addr) (cls : Value) : Prop :=
  ∃ (H₁ : Hp) (s₁ : Shared) (B : Heap) (a0 : Value), Inv X pins σ H₁ s₁ ∧ s.os = s₁.os ∧ AllBare s.gens ∧ Fly X.prog X.w X.stack H₁ s₁.heap e cls a0 B H s.heap
section
variable {X : Cx} {pins : List (Addr × Obj)} {σ : St} {H : Hp} {s : Shared} {e : Addr} {cls : Value}
theorem Held.inv (h : Held X pins σ H s e cls) : Inv X pins σ H s := by
  obtain ⟨H₁, s₁, B, a0, I, os, bare, F⟩ := h
  exact I.call' (ch := []) os F.un F.hok bare fun b z => absurd z (by simp)
theorem Held.eat {C : Addr} (h : Held X pins σ H s e (.ref C)) : EAt s.heap e C := by
  obtain ⟨H₁, s₁, B, a0, I, os, bare, F⟩ := h
  obtain ⟨o, h1, h2⟩ := F.fl.there
  obtain ⟨o', vs, g1, g2, g3⟩ := F.lo
  rw [h1] at g1
  cases g1
  exact ⟨o, h1, h2, vs, g2, g3⟩
theorem Held.free (h : Held X pins σ H s e cls) : H e = none := by
  obtain ⟨H₁, s₁, B, a0, I, os, bare, F⟩ := h
  cases q : H e with
  | none => rfl
  | some u =>
    obtain ⟨o, ho⟩ := (F.hok e u q).here
    have := F.trk e u o q ho
    rw [F.fl.2.1] at this; cases this
theorem Held.lands {M : Model} {A : Around} {E : Value → Shared → Prop} {Q : Unit → Shared → Prop} (h : Held X pins σ H s e cls) (k : ∀ h', Held X pins σ H { s with heap := h' } e cls → Q () { s with heap := h' }) : wpAny M A (setFlight (.ref e) none) Q E s := by
  obtain ⟨H₁, s₁, B, a0, I, os, bare, F⟩ := h
  exact land_lone F.fl.1 F.fl.2.1 F.fl.2.2.1 F.fl.2.2.2.at F.lo fun h' fl sm lo => k h' ⟨H₁, s₁, B, a0, I, os, bare, F.move fl sm lo⟩
end
abbrev Xh (X : Cx) (e : Addr) : Cx := { X with A := X.A.mark (some (.ref e)), calm := false, xe := fun _ _ => False }
section
variable {X : Cx} {pins : List (Addr × Obj)} {σ : St} {H : Hp} {s : Shared} {e : Addr} {D : Ends}
theorem Inv.toH (I : Inv X pins σ H s) (e : Addr) : Inv (Xh X e) pins σ H s :=
  ⟨⟨I.ok.mod, I.ok.kind, I.ok.glob, I.ok.blt, I.ok.above, I.ok.inj, I.ok.has, I.ok.cab, (fun h => Bool.noConfusion h), I.ok.frames, I.ok.stk, I.ok.exf, I.ok.bs, I.ok.bsz, I.ok.noex, I.ok.exfs, I.ok.funs, I.ok.frf⟩, I.os, I.bare, I.base, I.loc, I.cell, I.free, I.freeC, I.pin, I.hok, I.len⟩
theorem Inv.ofH (I : Inv (Xh X e) pins σ H s) (ok : X.Ok) : Inv X pins σ H s := ⟨ok, I.os, I.bare, I.base, I.loc, I.cell, I.free, I.freeC, I.pin, I.hok, I.len⟩
theorem SP.ofH {f : Flow} {s' : Shared} (h : SP (Xh X e) pins D f s') (ok : X.Ok) : SP X pins D f s' := by
  cases f with
  | next => obtain ⟨σ', H', I, q⟩ := h; exact ⟨σ', H', I.ofH ok, q⟩
  | brk => obtain ⟨σ', H', I, q⟩ := h; exact ⟨σ', H', I.ofH ok, q⟩
  | cont => obtain ⟨σ', H', I, q⟩ := h; exact ⟨σ', H', I.ofH ok, q⟩
  | ret u => obtain ⟨v, σ', H', I, r, q⟩ := h; exact ⟨v, σ', H', I.ofH ok, r, q⟩
end
abbrev TH := Ends → St → Value → Addr → Hp → Prop
def PH (X : Cx) (hs : List ExceptHandler) (th : TH) : Prop :=
  ∀ (pins : List (Addr × Obj)) (s : Shared) (σ : St) (H : Hp) (D : Ends) (e : Addr) (cls : Value), Held X pins σ H s e cls → th D σ cls e H → wpAny (model X.prog X.w) X.A (handleBy (.ref e) X.env hs) (SP X pins D) X.xe s
def thNil : TH := fun _ _ _ _ _ => False
def tHd (K : Frag) (D : Addr) (ts : TS) (th : TH) : TH := fun Dn σ cls e H => ∃ C b, cls = .ref C ∧ ExcM K C D b ∧ if b = true then ts Dn σ H else th Dn σ cls e H
section
variable {X : Cx} {hs : List ExceptHandler} {th : TH} {ts : TS} {D : Addr} {x n : Str} {np pos : Pos} {b₀ : Stmt} {suite : List Stmt} {i : Nat}
theorem ph_nil : PH X [] thNil := fun _ _ _ _ _ _ _ _ h => h.elim
theorem ph_cons (hg : Gl X x) (hm : X.mg x = some (.ref D)) (hb : ∀ e, PSs (Xh X e) (b₀ :: suite) ts) (hr : PH X hs th) (hdb : (x == ("__debug__" : Str)) = false := by decide) :
    PH X (.ExceptHandler (some (.Name x np)) none (b₀ :: suite) pos :: hs) (tHd X.K D ts th) := by
  intro pins s σ H Dn e cls hh h
  obtain ⟨C, b, rfl, m, h⟩ := h
  have I := hh.inv
  refine wpAny_handleBy_cons (codeAny_handlers_test (ld_glob (X := Xh X e) (I.toH e) hg hm ?_ hdb)) (by intro q; cases q)
  refine exc_matches m I.kIn hh.eat ?_
  cases b with
  | false => exact hr pins s σ H Dn e _ hh (by rw [if_neg Bool.false_ne_true] at h; exact h)
  | true =>
    rw [if_pos rfl] at h
    refine codeAny_handlers_suite (hh.lands fun h' hh' => ?_)
    exact wpAny_mono (hb e pins _ σ H Dn (hh'.inv.toH e) h) (fun f s₂ z => z.ofH I.ok) fun _ _ z => False.elim z
end
def xeT (X : Cx) (pins : List (Addr × Obj)) (Es : St → XK) : Value → Shared → Prop := fun ev s' => ∃ (σ : St) (H₁ : Hp) (s₁ : Shared), Inv X pins σ H₁ s₁ ∧ CX1 X.prog X.w X.stack H₁ s₁ (Es σ) ev s'
abbrev Xt (X : Cx) (pins : List (Addr × Obj)) (Es : St → XK) : Cx := { X with pn := X.pn ++ pins, xe := xeT X pins Es }
def tTry (tb : (St → XK) → TS) (th : TH) : TS := fun D σ H => tb (fun σ' cls _ H' => ∀ e, H' e = none → th D σ' cls e H') D σ H
def tCallT (sp : Sp) (Es : St → XK) (t : TA) : TE := fun σ H Q => t σ H fun vs H1 => sp vs H1 Q (Es σ)
section
variable {X : Cx} {pins : List (Addr × Obj)} {Es : St → XK} {σ : St} {H : Hp} {s : Shared}
theorem Inv.toT (I : Inv X pins σ H s) : Inv (Xt X pins Es) [] σ H s :=
  ⟨⟨I.ok.mod, I.ok.kind, I.ok.glob, I.ok.blt, I.ok.above, I.ok.inj, I.ok.has, I.ok.cab, I.ok.hd, I.ok.frames, I.ok.stk, I.ok.exf, I.ok.bs, I.ok.bsz, I.ok.noex, I.ok.exfs, I.ok.funs, I.ok.frf⟩, I.os, I.bare, I.base, I.loc, I.cell, I.free, I.freeC, fun p hp => I.pin p (by simpa using hp), I.hok, I.len⟩
theorem Inv.ofT {ps' : List (Addr × Obj)} (I : Inv (Xt X pins Es) ps' σ H s) : Inv X pins σ H s :=
  ⟨⟨I.ok.mod, I.ok.kind, I.ok.glob, I.ok.blt, I.ok.above, I.ok.inj, I.ok.has, I.ok.cab, I.ok.hd, I.ok.frames, I.ok.stk, I.ok.exf, I.ok.bs, I.ok.bsz, I.ok.noex, I.ok.exfs, I.ok.funs, I.ok.frf⟩, I.os, I.bare, I.base, I.loc, I.cell, I.free, I.freeC, fun p hp => I.pin p (List.mem_append_left _ hp), I.hok, I.len⟩
theorem SP.ofT {D : Ends} {f : Flow} {s' : Shared} (h : SP (Xt X pins Es) [] D f s') : SP X pins D f s' := by
  cases f with
  | next => obtain ⟨σ', H', I, q⟩ := h; exact ⟨σ', H', I.ofT, q⟩
  | brk => obtain ⟨σ', H', I, q⟩ := h; exact ⟨σ', H', I.ofT, q⟩
  | cont => obtain ⟨σ', H', I, q⟩ := h; exact ⟨σ', H', I.ofT, q⟩
  | ret u => obtain ⟨v, σ', H', I, r, q⟩ := h; exact ⟨v, σ', H', I.ofT, r, q⟩
theorem ps_try {body : List Stmt} {h₀ : ExceptHandler} {hs : List ExceptHandler} {pos : Pos} {tb : (St → XK) → TS} {th : TH} (hb : ∀ pins Es, PSs (Xt X pins Es) body (tb Es)) (hh : PH X (h₀ :: hs) th)
    (hst : X.stack = X.env :: X.outer := by rfl) (hfr : X.env.frame = some X.env.locals := by rfl) : PS X (.Try body (h₀ :: hs) [] [] pos) (tTry tb th) := by
  intro pins s σ H D I h
  refine wpAny_Try_except (wpAny_mono (hb pins _ [] s σ H D I.toT h) (fun f s₁ z => ?_) fun ev s₁ z => ?_)
  · have z := z.ofT
    cases f with
    | next => exact wpAny_execs_nil z
    | brk => exact z
    | cont => exact z
    | ret u => exact z
  · obtain ⟨σ', H₁, s₁', I', e, cls, a0, B, H', rfl, os, bare, F, q⟩ := z
    have ff := I'.ok.frames
    have fl := F.fl
    rw [hst] at ff fl
    refine note_lone ff hfr fl F.lo fun h₄ held sm lo => ?_
    refine land_lone (s := { s₁ with heap := h₄ }) held.1 held.2.1 held.2.2.1 held.2.2.2 lo fun h₅ fl5 sm5 lo5 => ?_
    have hd : Held X pins σ' H' { s₁ with heap := h₅ } e cls := ⟨H₁, s₁', B, a0, I', os, bare, F.move (by rw [hst]; exact fl5) (sm.trans sm5) lo5⟩
    exact hh pins _ σ' H' D e cls hd (q e hd.free)
theorem pe_callT {CXk : Nat} {f : Addr} {fd : FuncData} {ps : List Str} {sp : Sp} {x : Str} {e : Expr} {es : List Expr} {p pos : Pos} {t : TA} (F : FnOk X.prog X.w X.K X.mg X.base (CX1 X.prog X.w) CXk f fd ps sp) (hr : Room CXk X.A) (hg : Gl X x) (hm : X.mg x = some (.ref f)) (hk : PySem.W.keepIn X.K (.ref f) = true) (hb : Binds X.K fd ps [])
    (ha : PA (Xt X pins Es) (e :: es) t) (hdb : (x == ("__debug__" : Str)) = false := by decide) (he : starEach (e :: es) X.env = (false, eval e X.env) :: starEach es X.env := by rfl) (hpl : (backTo pos (starEach es X.env)).any (·.1) = false := by rfl) :
    PE (Xt X pins Es) (.Call (.Name x p) (e :: es) [] pos) (tCallT sp Es t) := by
  intro pins' s σ H Q I h
  refine wpAny_Call_Name_kw (ld_glob I hg hm ?_ hdb)
  refine PySem.W.callWith_K (h₀ := X.base) I.ok.mod.kin hk (thn (ha pos pins' s σ H _ I h) fun us s1 ⟨vs, H1, I1, r, q⟩ => ⟨I1.kIn, ?_⟩) he hpl
  have hl : us.length = ps.length := by rw [← r.length]; exact F.len _ _ _ _ q
  have bb := hb s1 us I1.kIn (by rw [List.append_nil]; exact hl)
  rw [List.append_nil] at bb
  refine wpAny_call (codeAny_mono (F.run X.A X.stack s1 H1 ⟨us, []⟩ us vs Q (Es σ) hr I1.env0 bb r q) fun r s' hq => ?_)
  cases r with
  | error ev => exact ⟨σ, H1, s1, I1.ofT, hq⟩
  | ok fl =>
    cases fl with
    | ret u => exact I1.after hq
    | next => exact False.elim hq
    | brk => exact False.elim hq
    | cont => exact False.elim hq
end
end L2
namespace L2
open PySem PySem.Spec PyProof.Rows
structure RoomH (k : Nat) (A : Around) : Prop where
  gd : A.guards = some []
  dp : A.depth + 3 * k + 5 < recursionLimit
  un : A.units + 16 * k + 200 < cLine
structure FnOkH (P : Program) (w : World) (K : PySem.W.Frag) (mg : Str → Option Value) (base : Heap) (k : Nat) (f : Addr) (fd : FuncData) (ps : List Str) (sp : Sp) : Prop where
  len : ∀ vs H Q E, sp vs H Q E → vs.length = ps.length
  run : ∀ (A : Around) (outer : List Env) (s : Shared) (H : Hp) (args : Args) (us : List Value) (vs : List V) (Q : VK) (E : XK), RoomH k A → Env0 P w K mg base A outer s H → BindsTo s fd args (ps.zip us) → Vals vs us → sp vs H Q E →
    codeAny (model P w) A (.call (.ref f) args) (CR CX0 outer P w H s Q E) s
structure FnAtH (P : Program) (w : World) (K : PySem.W.Frag) (mg : Str → Option Value) (base : Heap) (x : Str) (k : Nat) (ps : List Str) (sp : Sp) : Prop where
  ex : ∃ (f : Addr) (fd : FuncData), FnOkH P w K mg base k f fd ps sp ∧ mg x = some (.ref f) ∧ PySem.W.keepIn K (.ref f) = true ∧ Binds K fd ps []
structure FnAtX (P : Program) (w : World) (K : PySem.W.Frag) (mg : Str → Option Value) (base : Heap) (x : Str) (k : Nat) (ps : List Str) (sp : Sp) : Prop where
  ex : ∃ (f : Addr) (fd : FuncData), FnOk P w K mg base (CX1 P w) k f fd ps sp ∧ mg x = some (.ref f) ∧ PySem.W.keepIn K (.ref f) = true ∧ Binds K fd ps []
section
variable {X : Cx} {x : Str} {k : Nat} {ps : List Str} {sp : Sp} {e : Expr} {es : List Expr} {t : TA} {p pos : Pos}
theorem pe_callX1 {E : XK} (F : FnAtX X.prog X.w X.K X.mg X.base x k ps sp) (hx : Passes (CX1 X.prog X.w) X E) (hr : Room k X.A) (hg : Gl X x) (ha : PA X (e :: es) t) (hdb : (x == ("__debug__" : Str)) = false := by decide +kernel) (he : starEach (e :: es) X.env = (false, eval e X.env) :: starEach es X.env := by rfl) (hpl : (backTo pos (starEach es X.env)).any (·.1) = false := by rfl) :
    PE X (.Call (.Name x p) (e :: es) [] pos) (tCall sp [] E t) := by
  obtain ⟨f, fd, F, hm, hk, hb⟩ := F.ex
  exact pe_call F hr hg hm hk hb .nil hx ha hdb he hpl
theorem pe_callXT {pins : List (Addr × Obj)} {Es : St → XK} (F : FnAtX X.prog X.w X.K X.mg X.base x k ps sp) (hr : Room k X.A) (hg : Gl X x) (ha : PA (Xt X pins Es) (e :: es) t) (hdb : (x == ("__debug__" : Str)) = false := by decide +kernel) (he : starEach (e :: es) X.env = (false, eval e X.env) :: starEach es X.env := by rfl) (hpl : (backTo pos (starEach es X.env)).any (·.1) = false := by rfl) :
    PE (Xt X pins Es) (.Call (.Name x p) (e :: es) [] pos) (tCallT sp Es t) := by
  obtain ⟨f, fd, F, hm, hk, hb⟩ := F.ex
  exact pe_callT F hr hg hm hk hb ha hdb he hpl
end
end L2
namespace L2
open PySem PySem.Spec PyProof.Rows PySem.SeqAt
theorem st_con {c k p es env} : starEach (.Constant c k p :: es) env = (false, eval (.Constant c k p) env) :: starEach es env := rfl
theorem st_name {x p es env} : starEach (.Name x p :: es) env = (false, eval (.Name x p) env) :: starEach es env := rfl
theorem st_bin {a o b p es env} : starEach (.BinOp a o b p :: es) env = (false, eval (.BinOp a o b p) env) :: starEach es env := rfl
theorem st_un {o b p es env} : starEach (.UnaryOp o b p :: es) env = (false, eval (.UnaryOp o b p) env) :: starEach es env := rfl
theorem st_call {f a k p es env} : starEach (.Call f a k p :: es) env = (false, eval (.Call f a k p) env) :: starEach es env := rfl
theorem st_sub {a b p es env} : starEach (.Subscript a b p :: es) env = (false, eval (.Subscript a b p) env) :: starEach es env := rfl
theorem st_list {a p es env} : starEach (.List a p :: es) env = (false, eval (.List a p) env) :: starEach es env := rfl
theorem st_tup {a x p es env} : starEach (.Tuple a x p :: es) env = (false, eval (.Tuple a x p) env) :: starEach es env := rfl
def conV : Expr → Option V
  | .Constant (.int i) _ _ => some (.int i)
  | .Constant (.str s) _ _ => some (.str s)
  | _ => none
def consV : List Expr → Option (List V)
  | [] => some []
  | e :: es => match conV e, consV es with
    | some v, some vs => some (v :: vs)
    | _, _ => none
def tConsts (vs : List V) : TA := fun _ H Q => Q vs H
theorem pa_consts {X : Cx} : ∀ (es : List Expr) (vs : List V), consV es = some vs → PA X es (tConsts vs)
  | [], vs, h => by cases h; exact pa_nil
  | e :: es, vs, h => by
    unfold consV at h
    cases h1 : conV e with
    | none => rw [h1] at h; cases h
    | some v =>
      cases h2 : consV es with
      | none => rw [h1, h2] at h; cases h
      | some ws =>
        rw [h1, h2] at h
        cases h
        have ih := pa_consts (X := X) es ws h2
        unfold conV at h1
        split at h1
        · cases h1
          exact pa_cons pe_int ih st_con
        · cases h1
          exact pa_cons pe_str ih st_con
        · cases h1
end L2
namespace Sw
open PySem L2
def top (i : Nat) : Stmt := PySem.Challenge.pw_swapstars_k65_papers_of_walks.main.body.getD i (.Pass ⟨0, 0, 0, 0⟩)
structure Purse (H : Hp) (p : Addr) (c : Nat) : Prop where
  ex : ∃ (a b d : Int), H p = some (.lst [.int a, .int b, .int d]) ∧ 0 ≤ a ∧ 0 ≤ b ∧ b < 2147483647 ∧ 0 ≤ d ∧ d ≤ c ∧ c ≤ 100000
section
variable {P : Program} {w : World} {K : PySem.W.Frag} {mg : Str → Option Value} {base : Heap}
structure TPurse (mg : Str → Option Value) : Prop where
  b_len : mg "len" = none
  b_abs : mg "abs" = none
  b_int : mg "int" = none
end
end Sw
namespace L2
open PySem
theorem call_list_ofK {X : Cx} {K : PySem.W.Frag} (h : X.K = K) : CallR X (.type "list") (fun xs H Q => ∃ p ys, xs = [.ref p] ∧ (SqL K H p ys ∨ SqT K H p ys) ∧ ∀ l, H l = none → Q (.ref l) (upd H l (.lst ys))) := by subst h; exact call_list_of
theorem call_tuple_ofK {X : Cx} {K : PySem.W.Frag} (h : X.K = K) : CallR X (.type "tuple") (fun xs H Q => ∃ p ys, xs = [.ref p] ∧ ((SqL K H p ys ∧ ∀ l, H l = none → Q (.ref l) (upd H l (.tup ys))) ∨ (SqT K H p ys ∧ Q (.ref p) H))) := by subst h; exact call_tuple_of
end L2
namespace Sw
open PySem L2
def spPlain : Sp := fun vs H Q _ => ∃ (n : Int), vs = [.int n] ∧ 0 ≤ n ∧ n ≤ 1000 ∧ ∀ t H', H t = none → H' t = some (.tup ((ivl 1 (n + 1)).map V.int)) → Same H H' → Q (.ref t) H'
def spEx : Sp := fun vs H Q _ => ∃ (t : Addr) (a b x : Int), vs = [.ref t, .int x] ∧ H t = some (.tup [.int a, .int b]) ∧ Q (.int (swp x (a, b))) H
def spLed : Sp := fun vs H Q _ => ∃ (n : Int) (l : Addr) (es : List V) (row : List (Int × Int)), vs = [.int n, .ref l] ∧ 0 ≤ n ∧ n ≤ 1000 ∧ H l = some (.lst es) ∧ Exs H es row ∧ Good n row ∧ ∀ t H', H t = none → H' t = some (.tup ((ledM n row).map V.int)) → Same H H' → Q (.ref t) H'
structure T1 (mg : Str → Option Value) (K : PySem.W.Frag) : Prop extends TPurse mg where
  b_all : mg "all" = none
  b_isinstance : mg "isinstance" = none
  b_bool : mg "bool" = none
  b_tuple : mg "tuple" = none
  b_list : mg "list" = none
  b_range : mg "range" = none
  k_ib : PySem.W.kitOne K (.type "int") (.type "bool") = some false
theorem take_succ_map {α β : Type} (f : α → β) {l : List α} {i : Nat} {x : α} (h : l[i]? = some x) : (l.take (i + 1)).map f = (l.take i).map f ++ [f x] := by
  rw [List.take_succ, h, List.map_append]; rfl
theorem dict_swp (a b x : Int) (hab : a ≠ b) : (valV (mergeK [] [((Sum.inl a : Key), V.int b), (Sum.inl b, V.int a)]) (Sum.inl x)).getD (V.int x) = V.int (swp x (a, b)) := by
  show (valV (putK (putK [] (Sum.inl a : Key) (V.int b)) (Sum.inl b) (V.int a)) (Sum.inl x)).getD (V.int x) = V.int (swp x (a, b))
  rw [valV_put, valV_put, valV_nil]
  unfold swp
  have l : ∀ p q : Int, ((Sum.inl p : Key) = Sum.inl q) = (p = q) := fun p q => by simp
  simp only [l]
  by_cases h1 : x = b
  · have h2 : ¬ x = a := by omega
    simp [h1, h2]
    intro z; omega
  · by_cases h2 : x = a
    · simp [h1, h2, hab]
    · simp [h1, h2]
theorem SameX.put {p l : Addr} {H H' : Hp} {o : HO} (s : SameX p H H') (h : H l = none) : SameX p H (upd H' l o) := fun b o' hb e => by
  rw [upd_ne (ne_of_none e h)]
  exact s b o' hb e
theorem mem_int {ns : List Int} {i : Nat} {x : V} (h : (ns.map V.int)[i]? = some x) : ∃ z, x = .int z ∧ ns[i]? = some z := by
  rw [List.getElem?_map] at h
  cases e : ns[i]? with
  | none => rw [e] at h; cases h
  | some z => rw [e] at h; exact ⟨z, (Option.some.inj h).symm, rfl⟩
theorem at_int {ns : List Int} {i : Int} {z : Int} (h0 : 0 ≤ i) (h : ns[i.toNat]? = some z) : atI (ns.map V.int) i = some (V.int z) := by
  have e : ((i.toNat : Nat) : Int) = i := Int.toNat_of_nonneg h0
  rw [← e]
  exact atI_nat (by rw [List.getElem?_map, h]; rfl)
theorem get_lt {ns : List Int} {k : Nat} (h : k < ns.length) : ∃ z, ns[k]? = some z := ⟨_, List.getElem?_eq_getElem h⟩
theorem ixN_lt {n : Nat} {i : Int} (h0 : 0 ≤ i) (h : i < n) : ixN n i = some i.toNat := by
  unfold ixN
  rw [if_pos h0, if_pos h]
inductive Lsts (H : Hp) : List V → List (List Int) → Prop
  | nil : Lsts H [] []
  | cons {a : Addr} {ns : List Int} {vs : List V} {r : List (List Int)} : H a = some (.lst (ns.map V.int)) → Lsts H vs r → Lsts H (.ref a :: vs) (ns :: r)
theorem Lsts.length {H : Hp} : ∀ {vs : List V} {r : List (List Int)}, Lsts H vs r → vs.length = r.length
  | _, _, .nil => rfl
  | _, _, .cons _ x => by rw [List.length_cons, List.length_cons, x.length]
theorem Lsts.append {H : Hp} : ∀ {vs ws : List V} {r q : List (List Int)}, Lsts H vs r → Lsts H ws q → Lsts H (vs ++ ws) (r ++ q)
  | _, _, _, _, .nil, y => y
  | _, _, _, _, .cons h x, y => .cons h (x.append y)
def Fresh (H : Hp) (vs : List V) : Prop := vs.Nodup ∧ ∀ v ∈ vs, ∃ a, v = .ref a ∧ H a = none
theorem Fresh.nil {H : Hp} : Fresh H [] := ⟨List.nodup_nil, fun v h => by cases h⟩
def spRf : Sp := fun vs H Q _ => ∃ (t : Addr) (n x : Int) (xs : List Int), vs = [.ref t, .int x] ∧ H t = some (.tup (xs.map V.int)) ∧ Ord n xs ∧ n ≤ 1000 ∧ 1 ≤ x ∧ x ≤ n ∧ ∀ l H', H l = none → H' l = some (.lst ((orb xs x).map V.int)) → Same H H' → Q (.ref l) H'
def spRounds : Sp := fun vs H Q _ => ∃ (t : Addr) (n : Int) (xs : List Int), vs = [.ref t] ∧ H t = some (.tup (xs.map V.int)) ∧ Ord n xs ∧ n ≤ 1000 ∧ ∀ l ws H', H l = none → H' l = some (.lst ws) → Lsts H' ws (rndM n xs) → Fresh H ws → V.ref l ∉ ws → Same H H' → Q (.ref l) H'
theorem iteP {A B : Prop} {b : Bool} (h : b = true) (x : A) : if b = true then A else B := by rw [if_pos h]; exact x
theorem iteE {A B : Prop} {b : Bool} (h : b = false) (x : B) : if b = true then A else B := by rw [h, if_neg Bool.false_ne_true]; exact x
theorem Lsts.eraseIdx {H : Hp} : ∀ {vs : List V} {r : List (List Int)} (k : Nat), Lsts H vs r → Lsts H (vs.eraseIdx k) (r.eraseIdx k)
  | _, _, _, .nil => .nil
  | _, _, 0, .cons h x => x
  | _, _, k + 1, .cons h x => .cons h (x.eraseIdx k)
def spBt : Sp := fun vs H Q _ => ∃ x lo hi : Int, vs = [.int x, .int lo, .int hi] ∧ Q (.bl (decide (lo ≤ x ∧ x ≤ hi))) H
def spLaw (K : PySem.W.Frag) : Sp := fun vs H Q _ => ∃ (a : Addr) (ns : List Int), vs = [.ref a] ∧ SqL K H a (ns.map V.int) ∧ ns.length ≤ 63 ∧ ∀ H', Q (.bl true) H'
theorem add_at {x y z : Int} {H : Hp} {Q : VK} (h : x + y = z) (q : Q (.int z) H) : rI0 (fun i j => .int (i + j)) (.int x) (.int y) H Q := by subst h; exact ⟨_, _, rfl, rfl, q⟩
theorem Same.put {l : Addr} {H H' : Hp} {o : HO} (s : Same H H') (h : H l = none) : Same H (upd H' l o) := fun b o' e => by
  rw [upd_ne (ne_of_none e h)]
  exact s b o' e
end Sw
namespace Sw
open PySem L2
section
variable {P : Program} {w : World} {K : PySem.W.Frag} {mg : Str → Option Value} {base : Heap}
theorem sc_exchanged : FnScope ["exchange", "thing", "a", "b"] ["exchange", "thing"] (defScope (top 22)) := ⟨rfl, rfl, rfl, by decide +kernel, rfl, by decide +kernel, by decide +kernel⟩
theorem ok_ex {f : Addr} {fd : FuncData} (F : Fun K "exchanged" "exchanged" (top 22) f fd) : FnOk P w K mg base CX0 1 f fd ["exchange", "thing"] spEx := by
  refine F.ok sc_exchanged (fun vs H Q E h => ?_) (fun cdv A outer s H vs Q E hr h => ?_)
  · obtain ⟨t, a, b, x, rfl, _⟩ := h
    rfl
  · obtain ⟨t, a, b, x, rfl, ht, k⟩ := h
    refine ⟨_, (pss_cons (ps_asg (pv 0) (pg_tupK (K := K) (n := 2) rfl rfl (pgs_cons (pg_name (i := 2) sc_exchanged.nd rfl (Or.inl rfl)) (pgs_cons (pg_name (i := 3) sc_exchanged.nd rfl (Or.inl rfl)) pgs_nil))))
      (pss_cons (ps_if (pt_cmpR op_eq (pv 1) (pv 2) (nomark _)) (pss_one (ps_ret (pv 3))) pss_nil)
      (pss_cons (ps_if (pt_cmpR op_eq (pv 1) (pv 3) (nomark _)) (pss_one (ps_ret (pv 2))) pss_nil)
      (pss_one (ps_ret (pv 1)))))), ?_⟩
    refine ⟨_, rfl, t, _, rfl, SqT.of ht, rfl, _, _, rfl, _, _, rfl, rfl, ?_⟩
    unfold swp at k
    refine ⟨_, rfl, _, rfl, rfl, _, rfl, ite2 (fun c => ?_) (fun c => ?_)⟩
    · have c : x = a := by simpa using c
      rw [if_pos c] at k
      exact ⟨_, rfl, k⟩
    · have c : ¬ x = a := by simpa using c
      rw [if_neg c] at k
      refine ⟨_, rfl, _, rfl, rfl, _, rfl, ite2 (fun c => ?_) (fun c => ?_)⟩
      · have c : x = b := by simpa using c
        rw [if_pos c] at k
        exact ⟨_, rfl, k⟩
      · have c : ¬ x = b := by simpa using c
        rw [if_neg c] at k
        exact ⟨_, rfl, k⟩
end
end Sw
namespace Sw
open PySem L2
theorem Exs.take {H : Hp} : ∀ {vs : List V} {r : List (Int × Int)} (k : Nat), Exs H vs r → Exs H (vs.take k) (r.take k)
  | _, _, _, .nil => by rw [List.take_nil, List.take_nil]; exact .nil
  | _, _, 0, .cons _ _ => .nil
  | _, _, k + 1, .cons h x => .cons h (x.take k)
theorem Exs.drop {H : Hp} : ∀ {vs : List V} {r : List (Int × Int)} (k : Nat), Exs H vs r → Exs H (vs.drop k) (r.drop k)
  | _, _, _, .nil => by rw [List.drop_nil, List.drop_nil]; exact .nil
  | _, _, 0, .cons h x => .cons h x
  | _, _, k + 1, .cons h x => x.drop k
end Sw
namespace Sw
open PySem L2
def isw : PyData → Bool
  | .int _ => true
  | _ => false
def btw (lo hi : Int) : PyData → Bool
  | .int i => decide (lo ≤ i ∧ i ≤ hi)
  | _ => false
def lt2 : PyData → PyData → Bool
  | .int a, .int b => decide (a < b)
  | _, _ => false
def isex (n : Int) : PyData → Bool
  | .tuple [x, y] => (btw 1 n x && btw 1 n y) && lt2 x y
  | _ => false
def isrow (n : Int) : PyData → Bool
  | .list ds => decide (ds.length ≤ 60) && ds.all (isex n)
  | _ => false
def spIwD : Sp := fun vs H Q _ => ∃ (v : V) (P : Addr → Prop) (d : PyData), vs = [v] ∧ DT H P v d ∧ Q (.bl (isw d)) H
def spBtD : Sp := fun vs H Q _ => ∃ (v : V) (P : Addr → Prop) (d : PyData) (lo hi : Int), vs = [v, .int lo, .int hi] ∧ DT H P v d ∧ Q (.bl (btw lo hi d)) H
def spIsEx : Sp := fun vs H Q _ => ∃ (v : V) (P : Addr → Prop) (d : PyData) (n : Int), vs = [.int n, v] ∧ DT H P v d ∧ ∀ H', Same H H' → Q (.bl (isex n d)) H'
def spIsRow : Sp := fun vs H Q _ => ∃ (v : V) (P : Addr → Prop) (d : PyData) (n : Int), vs = [.int n, v] ∧ DT H P v d ∧ (∀ ds, d = .list ds → ds.length ≤ 1000) ∧ ∀ H', Same H H' → Q (.bl (isrow n d)) H'
theorem DT.same {H H' : Hp} {P : Addr → Prop} {v : V} {d : PyData} (h : DT H P v d) (s : Same H H') : DT H' P v d := h.keep fun b o _ e => s b o e
theorem DTs.same {H H' : Hp} {P : Addr → Prop} {v : List V} {d : List PyData} (h : DTs H P v d) (s : Same H H') : DTs H' P v d := h.keep fun b o _ e => s b o e
theorem DTs.x {p : Addr} {H H' : Hp} {v : List V} {d : List PyData} (h : DTs H (· ≠ p) v d) (s : SameX p H H') : DTs H' (· ≠ p) v d := h.keep fun b o n e => s b o n e
theorem all_take {α : Type} {q : α → Bool} {l : List α} {i : Nat} {x : α} (h : l[i]? = some x) : (l.take (i + 1)).map q = (l.take i).map q ++ [q x] := by
  rw [List.take_succ, h, List.map_append]; rfl
structure TD (P : Program) (w : World) (K : PySem.W.Frag) (mg : Str → Option Value) (base : Heap) : Prop extends T1 mg K where
  f_is_whole : FnAt P w K mg base "is_whole" 1 ["thing"] spIwD
structure TD2 (P : Program) (w : World) (K : PySem.W.Frag) (mg : Str → Option Value) (base : Heap) : Prop extends T1 mg K where
  f_is_between : FnAt P w K mg base "is_between" 2 ["thing", "low", "high"] spBtD
structure TD3 (P : Program) (w : World) (K : PySem.W.Frag) (mg : Str → Option Value) (base : Heap) (u : Value) : Prop extends T1 mg K where
  g_MOST_EXCHANGES : mg "MOST_EXCHANGES" = some u
  r_MOST_EXCHANGES : RelV (.int 60) u
  f_is_exchange : FnAt P w K mg base "is_exchange" 4 ["n", "thing"] spIsEx
end Sw
namespace Sw
open PySem L2
theorem fit_str {i : Int} (h : i.natAbs < 10 ^ 35) : Fit 200 (.str (Str.ofString (toString i))) := by
  have l : (Str.ofString (toString i)).cps.size ≤ 40 := by
    have := int_shown h
    rw [PyData.shown_int] at this
    exact this
  refine ⟨rfl, rfl, Nat.zero_le _, ?_, ?_⟩
  · unfold PyData.leavesShort
    rw [Str.ofString_eq_toList]
    simp only [List.all_eq_true]
    intro c hc
    have hc : c ∈ List.map Char.toNat (toString i).toList := by simpa using hc
    obtain ⟨ch, _, rfl⟩ := List.mem_map.mp hc
    have := UInt32.toNat_lt ch.val
    exact decide_eq_true (Nat.lt_of_lt_of_le this (by decide))
  · unfold PyData.weight
    omega
structure Lay (p : Addr) (c : Nat) (H0 H : Hp) (vs : List V) (ds : List PyData) : Prop where
  pu : Purse H p c
  sx : SameX p H0 H
  dt : DTs H (· ≠ p) vs ds
theorem cutT {xs : List V} {a : Int} (h0 : 0 ≤ a) (h : a ≤ xs.length) : cutV xs none (some a) = xs.take a.toNat := by
  have e : HT.sIx xs.length 0 none = 0 := rfl
  have e2 : HT.sIx xs.length xs.length (some a) = a.toNat := by
    simp [HT.sIx]
    rw [if_neg (by omega)]
    omega
  unfold cutV
  rw [e, e2, List.drop_zero, Nat.sub_zero]
theorem cutD {xs : List V} {a : Int} (h0 : 0 ≤ a) : cutV xs (some a) none = xs.drop a.toNat := by
  have e : HT.sIx xs.length 0 (some a) = min a.toNat xs.length := by
    show (if a < 0 then (a + (xs.length : Int)).toNat else min a.toNat xs.length) = _
    rw [if_neg (by omega)]
  have e2 : HT.sIx xs.length xs.length none = xs.length := rfl
  unfold cutV
  rw [e, e2, List.take_of_length_le (by rw [List.length_drop]; exact Nat.le_refl _)]
  by_cases h : a.toNat ≤ xs.length
  · rw [Nat.min_eq_left h]
  · rw [Nat.min_eq_right (by omega), List.drop_length, List.drop_eq_nil_of_le (by omega)]
end Sw
namespace L2
open PySem PySem.Spec PyProof.Rows PySem.SeqAt
inductive TxtEs (pr : Params) : List DictEntry → List (Str × Str) → Prop
  | nil : TxtEs pr [] []
  | cons {x y : Str} {t u : Tok} {es : List DictEntry} {ps : List (Str × Str)} : TxtEs pr es ps → TxtEs pr ({ hash := PyData.keyHash pr x, key := .str x t, val := .str y u } :: es) ((x, y) :: ps)
structure KTxt (K : PySem.W.Frag) (pr : Params) (a : Addr) (ps : List (Str × Str)) : Prop where
  sys : (a == sysModules) = false
  nd : (ps.map (·.1)).Nodup
  ex : ∃ (es : List DictEntry) (ep : Nat), K.lookup a = some { cls := .type "dict", data := .dict es.toArray ep } ∧ TxtEs pr es ps
def txtK (ps : List (Str × Str)) : List (Key × V) := ps.map fun p => (Sum.inr p.1, V.str p.2)
section
variable {X : Cx} {K : PySem.W.Frag}
theorem TxtEs.go {pr : Params} {P : Program} {w : World} (hp : w.params = pr) : ∀ {es : List DictEntry} {ps : List (Str × Str)}, TxtEs pr es ps → ∃ vs : List (Key × Value), KV (txtK ps) vs ∧ (∀ e ∈ es, ∃ k, (mixKind P w).is k e.key = true ∧ e.hash = (mixKind P w).hash k) ∧ Pairs (mixKind P w) es vs ∧ vs.map (·.1) = ps.map fun p => Sum.inr p.1
  | _, _, .nil => ⟨[], .nil, by simp, .nil, rfl⟩
  | _, _, .cons (x := x) (y := y) (t := t) (u := u) r => by
    obtain ⟨vs, h1, h2, h3, h4⟩ := TxtEs.go (P := P) hp r
    have hi : (mixKind P w).is (Sum.inr x) (Value.str x t) = true := by
      show Value.isStrOf x (Value.str x t) = true
      simp [Value.isStrOf]
    refine ⟨(Sum.inr x, .str y u) :: vs, ?_, ?_, .cons hi rfl h3, by rw [List.map_cons, h4]; rfl⟩
    · exact Paired.cons ⟨rfl, ⟨u, rfl⟩⟩ h1
    · intro e he
      rcases List.mem_cons.mp he with rfl | he
      · refine ⟨Sum.inr x, hi, ?_⟩
        subst hp
        rfl
      · exact h2 e he
theorem KTxt.dict {pins : List (Addr × Obj)} {σ : St} {H : Hp} {s : Shared} {a : Addr} {ps : List (Str × Str)} (k : KTxt X.K X.w.params a ps) (I : Inv X pins σ H s) : ∃ vs : List (Key × Value), KV (txtK ps) vs ∧ s.heap.DictOf (mixKind X.prog X.w) a vs := by
  obtain ⟨es, ep, hl, ht⟩ := k.ex
  obtain ⟨vs, h1, h2, h3, h4⟩ := TxtEs.go (P := X.prog) (w := X.w) rfl ht
  refine ⟨vs, h1, _, es.toArray, ep, I.kIn a _ hl, ⟨rfl, rfl, rfl⟩, rfl, fun e he => h2 e (by simpa using he), by simpa using h3, ?_⟩
  rw [h4]
  have := k.nd
  rw [show (ps.map fun p => (Sum.inr p.1 : Key)) = (ps.map (·.1)).map Sum.inr by rw [List.map_map]; rfl]
  exact this.map _ fun x y h e => h (Sum.inr.inj e)
theorem txt_val (ps : List (Str × Str)) (k : Str) : (valV (txtK ps) (Sum.inr k : Key)).isSome = decide (k ∈ ps.map (·.1)) := by
  unfold txtK valV
  induction ps with
  | nil => rfl
  | cons p t ih =>
    rw [List.map_cons, List.find?_cons]
    by_cases h : p.1 = k
    · have : decide ((Sum.inr p.1 : Key) = Sum.inr k) = true := decide_eq_true (by rw [h])
      simp only [this]
      simp [h]
    · have : decide ((Sum.inr p.1 : Key) = Sum.inr k) = false := decide_eq_false fun z => h (Sum.inr.inj z)
      simp only [this]
      rw [ih, List.map_cons, Bool.eq_iff_iff, decide_eq_true_eq, decide_eq_true_eq, List.mem_cons]
      exact ⟨.inr, fun z => z.resolve_left fun z => h z.symm⟩
def tKNotIn (a : Addr) (ps : List (Str × Str)) (ty td : TE) : TE := fun σ H Q => ty σ H fun y H1 => td σ H1 fun x H2 => ∃ k, x = .ref a ∧ y = .str k ∧ Q (.bl (!decide (k ∈ ps.map (·.1)))) H2
theorem pc_knotin {i o : Expr} {ty td : TE} {a : Addr} {ps : List (Str × Str)} (kt : KTxt X.K X.w.params a ps) (hi : PE X i ty) (ho : PE X o td) : PC X .NotIn i o (tKNotIn a ps ty td) := by
  intro pins s σ H Q I h
  refine thn (hi pins s σ H _ I h) fun iv s1 ⟨y, H1, I1, ry, q1⟩ => thn (ho pins s1 σ H1 _ I1 q1) fun u s2 ⟨x, H2, I2, rx, k, ex, ey, q2⟩ => ?_
  subst ex
  subst ey
  obtain rfl : u = Value.ref a := rx
  obtain ⟨vs, rel, dd⟩ := kt.dict I2
  refine wpAny_notIn_of (kV_is (k := Sum.inr k) ry) kt.sys dd.mapOf ?_
  rw [← (rel.val (Sum.inr k)).isSome_eq, txt_val]
  exact ⟨.bl _, H2, I2.tok _, rfl, q2⟩
end
end L2
namespace Sw
open PySem L2
def car (e o : Int × Int) : Int × Int := (min (swp e.1 o) (swp e.2 o), max (swp e.1 o) (swp e.2 o))
theorem swp_injc {x y : Int} {e : Int × Int} (h : swp x e = swp y e) : x = y := by rw [← swp_swp x e, h, swp_swp]
theorem car_good {n : Int} {s t : Int × Int} (hs : 1 ≤ s.1 ∧ s.1 < s.2 ∧ s.2 ≤ n) (ht : 1 ≤ t.1 ∧ t.1 < t.2 ∧ t.2 ≤ n) : 1 ≤ (car s t).1 ∧ (car s t).1 < (car s t).2 ∧ (car s t).2 ≤ n := by
  have a := swp_in ht (x := s.1) (by omega) (by omega)
  have b := swp_in ht (x := s.2) (by omega) (by omega)
  have ne : swp s.1 t ≠ swp s.2 t := fun z => by have := swp_injc z; omega
  unfold car
  simp only
  omega
def prM (s t : Int × Int) (f : Bool) : List (Int × Int) := if f = true then [t, car s t] else [car t s, s]
theorem prM_len (s t : Int × Int) (f : Bool) : (prM s t f).length = 2 := by unfold prM; split <;> rfl
def mvM (row : List (Int × Int)) (i : Nat) (f : Bool) : List (Int × Int) := row.take i ++ prM (row.getD i (0, 0)) (row.getD (i + 1) (0, 0)) f ++ row.drop (i + 2)
theorem row_split {row : List (Int × Int)} {i : Nat} (h : i + 1 < row.length) : ∃ A s t B, row = A ++ s :: t :: B ∧ A.length = i := by
  refine ⟨row.take i, row[i], row[i + 1], row.drop (i + 2), ?_, by rw [List.length_take]; omega⟩
  rw [List.getElem_cons_drop, List.getElem_cons_drop, List.take_append_drop]
theorem mv_at (A B : List (Int × Int)) (s t : Int × Int) (f : Bool) : mvM (A ++ s :: t :: B) A.length f = A ++ prM s t f ++ B := by
  unfold mvM
  rw [List.take_left]
  have e1 : (A ++ s :: t :: B).getD A.length (0, 0) = s := by
    rw [List.getD_eq_getElem?_getD, List.getElem?_append_right (Nat.le_refl _), Nat.sub_self]
    rfl
  have e2 : (A ++ s :: t :: B).getD (A.length + 1) (0, 0) = t := by
    rw [List.getD_eq_getElem?_getD, List.getElem?_append_right (by omega), show A.length + 1 - A.length = 1 by omega]
    rfl
  have e3 : (A ++ s :: t :: B).drop (A.length + 2) = B := by
    rw [List.drop_append, List.drop_eq_nil_of_le (by omega), show A.length + 2 - A.length = 2 by omega]
    rfl
  rw [e1, e2, e3]
theorem mv_len {row : List (Int × Int)} {i : Nat} (h : i + 1 < row.length) (f : Bool) : (mvM row i f).length = row.length := by
  obtain ⟨A, s, t, B, rfl, rfl⟩ := row_split h
  rw [mv_at, List.length_append, List.length_append, prM_len, List.length_append, List.length_cons, List.length_cons]
  omega
theorem mv_good {n : Int} {row : List (Int × Int)} {i : Nat} (g : Good n row) (h : i + 1 < row.length) (f : Bool) : Good n (mvM row i f) := by
  obtain ⟨A, s, t, B, rfl, rfl⟩ := row_split h
  have gs := g s (by simp)
  have gt := g t (by simp)
  rw [mv_at]
  intro e he
  rcases List.mem_append.mp he with he | he
  · rcases List.mem_append.mp he with he | he
    · exact g e (by simp [he])
    · unfold prM at he
      split at he
      · rcases List.mem_cons.mp he with rfl | he
        · exact gt
        · rw [List.mem_singleton.mp he]; exact car_good gs gt
      · rcases List.mem_cons.mp he with rfl | he
        · exact car_good gt gs
        · rw [List.mem_singleton.mp he]; exact gs
  · exact g e (by simp [he])
end Sw
namespace Sw
open PySem L2
def wayS (f : Bool) : Str := if f = true then Str.ofString "forth" else Str.ofString "back"
def stepM (row : List (Int × Int)) (m : Int × Str) : Option (List (Int × Int)) :=
  if 1 ≤ m.1 ∧ m.1 < row.length then (if m.2 = wayS true then some (mvM row (m.1 - 1).toNat true) else if m.2 = wayS false then some (mvM row (m.1 - 1).toNat false) else none) else none
theorem step_some {row : List (Int × Int)} {k : Int} {f : Bool} (h1 : 1 ≤ k) (h2 : k < row.length) : stepM row (k, wayS f) = some (mvM row (k - 1).toNat f) := by
  unfold stepM
  rw [if_pos ⟨h1, h2⟩]
  cases f with
  | true => rw [if_pos rfl]
  | false => rw [if_neg (show ¬ wayS false = wayS true by decide), if_pos rfl]
theorem step_of {row r : List (Int × Int)} {k : Int} {w : Str} (h : stepM row (k, w) = some r) : 1 ≤ k ∧ k < row.length ∧ ∃ f, w = wayS f ∧ r = mvM row (k - 1).toNat f := by
  unfold stepM at h
  split at h
  · rename_i c
    simp only at c
    split at h
    · rename_i e; cases h; exact ⟨c.1, c.2, true, e, rfl⟩
    · split at h
      · rename_i e; cases h; exact ⟨c.1, c.2, false, e, rfl⟩
      · cases h
  · cases h
theorem step_none {row : List (Int × Int)} {k : Int} {w : Str} (h : ¬ (1 ≤ k ∧ k < row.length ∧ ∃ f, w = wayS f)) : stepM row (k, w) = none := by
  cases e : stepM row (k, w) with
  | none => rfl
  | some r =>
    obtain ⟨a, b, f, c, _⟩ := step_of e
    exact absurd ⟨a, b, f, c⟩ h
def walkM : List (Int × Int) → List (Int × Str) → Option (List (Int × Int))
  | row, [] => some row
  | row, m :: ms => (stepM row m).bind fun r => walkM r ms
theorem walk_append (ms ks : List (Int × Str)) : ∀ row, walkM row (ms ++ ks) = (walkM row ms).bind fun r => walkM r ks := by
  induction ms with
  | nil => intro row; rfl
  | cons m ms ih =>
    intro row
    show (stepM row m).bind _ = ((stepM row m).bind _).bind _
    cases stepM row m with
    | none => rfl
    | some r => exact ih r
theorem walk_snoc {row r : List (Int × Int)} {ms : List (Int × Str)} {m : Int × Str} (h : walkM row ms = some r) : walkM row (ms ++ [m]) = stepM r m := by
  rw [walk_append, h]
  show (stepM r m).bind (fun r => some r) = _
  cases stepM r m <;> rfl
theorem walk_take {row r : List (Int × Int)} {ms : List (Int × Str)} {i : Nat} {m : Int × Str} (hm : ms[i]? = some m) (h : walkM row (ms.take i) = some r) : walkM row (ms.take (i + 1)) = stepM r m := by
  rw [List.take_succ, hm]
  exact walk_snoc h
theorem walk_dead {row r : List (Int × Int)} {ms : List (Int × Str)} {i : Nat} {m : Int × Str} (hm : ms[i]? = some m) (h : walkM row (ms.take i) = some r) (hs : stepM r m = none) : walkM row ms = none := by
  have := walk_take hm h
  rw [← List.take_append_drop (i + 1) ms, walk_append, this, hs]
  rfl
theorem step_len {row r : List (Int × Int)} {m : Int × Str} (h : stepM row m = some r) : r.length = row.length := by
  obtain ⟨a, b, f, _, rfl⟩ := step_of (k := m.1) (w := m.2) h
  exact mv_len (by omega) f
theorem walk_len {ms : List (Int × Str)} : ∀ {row r : List (Int × Int)}, walkM row ms = some r → r.length = row.length := by
  induction ms with
  | nil => intro row r h; cases h; rfl
  | cons m ms ih =>
    intro row r h
    have h : (stepM row m).bind (fun r => walkM r ms) = some r := h
    cases e : stepM row m with
    | none => rw [e] at h; cases h
    | some q => rw [e] at h; rw [ih h, step_len e]
theorem step_good {n : Int} {row r : List (Int × Int)} {m : Int × Str} (g : Good n row) (h : stepM row m = some r) : Good n r := by
  obtain ⟨a, b, f, _, rfl⟩ := step_of (k := m.1) (w := m.2) h
  exact mv_good g (by omega) f
theorem walk_good {n : Int} {ms : List (Int × Str)} : ∀ {row r : List (Int × Int)}, Good n row → walkM row ms = some r → Good n r := by
  induction ms with
  | nil => intro row r g h; cases h; exact g
  | cons m ms ih =>
    intro row r g h
    have h : (stepM row m).bind (fun r => walkM r ms) = some r := h
    cases e : stepM row m with
    | none => rw [e] at h; cases h
    | some q => rw [e] at h; exact ih (step_good g e) h
inductive Mvs (H : Hp) : List V → List (Int × Str) → Prop
  | nil : Mvs H [] []
  | cons {t : Addr} {k : Int} {x : Str} {vs : List V} {r : List (Int × Str)} : H t = some (.tup [.int k, .str x]) → Mvs H vs r → Mvs H (.ref t :: vs) ((k, x) :: r)
theorem Mvs.length {H : Hp} : ∀ {vs : List V} {r : List (Int × Str)}, Mvs H vs r → vs.length = r.length
  | _, _, .nil => rfl
  | _, _, .cons _ x => by rw [List.length_cons, List.length_cons, x.length]
theorem Mvs.keep {H H' : Hp} (k : ∀ b xs, H b = some (.tup xs) → H' b = some (.tup xs)) : ∀ {vs : List V} {r : List (Int × Str)}, Mvs H vs r → Mvs H' vs r
  | _, _, .nil => .nil
  | _, _, .cons h x => .cons (k _ _ h) (x.keep k)
theorem Mvs.append {H : Hp} : ∀ {vs ws : List V} {r q : List (Int × Str)}, Mvs H vs r → Mvs H ws q → Mvs H (vs ++ ws) (r ++ q)
  | _, _, _, _, .nil, y => y
  | _, _, _, _, .cons h x, y => .cons h (x.append y)
theorem Mvs.get {H : Hp} : ∀ {vs : List V} {r : List (Int × Str)} {i : Nat} {x : V}, Mvs H vs r → vs[i]? = some x → ∃ t k w, x = .ref t ∧ H t = some (.tup [.int k, .str w]) ∧ r[i]? = some (k, w)
  | _, _, _, _, .nil, e => by simp at e
  | _, _, 0, _, .cons h x, e => by simp at e; subst e; exact ⟨_, _, _, rfl, h, rfl⟩
  | _, _, i + 1, _, .cons h x, e => by
    obtain ⟨t, k, w, e1, e2, e3⟩ := x.get (i := i) (by simpa using e)
    exact ⟨t, k, w, e1, e2, by simpa using e3⟩
end Sw
namespace Sw
open PySem L2
def spCar : Sp := fun vs H Q _ => ∃ (t1 t2 : Addr) (a b c d : Int), vs = [.ref t1, .ref t2] ∧ H t1 = some (.tup [.int a, .int b]) ∧ H t2 = some (.tup [.int c, .int d]) ∧ ∀ t H', H t = none → H' t = some (.tup [.int (car (a, b) (c, d)).1, .int (car (a, b) (c, d)).2]) → Same H H' → Q (.ref t) H'
def spMvX (C : Addr) : Sp := fun vs H Q E => ∃ (l : Addr) (es : List V) (row : List (Int × Int)) (k : Int) (way : Str), vs = [.ref l, .int k, .str way] ∧ H l = some (.lst es) ∧ Exs H es row ∧ row.length ≤ 1000 ∧
  (∀ f : Bool, way = wayS f → 1 ≤ k → k < row.length → ∀ l' es' H', H l' = none → H' l' = some (.lst es') → Exs H' es' (mvM row (k - 1).toNat f) → Same H H' → Q (.ref l') H') ∧
  (¬ (1 ≤ k ∧ k < row.length ∧ ∃ f, way = wayS f) → ∀ H', Same H H' → E (.ref C) none H')
def undoing : List (Str × Str) := [(Str.ofString "forth", Str.ofString "back"), (Str.ofString "back", Str.ofString "forth")]
structure TCa (P : Program) (w : World) (K : PySem.W.Frag) (mg : Str → Option Value) (base : Heap) : Prop extends T1 mg K where
  b_sorted : mg "sorted" = none
  f_exchanged : FnAt P w K mg base "exchanged" 1 ["exchange", "thing"] spEx
structure TMv (P : Program) (w : World) (K : PySem.W.Frag) (mg : Str → Option Value) (base : Heap) (U C : Addr) : Prop extends T1 mg K where
  f_is_between : FnAt P w K mg base "is_between" 2 ["thing", "low", "high"] spBt
  f_carried : FnAt P w K mg base "carried" 2 ["exchange", "other"] spCar
  g_UNDOING : mg "UNDOING" = some (.ref U)
  r_UNDOING : RelV (.ref U) (.ref U)
  k_UNDOING : KTxt K w.params U undoing
  c_NoMove : mg "NoMove" = some (.ref C)
  x_NoMove : ExcC K C
theorem sort2 {p q : Int} {ns : List Int} (pm : ns.Perm [p, q]) (pw : ns.Pairwise (· ≤ ·)) : ns = [min p q, max p q] := by
  have hl := pm.length_eq
  match ns, hl with
  | [x, y], _ =>
    have xy : x ≤ y := (List.pairwise_cons.mp pw).1 y (by simp)
    have hx : x ∈ [p, q] := pm.mem_iff.mp (by simp)
    have hp : p ∈ [x, y] := pm.mem_iff.mpr (by simp)
    have hq : q ∈ [x, y] := pm.mem_iff.mpr (by simp)
    have hy : y ∈ [p, q] := pm.mem_iff.mp (by simp)
    simp only [List.mem_cons, List.not_mem_nil, or_false] at hx hp hq hy
    have e1 : x = min p q := by omega
    have e2 : y = max p q := by omega
    rw [e1, e2]
section
variable {P : Program} {w : World} {K : PySem.W.Frag} {mg : Str → Option Value} {base : Heap} {U C : Addr}
theorem sc_carried : FnScope ["exchange", "other"] ["exchange", "other"] (defScope (top 36)) := ⟨rfl, rfl, rfl, by decide +kernel, rfl, by decide +kernel, by decide +kernel⟩
theorem ok_car {f : Addr} {fd : FuncData} (F : Fun K "carried" "carried" (top 36) f fd) (T : TCa P w K mg base) : FnOk P w K mg base CX0 2 f fd ["exchange", "other"] spCar := by
  refine F.ok sc_carried (fun vs H Q E h => ?_) (fun cdv A outer s H vs Q E hr h => ?_)
  · obtain ⟨t1, t2, a, b, c, d, rfl, _⟩ := h
    rfl
  · obtain ⟨t1, t2, a, b, c, d, rfl, h1, h2, k⟩ := h
    refine ⟨_, (pss_one (ps_ret (pe_callTy (call_tuple_ofK (K := K) rfl) rfl T.b_tuple (by decide +kernel) (pa_cons (pe_callB (call_sorted (K := K) rfl) rfl T.b_sorted (by decide +kernel) (pa_cons (pe_comp (N := (["thing", "other"] : List Str)) (ix := ([none, some 1] : List (Option Nat))) (comp_ok rfl rfl) rfl (pi_tupK (K := K) rfl (pv 0)) (fun _ _ _ _ => (pg_name (i := 0) (show List.Nodup (["thing", "other"] : List Str) from by decide +kernel) rfl (Or.inl rfl))) (fun _ _ _ _ => pif_nil) (fun _ _ _ _ => (pe_callF T.f_exchanged (hr.mono (by first | decide | omega)) rfl (pa_cons (pv 1) (pa_cons (pv 0) pa_nil))))) pa_nil)) pa_nil)))), ?_⟩
    refine ⟨_, rfl, t1, rfl, ⟨_, SqT.of h1⟩, compT (K := K) (a := t1) (xs := [a, b].map V.int) (k := 0) (fun i ys σ' H' => ys = (([a, b].take i).map fun x => V.int (swp x (c, d))) ∧ (∃ v, σ' = [v, some (.ref t2)]) ∧ H' = H) (by show 2 ≤ 1000000; decide) ⟨rfl, ⟨none, rfl⟩, rfl⟩ (fun i ys σ' H' _ q => by rw [q.2.2]; exact SqT.of h1) (fun i ys σ' H' q => by rw [q.1, List.length_map, List.length_take]; omega) ?_ ?_⟩
    · rintro i ys σ' H' z R hz ⟨rfl, ⟨v, rfl⟩, rfl⟩ done
      obtain ⟨x, rfl, hx⟩ := mem_int hz
      refine ⟨_, rfl, _, rfl, t2, c, d, x, rfl, h2, ?_⟩
      refine done _ _ _ ⟨?_, ⟨_, rfl⟩, rfl⟩
      rw [take_succ_map _ hx]
    · rintro ys σ' Hb q ⟨rfl, ⟨v, rfl⟩, e0⟩ fq
      have e0 := e0.symm
      subst e0
      have s1 : Same H (upd H q (.lst [.int (swp a (c, d)), .int (swp b (c, d))])) := Same.new fq
      refine ⟨q, [swp a (c, d), swp b (c, d)], rfl, SqL.of upd_same, (by show 2 < 64; decide), fun l2 ns' f2 pm pw => ?_⟩
      have en := sort2 pm pw
      subst en
      have s2 := s1.trans (Same.new (o := .lst ([min (swp a (c, d)) (swp b (c, d)), max (swp a (c, d)) (swp b (c, d))].map V.int)) f2)
      refine ⟨l2, _, rfl, .inl ⟨SqL.of upd_same, fun t ft => ?_⟩⟩
      exact k t _ (s2.free ft) upd_same (s2.trans (Same.new ft))
theorem sc_moved : FnScope ["row", "k", "way", "pair", "s", "t"] ["row", "k", "way"] (defScope (top 37)) := ⟨rfl, rfl, rfl, by decide +kernel, rfl, by decide +kernel, by decide +kernel⟩
theorem ok_mvX {f : Addr} {fd : FuncData} (F : Fun K "moved" "moved" (top 37) f fd) (T : TMv P w K mg base U C) : FnOk P w K mg base (CX1 P w) 3 f fd ["row", "k", "way"] (spMvX C) := by
  refine F.okX sc_moved (fun vs H Q E h => ?_) (fun cdv A outer s H vs Q E hr h => ?_)
  · obtain ⟨l, es, row, k, way, rfl, _⟩ := h
    rfl
  · obtain ⟨l, es, row, k, way, rfl, hl, hx, rl, kQ, kE⟩ := h
    refine ⟨_, (pss_cons (ps_if (pt_not (pt_val (pe_callF T.f_is_between (hr.mono (by first | decide | omega)) rfl (@pa_cons _ _ _ _ _ (pv 1) (@pa_cons _ _ _ _ _ pe_int (@pa_cons _ _ _ _ _ (pe_op op_sub (pe_callB (call_lenK (K := K) rfl) rfl T.b_len (by decide +kernel) (pa_cons (pv 0) pa_nil)) pe_int) pa_nil st_bin) st_con) st_name)))) (pss_one (ps_raise lvs1 T.x_NoMove rfl rfl T.c_NoMove (pa_cons pe_str pa_nil))) pss_nil)
      (pss_cons (ps_if (pt_cmp (pc_knotin T.k_UNDOING (pv 2) (pe_glob rfl T.g_UNDOING T.r_UNDOING))) (pss_one (ps_raise lvs1 T.x_NoMove rfl rfl T.c_NoMove (pa_cons pe_str pa_nil))) pss_nil)
      (pss_cons (ps_par (i := 4) (j := 5) rfl sc_moved.nd rfl rfl (by decide) rfl rfl (pa_cons (pe_ix (ix_listK (K := K) rfl) (pv 0) (pe_op op_sub (pv 1) pe_int) (fun _ _ => rfl)) (pa_cons (pe_ix (ix_listK (K := K) rfl) (pv 0) (pv 1) (fun _ _ => rfl)) pa_nil)) rfl)
      (pss_cons (ps_set (i := 3) sc_moved.nd rfl (Or.inl rfl) (pe_ifExp (pt_cmpR op_eq (pv 2) pe_str (nomark _)) (pe_lst (pa_cons (pv 5) (pa_cons (pe_callF T.f_carried (hr.mono (by first | decide | omega)) rfl (pa_cons (pv 4) (pa_cons (pv 5) pa_nil))) pa_nil))) (pe_lst (pa_cons (pe_callF T.f_carried (hr.mono (by first | decide | omega)) rfl (pa_cons (pv 5) (pa_cons (pv 4) pa_nil))) (pa_cons (pv 4) pa_nil)))))
      (pss_one (ps_ret (pe_op op_cat (pe_op op_cat (pe_slice (sl_listK (K := K) rfl) (pv 0) po_none (po_some (pe_op op_sub (pv 1) pe_int))) (pv 3)) (pe_slice (sl_listK (K := K) rfl) (pv 0) (po_some (pe_op op_add (pv 1) pe_int)) po_none)))))))), ?_⟩
    have big : (10000000 : Nat) ≤ sizeLine := by decide
    have two : 2 ≤ sizeLine := by decide
    have xl := hx.length
    refine ⟨_, rfl, _, rfl, l, _, rfl, .inl (SqL.of hl), _, _, rfl, rfl, k, 1, _, rfl, _, rfl, ?_⟩
    by_cases hk : 1 ≤ k ∧ k ≤ (es.length : Int) - 1
    · refine iteE (by rw [decide_eq_true hk]; rfl) ?_
      refine ⟨_, rfl, way, rfl, rfl, _, rfl, ?_⟩
      by_cases hw : way ∈ undoing.map (·.1)
      · refine iteE (by rw [decide_eq_true hw]; rfl) ?_
        obtain ⟨v1, hv1⟩ : ∃ v, es[(k - 1).toNat]? = some v := ⟨_, List.getElem?_eq_getElem (by omega)⟩
        obtain ⟨v2, hv2⟩ : ∃ v, es[k.toNat]? = some v := ⟨_, List.getElem?_eq_getElem (by omega)⟩
        obtain ⟨ts, a, b, rfl, hts, hr1⟩ := hx.get hv1
        obtain ⟨tt, c, d, rfl, htt, hr2⟩ := hx.get hv2
        have er1 : row.getD (k - 1).toNat (0, 0) = (a, b) := by rw [List.getD_eq_getElem?_getD, hr1]; rfl
        have er2 : row.getD ((k - 1).toNat + 1) (0, 0) = (c, d) := by rw [show (k - 1).toNat + 1 = k.toNat by omega, List.getD_eq_getElem?_getD, hr2]; rfl
        have at1 : atI es (k - 1) = some (.ref ts) := by rw [← Int.toNat_of_nonneg (show 0 ≤ k - 1 by omega)]; exact atI_nat hv1
        have at2 : atI es k = some (.ref tt) := by rw [← Int.toNat_of_nonneg (show 0 ≤ k by omega)]; exact atI_nat hv2
        refine ⟨_, rfl, _, rfl, _, _, rfl, rfl, l, _, _, _, rfl, rfl, SqL.of hl, at1, _, rfl, _, rfl, l, _, _, _, rfl, rfl, SqL.of hl, at2, _, _, rfl, ?_⟩
        have s1 : Same H H := Same.refl H
        refine ⟨_, rfl, rfl, _, rfl, ite2 (fun cw => ?_) (fun cw => ?_)⟩
        · have hway : way = wayS true := by
            have := of_decide_eq_true cw
            injection this
          refine ⟨_, rfl, _, rfl, _, rfl, ts, tt, a, b, c, d, rfl, s1 _ _ hts, s1 _ _ htt, fun tn HA ftn htn sA => ⟨two, fun lp flp => ?_⟩⟩
          have s2 := (s1.trans sA).trans (Same.new (o := .lst [.ref tt, .ref tn]) flp)
          have hlp : upd HA lp (.lst [.ref tt, .ref tn]) lp = some (.lst [.ref tt, .ref tn]) := upd_same
          have htn2 := Same.new (o := .lst [.ref tt, .ref tn]) flp _ _ htn
          generalize upd HA lp (.lst [.ref tt, .ref tn]) = H2 at s2 hlp htn2 ⊢
          have xp : Exs H2 [.ref tt, .ref tn] (prM (a, b) (c, d) true) := .cons (s2 _ _ htt) (.cons htn2 .nil)
          obtain ⟨ps, eps⟩ : ∃ ps : List V, ps = [.ref tt, .ref tn] := ⟨_, rfl⟩
          rw [← eps] at hlp xp
          have psl : ps.length = 2 := by rw [eps]; rfl
          have el2 : es.length = row.length := xl
          have hl2 := s2 _ _ hl
          have hx2 := hx.keep (Same.tups s2)
          refine ⟨_, rfl, _, rfl, _, _, rfl, rfl, k - 1, rfl, l, es, rfl, SqL.of hl2, fun p1 f1 => ?_⟩
          rw [cutT (by omega) (by omega)]
          have s3 : Same H2 (upd H2 p1 (.lst (es.take (k - 1).toNat))) := Same.new f1
          have h3 : upd H2 p1 (.lst (es.take (k - 1).toNat)) p1 = some (.lst (es.take (k - 1).toNat)) := upd_same
          generalize upd H2 p1 (.lst (es.take (k - 1).toNat)) = H3 at s3 h3 ⊢
          refine ⟨_, rfl, p1, lp, _, _, rfl, rfl, h3, s3 _ _ hlp, by rw [List.length_take]; omega, fun p2 f2 => ?_⟩
          have s4 := s3.trans (Same.new (o := .lst (es.take (k - 1).toNat ++ ps)) f2)
          have h4 : upd H3 p2 (.lst (es.take (k - 1).toNat ++ ps)) p2 = some (.lst (es.take (k - 1).toNat ++ ps)) := upd_same
          generalize upd H3 p2 (.lst (es.take (k - 1).toNat ++ ps)) = H4 at s4 h4 ⊢
          refine ⟨_, rfl, _, rfl, _, _, rfl, rfl, k + 1, rfl, ?_⟩
          unfold tNoPart
          refine ⟨l, es, rfl, SqL.of (s4 _ _ hl2), fun p3 f3 => ?_⟩
          rw [cutD (by omega)]
          have s5 := s4.trans (Same.new (o := .lst (es.drop (k + 1).toNat)) f3)
          have h5 : upd H4 p3 (.lst (es.drop (k + 1).toNat)) p3 = some (.lst (es.drop (k + 1).toNat)) := upd_same
          have h45 := Same.new (o := .lst (es.drop (k + 1).toNat)) f3 _ _ h4
          generalize upd H4 p3 (.lst (es.drop (k + 1).toNat)) = H5 at s5 h5 h45 ⊢
          refine ⟨p2, p3, _, _, rfl, rfl, h45, h5, by rw [List.length_append, List.length_take, List.length_drop]; omega, fun p4 f4 => ?_⟩
          have s6 := s5.trans (Same.new (o := .lst (es.take (k - 1).toNat ++ ps ++ es.drop (k + 1).toNat)) f4)
          refine kQ true hway (by omega) (by omega) p4 _ _ ((s2.trans s5).free f4) upd_same ?_ (s2.trans s6)
          unfold mvM
          rw [er1, er2, show (k - 1).toNat + 2 = (k + 1).toNat by omega]
          exact (((hx2.keep (Same.tups s6)).take _).append (xp.keep (Same.tups s6))).append ((hx2.keep (Same.tups s6)).drop _)
        · have hway : way = wayS false := by
            have cw : ¬ way = Str.ofString "forth" := fun z => cw (decide_eq_true (by rw [z]))
            have : way = Str.ofString "forth" ∨ way = Str.ofString "back" := by simpa [undoing] using hw
            exact this.resolve_left cw
          refine ⟨_, rfl, _, rfl, tt, ts, c, d, a, b, rfl, s1 _ _ htt, s1 _ _ hts, fun tn HA ftn htn sA => ⟨_, rfl, two, fun lp flp => ?_⟩⟩
          have s2 := (s1.trans sA).trans (Same.new (o := .lst [.ref tn, .ref ts]) flp)
          have hlp : upd HA lp (.lst [.ref tn, .ref ts]) lp = some (.lst [.ref tn, .ref ts]) := upd_same
          have htn2 := Same.new (o := .lst [.ref tn, .ref ts]) flp _ _ htn
          generalize upd HA lp (.lst [.ref tn, .ref ts]) = H2 at s2 hlp htn2 ⊢
          have xp : Exs H2 [.ref tn, .ref ts] (prM (a, b) (c, d) false) := .cons htn2 (.cons (s2 _ _ hts) .nil)
          obtain ⟨ps, eps⟩ : ∃ ps : List V, ps = [.ref tn, .ref ts] := ⟨_, rfl⟩
          rw [← eps] at hlp xp
          have psl : ps.length = 2 := by rw [eps]; rfl
          have el2 : es.length = row.length := xl
          have hl2 := s2 _ _ hl
          have hx2 := hx.keep (Same.tups s2)
          refine ⟨_, rfl, _, rfl, _, _, rfl, rfl, k - 1, rfl, l, es, rfl, SqL.of hl2, fun p1 f1 => ?_⟩
          rw [cutT (by omega) (by omega)]
          have s3 : Same H2 (upd H2 p1 (.lst (es.take (k - 1).toNat))) := Same.new f1
          have h3 : upd H2 p1 (.lst (es.take (k - 1).toNat)) p1 = some (.lst (es.take (k - 1).toNat)) := upd_same
          generalize upd H2 p1 (.lst (es.take (k - 1).toNat)) = H3 at s3 h3 ⊢
          refine ⟨_, rfl, p1, lp, _, _, rfl, rfl, h3, s3 _ _ hlp, by rw [List.length_take]; omega, fun p2 f2 => ?_⟩
          have s4 := s3.trans (Same.new (o := .lst (es.take (k - 1).toNat ++ ps)) f2)
          have h4 : upd H3 p2 (.lst (es.take (k - 1).toNat ++ ps)) p2 = some (.lst (es.take (k - 1).toNat ++ ps)) := upd_same
          generalize upd H3 p2 (.lst (es.take (k - 1).toNat ++ ps)) = H4 at s4 h4 ⊢
          refine ⟨_, rfl, _, rfl, _, _, rfl, rfl, k + 1, rfl, ?_⟩
          unfold tNoPart
          refine ⟨l, es, rfl, SqL.of (s4 _ _ hl2), fun p3 f3 => ?_⟩
          rw [cutD (by omega)]
          have s5 := s4.trans (Same.new (o := .lst (es.drop (k + 1).toNat)) f3)
          have h5 : upd H4 p3 (.lst (es.drop (k + 1).toNat)) p3 = some (.lst (es.drop (k + 1).toNat)) := upd_same
          have h45 := Same.new (o := .lst (es.drop (k + 1).toNat)) f3 _ _ h4
          generalize upd H4 p3 (.lst (es.drop (k + 1).toNat)) = H5 at s5 h5 h45 ⊢
          refine ⟨p2, p3, _, _, rfl, rfl, h45, h5, by rw [List.length_append, List.length_take, List.length_drop]; omega, fun p4 f4 => ?_⟩
          have s6 := s5.trans (Same.new (o := .lst (es.take (k - 1).toNat ++ ps ++ es.drop (k + 1).toNat)) f4)
          refine kQ false hway (by omega) (by omega) p4 _ _ ((s2.trans s5).free f4) upd_same ?_ (s2.trans s6)
          unfold mvM
          rw [er1, er2, show (k - 1).toNat + 2 = (k + 1).toNat by omega]
          exact (((hx2.keep (Same.tups s6)).take _).append (xp.keep (Same.tups s6))).append ((hx2.keep (Same.tups s6)).drop _)
      · have e0 : decide (way ∈ undoing.map (·.1)) = false := decide_eq_false hw
        rw [e0]
        refine iteT ⟨(by show 1 ≤ sizeLine; decide), kE (fun z => ?_) _ (Same.refl H)⟩
        obtain ⟨_, _, f, rfl⟩ := z
        refine hw ?_
        cases f <;> simp [undoing, wayS]
    · have e0 : decide (1 ≤ k ∧ k ≤ (es.length : Int) - 1) = false := decide_eq_false hk
      rw [e0]
      refine iteT ⟨(by show 1 ≤ sizeLine; decide), kE (fun z => hk ?_) _ (Same.refl H)⟩
      omega
end
end Sw
namespace Sw
open PySem L2
def spWkX (C : Addr) : Sp := fun vs H Q E => ∃ (l m : Addr) (es ws : List V) (row : List (Int × Int)) (ms : List (Int × Str)), vs = [.ref l, .ref m] ∧ H l = some (.lst es) ∧ Exs H es row ∧ row.length ≤ 1000 ∧ H m = some (.lst ws) ∧ Mvs H ws ms ∧
  (∀ r, walkM row ms = some r → ∀ l' es' H', H l' = none → H' l' = some (.lst es') → Exs H' es' r → Same H H' → Q (.ref l') H') ∧
  (walkM row ms = none → ∀ H', Same H H' → E (.ref C) none H')
structure TWk (P : Program) (w : World) (K : PySem.W.Frag) (mg : Str → Option Value) (base : Heap) (C : Addr) : Prop extends T1 mg K where
  f_moved : FnAtX P w K mg base "moved" 3 ["row", "k", "way"] (spMvX C)
section
variable {P : Program} {w : World} {K : PySem.W.Frag} {mg : Str → Option Value} {base : Heap} {C : Addr}
theorem sc_walked : FnScope ["row", "moves", "reached", "k", "way"] ["row", "moves"] (defScope (top 38)) := ⟨rfl, rfl, rfl, by decide +kernel, rfl, by decide +kernel, by decide +kernel⟩
theorem ok_wkX {f : Addr} {fd : FuncData} (F : Fun K "walked" "walked" (top 38) f fd) (T : TWk P w K mg base C) : FnOk P w K mg base (CX1 P w) 4 f fd ["row", "moves"] (spWkX C) := by
  refine F.okX sc_walked (fun vs H Q E h => ?_) (fun cdv A outer s H vs Q E hr h => ?_)
  · obtain ⟨l, m, es, ws, row, ms, rfl, _⟩ := h
    rfl
  · obtain ⟨l, m, es, ws, row, ms, rfl, hl, hx, rl, hm, hw, kQ, kE⟩ := h
    refine ⟨_, (pss_cons (ps_set (i := 2) sc_walked.nd rfl (Or.inl rfl) (pe_callTy (call_list_ofK (K := K) rfl) rfl T.b_list (by decide +kernel) (pa_cons (pv 0) pa_nil)))
      (pss_cons (ps_for own1 rfl (pi_listK (K := K) rfl (pv 1)) (pg_tupK (K := K) (n := 2) rfl rfl (pgs_cons (pg_name (i := 3) sc_walked.nd rfl (Or.inl rfl)) (pgs_cons (pg_name (i := 4) sc_walked.nd rfl (Or.inl rfl)) pgs_nil))) (pss_one (ps_set (i := 2) sc_walked.nd rfl (Or.inl rfl) (pe_callX1 T.f_moved pass1 (hr.mono (by decide)) rfl (@pa_cons _ _ _ _ _ (pv 2) (@pa_cons _ _ _ _ _ (pv 3) (@pa_cons _ _ _ _ _ (pv 4) pa_nil st_name) st_name) st_name)))))
      (pss_one (ps_ret (pv 2))))), ?_⟩
    refine ⟨_, rfl, l, _, rfl, .inl (SqL.of hl), fun l0 f0 => ?_⟩
    have s1 : Same H (upd H l0 (.lst es)) := Same.new f0
    refine ⟨_, rfl, m, rfl, ⟨_, SqL.of (s1 _ _ hm)⟩, for_list (K := K) (a := m) (xs := ws) (fun i σ H' => ∃ lr er rr v3 v4, σ = [some (.ref l), some (.ref m), some (.ref lr), v3, v4] ∧ Same H H' ∧ H lr = none ∧ H' lr = some (.lst er) ∧ Exs H' er rr ∧ walkM row (ms.take i) = some rr)
      ⟨l0, es, row, _, _, rfl, s1, f0, upd_same, hx.keep (Same.tups s1), rfl⟩ (fun i σ H' _ q => by obtain ⟨_, _, _, _, _, _, q, _⟩ := q; exact SqL.of (q _ _ hm)) ?_ ?_⟩
    · rintro i x σ H' hi ⟨lr, er, rr, v3, v4, rfl, s2, flr, hlr, xr, wk⟩
      obtain ⟨t, k, way, rfl, ht, hmi⟩ := hw.get hi
      have rrl := walk_len wk
      refine ⟨t, _, rfl, SqT.of (s2 _ _ ht), rfl, _, _, rfl, _, _, rfl, rfl, ?_⟩
      refine ⟨_, rfl, _, rfl, _, rfl, lr, er, rr, k, way, rfl, hlr, xr, by omega, fun fw hf k1 k2 l2 e2 H2 f2 h2 x2 s3 => ?_, fun hb H2 s3 => ?_⟩
      · refine ⟨l2, e2, _, _, _, rfl, s2.trans s3, s2.free f2, h2, x2, ?_⟩
        rw [walk_take hmi wk, hf, step_some k1 k2]
      · exact kE (walk_dead hmi wk (step_none hb)) H2 (s2.trans s3)
    · rintro σ H' ⟨lr, er, rr, v3, v4, rfl, s2, flr, hlr, xr, wk⟩
      have wl := hw.length
      rw [List.take_of_length_le (by omega)] at wk
      exact ⟨_, rfl, kQ rr wk lr er H' flr hlr xr s2⟩
end
end Sw
namespace Sw
open PySem L2
def IsOrd (d : PyData) : Prop := ∃ ns : List Int, d = .tuple (ns.map PyData.int) ∧ 1 ≤ ns.length ∧ ns.length ≤ 12 ∧ ns.Perm (ivl 1 ((ns.length : Int) + 1))
def spIsOrd : Sp := fun vs H Q _ => ∃ (v : V) (P : Addr → Prop) (d : PyData), vs = [v] ∧ DT H P v d ∧ (∀ ds, d = .tuple ds → ds.length ≤ 1000) ∧ ∀ b H', (b = true ↔ IsOrd d) → Same H H' → Q (.bl b) H'
structure TIo (P : Program) (w : World) (K : PySem.W.Frag) (mg : Str → Option Value) (base : Heap) (u : Value) : Prop extends T1 mg K where
  b_sorted : mg "sorted" = none
  g_MOST_THINGS : mg "MOST_THINGS" = some u
  r_MOST_THINGS : RelV (.int 12) u
  f_is_whole : FnAt P w K mg base "is_whole" 1 ["thing"] spIwD
end Sw
namespace Sw
open PySem L2
section
variable {P : Program} {w : World} {K : PySem.W.Frag} {mg : Str → Option Value} {base : Heap}
theorem sc_is_whole : FnScope ["thing"] ["thing"] (defScope (top 6)) := ⟨rfl, rfl, rfl, by decide +kernel, rfl, by decide +kernel, by decide +kernel⟩
theorem ok_iwD {f : Addr} {fd : FuncData} (F : Fun K "is_whole" "is_whole" (top 6) f fd) (T : T1 mg K) : FnOk P w K mg base CX0 1 f fd ["thing"] spIwD := by
  refine F.ok sc_is_whole (fun vs H Q E h => ?_) (fun cdv A outer s H vs Q E hr h => ?_)
  · obtain ⟨v, P, d, rfl, _⟩ := h
    rfl
  · obtain ⟨v, P, d, rfl, hd, k⟩ := h
    refine ⟨_, (pss_one (ps_ret (pe_and (pe_callB (call_isiK (K := K) rfl) rfl T.b_isinstance (by decide +kernel) (pa_cons (pv 0) (pa_cons (pe_bltn (v := .ty "int") rfl T.b_int (by decide +kernel) rfl) pa_nil))) (pe_one (pe_not (pe_callB (call_isiK (K := K) rfl) rfl T.b_isinstance (by decide +kernel) (pa_cons (pv 0) (pa_cons (pe_bltn (v := .ty "bool") rfl T.b_bool (by decide +kernel) rfl) pa_nil)))))))), ?_⟩
    refine ⟨_, rfl, _, _, "int", _, rfl, hd.ty, kit_int K hd, _, rfl, ite2 (fun c => ?_) (fun c => ?_)⟩
    · refine ⟨_, rfl, _, _, "bool", _, rfl, hd.ty, kit_bool K hd, _, rfl, ?_⟩
      cases hd <;> first | exact k | exact absurd c Bool.false_ne_true
    · cases hd <;> first | exact k | exact absurd rfl c
theorem sc_is_between : FnScope ["thing", "low", "high"] ["thing", "low", "high"] (defScope (top 7)) := ⟨rfl, rfl, rfl, by decide +kernel, rfl, by decide +kernel, by decide +kernel⟩
theorem ok_btD {f : Addr} {fd : FuncData} (F : Fun K "is_between" "is_between" (top 7) f fd) (T : TD P w K mg base) : FnOk P w K mg base CX0 2 f fd ["thing", "low", "high"] spBtD := by
  refine F.ok sc_is_between (fun vs H Q E h => ?_) (fun cdv A outer s H vs Q E hr h => ?_)
  · obtain ⟨v, P, d, lo, hi, rfl, _⟩ := h
    rfl
  · obtain ⟨v, P, d, lo, hi, rfl, hd, k⟩ := h
    refine ⟨_, (pss_one (ps_ret (pe_and (pe_callF T.f_is_whole (hr.mono (by first | decide | omega)) rfl (pa_cons (pv 0) pa_nil)) (pe_one (pe_chain op_le op_le (pv 1) (pv 0) (pv 2)))))), ?_⟩
    refine ⟨_, rfl, v, P, d, rfl, hd, _, rfl, ?_⟩
    cases hd with
    | int x =>
      refine iteT ?_
      refine ⟨_, rfl, _, rfl, _, _, rfl, rfl, _, rfl, ite2 (fun c => ?_) (fun c => ?_)⟩
      · have c : lo ≤ x := of_decide_eq_true c
        have e : btw lo hi (.int x) = decide (x ≤ hi) := by show decide (lo ≤ x ∧ x ≤ hi) = _; rw [Bool.eq_iff_iff]; simp [c]
        rw [e] at k
        exact ⟨_, rfl, _, _, rfl, rfl, k⟩
      · have c : ¬ lo ≤ x := of_decide_eq_false (by simpa using c)
        have e : btw lo hi (.int x) = false := by show decide (lo ≤ x ∧ x ≤ hi) = _; simp [c]
        rw [e] at k
        exact k
    | _ => exact iteF k
theorem sc_is_exchange : FnScope ["n", "thing"] ["n", "thing"] (defScope (top 20)) := ⟨rfl, rfl, rfl, by decide +kernel, rfl, by decide +kernel, by decide +kernel⟩
theorem ok_isex {f : Addr} {fd : FuncData} (F : Fun K "is_exchange" "is_exchange" (top 20) f fd) (T : TD2 P w K mg base) : FnOk P w K mg base CX0 4 f fd ["n", "thing"] spIsEx := by
  refine F.ok sc_is_exchange (fun vs H Q E h => ?_) (fun cdv A outer s H vs Q E hr h => ?_)
  · obtain ⟨v, P, d, n, rfl, _⟩ := h
    rfl
  · obtain ⟨v, P, d, n, rfl, hd, k⟩ := h
    refine ⟨_, (pss_cons (ps_if (PW.pt (pw_or (pt_not (pt_val (pe_callB (call_isiK (K := K) rfl) rfl T.b_isinstance (by decide +kernel) (pa_cons (pv 1) (pa_cons (pe_bltn (v := .ty "tuple") rfl T.b_tuple (by decide +kernel) rfl) pa_nil))))) (pw_or1 (pt_cmpR op_ne (pe_callB (call_lenK (K := K) rfl) rfl T.b_len (by decide +kernel) (pa_cons (pv 1) pa_nil)) pe_int (nomark _))))) (pss_one (ps_ret pe_bl)) pss_nil)
      (pss_one (ps_ret (pe_and (pe_callB (call_allK (K := K) rfl rfl) rfl T.b_all (by decide +kernel) (pa_cons (pe_comp (N := (["number", "n"] : List Str)) (ix := ([none, some 0] : List (Option Nat))) (comp_ok rfl rfl) rfl (pi_tupK (K := K) rfl (pv 1)) (fun _ _ _ _ => (pg_name (i := 0) (show List.Nodup (["number", "n"] : List Str) from by decide +kernel) rfl (Or.inl rfl))) (fun _ _ _ _ => pif_nil) (fun _ _ _ _ => (pe_callF T.f_is_between (hr.mono (by first | decide | omega)) rfl (@pa_cons _ _ _ _ _ (pv 0) (@pa_cons _ _ _ _ _ pe_int (@pa_cons _ _ _ _ _ (pv 1) pa_nil st_name) st_con) st_name)))) pa_nil)) (pe_one (pe_cmpR op_lt (pe_ix (ix_tupK (K := K) rfl) (pv 1) pe_int (fun _ _ => rfl)) (pe_ix (ix_tupK (K := K) rfl) (pv 1) pe_int (fun _ _ => rfl)) (nomark _))))))), ?_⟩
    refine ⟨_, rfl, _, _, "tuple", _, rfl, hd.ty, kit_tuple K hd, _, rfl, ?_⟩
    cases hd with
    | @tup a us ds ha pa rs =>
      refine iteF ?_
      have ul := rs.length
      refine ⟨_, rfl, a, _, rfl, .inr (SqT.of ha), rfl, _, rfl, ite2 (fun c => ?_) (fun c => ?_)⟩
      · have c : ds.length ≠ 2 := by
          intro z
          rw [ul, z] at c
          exact absurd c (by decide)
        have e : isex n (.tuple ds) = false := by
          match ds, c with
          | [], _ => rfl
          | [_], _ => rfl
          | [_, _], c => exact absurd rfl c
          | _ :: _ :: _ :: _, _ => rfl
        rw [e] at k
        exact k H (Same.refl H)
      · have c : ds.length = 2 := by
          apply Classical.byContradiction
          intro z
          have : decide (V.int (us.length : Int) = V.int 2) = false := decide_eq_false (by intro q; have := V.int.inj q; omega)
          rw [this] at c
          exact absurd rfl c
        match ds, us, rs, c with
        | [x, y], [vx, vy], .cons hx (.cons hy .nil), _ =>
          refine ⟨_, rfl, a, rfl, ⟨_, SqT.of ha⟩, compT (K := K) (a := a) (xs := [vx, vy]) (k := 0) (fun i ys σ' H' => ys = (([x, y].take i).map (btw 1 n)).map V.bl ∧ (∃ v, σ' = [v, some (.int n)]) ∧ H' = H) (by show 2 ≤ 1000000; decide) ⟨rfl, ⟨none, rfl⟩, rfl⟩ (fun i ys σ' H' _ q => by rw [q.2.2]; exact SqT.of ha) (fun i ys σ' H' q => by rw [q.1, List.length_map, List.length_map, List.length_take]; omega) ?_ ?_⟩
          · rintro i ys σ' H' z R hz ⟨rfl, ⟨v, rfl⟩, rfl⟩ done
            obtain ⟨d, hd, hdz⟩ := (DTs.cons hx (DTs.cons hy DTs.nil)).get hz
            refine ⟨_, rfl, _, rfl, z, P, d, 1, n, rfl, hdz, done _ _ _ ⟨?_, ⟨_, rfl⟩, rfl⟩⟩
            rw [all_take hd, List.map_append]
            rfl
          · rintro ys σ' H' q ⟨rfl, ⟨v, rfl⟩, rfl⟩ fq
            have s1 : Same H' (upd H' q (.lst (([x, y].map (btw 1 n)).map V.bl))) := Same.new fq
            refine ⟨q, [x, y].map (btw 1 n), rfl, SqL.of upd_same, _, rfl, ite2 (fun c2 => ?_) (fun c2 => ?_)⟩
            · have c2 : btw 1 n x = true ∧ btw 1 n y = true := by simpa using c2
              refine ⟨_, rfl, a, _, _, _, rfl, rfl, SqT.of (s1 _ _ ha), rfl, _, rfl, a, _, _, _, rfl, rfl, SqT.of (s1 _ _ ha), rfl, ?_⟩
              cases hx with
              | int i =>
                cases hy with
                | int j =>
                  have e : isex n (.tuple [.int i, .int j]) = decide (i < j) := by show ((btw 1 n (.int i) && btw 1 n (.int j)) && decide (i < j)) = _; rw [c2.1, c2.2]; rfl
                  rw [e] at k
                  exact ⟨_, _, rfl, rfl, k _ s1⟩
                | _ => exact absurd c2.2 Bool.false_ne_true
              | _ => exact absurd c2.1 Bool.false_ne_true
            · have e : isex n (.tuple [x, y]) = false := by
                show ((btw 1 n x && btw 1 n y) && lt2 x y) = false
                have : (btw 1 n x && btw 1 n y) = false := by simpa using c2
                rw [this]; rfl
              rw [e] at k
              exact k _ s1
    | _ => exact iteT (k H (Same.refl H))
theorem sc_is_row : FnScope ["n", "thing"] ["n", "thing"] (defScope (top 21)) := ⟨rfl, rfl, rfl, by decide +kernel, rfl, by decide +kernel, by decide +kernel⟩
theorem ok_isrow {u : Value} {f : Addr} {fd : FuncData} (F : Fun K "is_row" "is_row" (top 21) f fd) (T : TD3 P w K mg base u) : FnOk P w K mg base CX0 6 f fd ["n", "thing"] spIsRow := by
  refine F.ok sc_is_row (fun vs H Q E h => ?_) (fun cdv A outer s H vs Q E hr h => ?_)
  · obtain ⟨v, P, d, n, rfl, _⟩ := h
    rfl
  · obtain ⟨v, P, d, n, rfl, hd, hlen, k⟩ := h
    refine ⟨_, (pss_cons (ps_if (PW.pt (pw_or (pt_not (pt_val (pe_callB (call_isiK (K := K) rfl) rfl T.b_isinstance (by decide +kernel) (pa_cons (pv 1) (pa_cons (pe_bltn (v := .ty "list") rfl T.b_list (by decide +kernel) rfl) pa_nil))))) (pw_or1 (pt_cmpR op_gt (pe_callB (call_lenK (K := K) rfl) rfl T.b_len (by decide +kernel) (pa_cons (pv 1) pa_nil)) (pe_glob rfl T.g_MOST_EXCHANGES T.r_MOST_EXCHANGES) (nomark _))))) (pss_one (ps_ret pe_bl)) pss_nil)
      (pss_one (ps_ret (pe_callB (call_allK (K := K) rfl rfl) rfl T.b_all (by decide +kernel) (pa_cons (pe_comp (N := (["exchange", "n"] : List Str)) (ix := ([none, some 0] : List (Option Nat))) (comp_ok rfl rfl) rfl (pi_listK (K := K) rfl (pv 1)) (fun _ _ _ _ => (pg_name (i := 0) (show List.Nodup (["exchange", "n"] : List Str) from by decide +kernel) rfl (Or.inl rfl))) (fun _ _ _ _ => pif_nil) (fun _ _ _ _ => (pe_callF T.f_is_exchange (hr.mono (by first | decide | omega)) rfl (pa_cons (pv 1) (pa_cons (pv 0) pa_nil))))) pa_nil))))), ?_⟩
    refine ⟨_, rfl, _, _, "list", _, rfl, hd.ty, kit_list K hd, _, rfl, ?_⟩
    cases hd with
    | @lst a us ds ha pa rs =>
      refine iteF ?_
      have ul := rs.length
      have dl := hlen ds rfl
      refine ⟨_, rfl, a, _, rfl, .inl (SqL.of ha), _, _, rfl, rfl, _, rfl, ite2 (fun c => ?_) (fun c => ?_)⟩
      · have c : 60 < us.length := by have := of_decide_eq_true c; omega
        have e : isrow n (.list ds) = false := by
          show (decide (ds.length ≤ 60) && _) = false
          rw [decide_eq_false (by omega)]; rfl
        rw [e] at k
        exact k H (Same.refl H)
      · have c : us.length ≤ 60 := by
          apply Classical.byContradiction
          intro z
          have : decide ((60 : Int) < (us.length : Int)) = true := decide_eq_true (by omega)
          exact c this
        refine ⟨_, rfl, a, rfl, ⟨_, SqL.of ha⟩, compL (K := K) (a := a) (xs := us) (k := 0) (fun i ys σ' H' => ys = ((ds.take i).map (isex n)).map V.bl ∧ (∃ v, σ' = [v, some (.int n)]) ∧ Same H H') (by omega) ⟨rfl, ⟨none, rfl⟩, Same.refl _⟩ (fun i ys σ' H' _ q => SqL.of (q.2.2 _ _ ha)) (fun i ys σ' H' q => by rw [q.1, List.length_map, List.length_map, List.length_take]; omega) ?_ ?_⟩
        · rintro i ys σ' H' z R hz ⟨rfl, ⟨v, rfl⟩, s1⟩ done
          obtain ⟨d, hd, hdz⟩ := rs.get hz
          refine ⟨_, rfl, _, rfl, z, P, d, n, rfl, DT.same hdz s1, fun H2 s2 => done _ _ _ ⟨?_, ⟨_, rfl⟩, s1.trans s2⟩⟩
          rw [all_take hd, List.map_append]
          rfl
        · rintro ys σ' H' q ⟨rfl, ⟨v, rfl⟩, s1⟩ fq
          rw [List.take_of_length_le (by omega)]
          refine ⟨q, ds.map (isex n), rfl, SqL.of upd_same, ?_⟩
          have e : isrow n (.list ds) = (ds.map (isex n)).all id := by
            show (decide (ds.length ≤ 60) && ds.all (isex n)) = _
            rw [decide_eq_true (by omega), List.all_map]; rfl
          rw [e] at k
          exact k _ (s1.trans (Same.new fq))
    | _ => exact iteT (k H (Same.refl H))
end
end Sw
namespace Sw
open PySem L2
structure T2 (P : Program) (w : World) (K : PySem.W.Frag) (mg : Str → Option Value) (base : Heap) : Prop extends T1 mg K where
  f_plain : FnAt P w K mg base "plain" 1 ["n"] spPlain
  f_exchanged : FnAt P w K mg base "exchanged" 1 ["exchange", "thing"] spEx
end Sw
namespace Sw
open PySem L2
def Pool (H : Hp) (p : Addr) : Prop := ∃ a b : Int, H p = some (.lst [.int a, .int b]) ∧ 0 ≤ a ∧ 0 ≤ b ∧ b < 2147483647
def spPool (K : PySem.W.Frag) : Sp := fun vs H Q _ => ∃ (a : Addr) (ns : List Int) (i : Int), vs = [.ref a, .int i] ∧ SqL K H a (ns.map V.int) ∧ 0 ≤ i ∧ i ≤ 1000 ∧ ∀ p H', H p = none → Pool H' p → Same H H' → Q (.ref p) H'
def spTk : Sp := fun vs H Q _ => ∃ (p : Addr) (m : Int), vs = [.ref p, .int m] ∧ Pool H p ∧ 0 < m ∧ m < 2 ^ 200 ∧ ∀ r H', 0 ≤ r → r < m → Pool H' p → SameX p H H' → Q (.int r) H'
theorem Pool.at {H : Hp} {p : Addr} (h : Pool H p) : ∃ xs, H p = some (.lst xs) := by
  obtain ⟨a, b, e, _⟩ := h
  exact ⟨_, e⟩
theorem Pool.ne {H : Hp} {p q : Addr} (h : Pool H p) (n : H q = none) : p ≠ q := by
  obtain ⟨xs, e⟩ := h.at
  exact ne_of_none e n
theorem Pool.keep {H H' : Hp} {p : Addr} (h : Pool H p) (k : Same H H') : Pool H' p := by
  obtain ⟨a, b, e, r⟩ := h
  exact ⟨a, b, k _ _ e, r⟩
theorem Pool.upd {H : Hp} {p q : Addr} {o : HO} (h : Pool H p) (n : p ≠ q) : Pool (L2.upd H q o) p := by
  obtain ⟨a, b, e, r⟩ := h
  exact ⟨a, b, by rw [upd_ne n]; exact e, r⟩
section
variable {P : Program} {w : World} {K : PySem.W.Frag} {mg : Str → Option Value} {base : Heap}
theorem sc__law_take : FnScope ["_law_pool_here", "_law_many", "_law_found"] ["_law_pool_here", "_law_many"] (defScope (top 65)) := ⟨rfl, rfl, rfl, by decide +kernel, rfl, by decide +kernel, by decide +kernel⟩
theorem ok_tk {f : Addr} {fd : FuncData} (F : Fun K "_law_take" "_law_take" (top 65) f fd) : FnOk P w K mg base CX0 1 f fd ["_law_pool_here", "_law_many"] spTk := by
  refine F.ok sc__law_take (fun vs H Q E h => ?_) (fun cdv A outer s H vs Q E hr h => ?_)
  · obtain ⟨p, m, rfl, _⟩ := h
    rfl
  · obtain ⟨p, m, rfl, ⟨a, b, hp, ha, hb, hb2⟩, hm, hm2, k⟩ := h
    refine ⟨_, (pss_cons (ps_if (pt_cmpR op_gt (pe_ix (ix_listK (K := K) rfl) (pv 0) pe_int (fun _ _ => rfl)) pe_int (nomark _)) (pss_cons (ps_set (i := 2) sc__law_take.nd rfl (Or.inl rfl) (pe_op op_mod (pe_ix (ix_listK (K := K) rfl) (pv 0) pe_int (fun _ _ => rfl)) (pv 1)))
      (pss_cons (ps_asg (pe_op op_fdivL (pe_ix (ix_listK (K := K) rfl) (pv 0) pe_int (fun _ _ => rfl)) (pv 1)) (pg_sub (pv 0) pe_int set_list))
      (pss_one (ps_ret (pv 2))))) pss_nil)
      (pss_cons (ps_asg (pe_op op_mod (pe_op op_add (pe_op op_mul (pe_ix (ix_listK (K := K) rfl) (pv 0) pe_int (fun _ _ => rfl)) pe_int) pe_int) pe_int) (pg_sub (pv 0) pe_int set_list))
      (pss_one (ps_ret (pe_op op_mod (pe_op op_fdivL (pe_op op_mod (pe_op op_pow (pe_ix (ix_listK (K := K) rfl) (pv 0) pe_int (fun _ _ => rfl)) pe_int) pe_int) pe_int) (pv 1)))))), ?_⟩
    refine ⟨_, rfl, p, _, _, _, rfl, rfl, SqL.of hp, rfl, _, _, rfl, rfl, _, rfl, ?_⟩
    refine ite2 (fun _ => ?_) (fun _ => ?_)
    · refine ⟨_, rfl, p, _, _, _, rfl, rfl, SqL.of hp, rfl, _, rfl, _, _, rfl, rfl, hm, ?_⟩
      refine ⟨_, rfl, p, _, _, _, rfl, rfl, SqL.of hp, rfl, _, rfl, _, _, rfl, rfl, ⟨hm, hm2⟩, _, rfl, p, _, _, 0, rfl, rfl, hp, rfl, ?_⟩
      refine ⟨_, rfl, ?_⟩
      exact k _ _ (Int.emod_nonneg _ (by omega)) (Int.emod_lt_of_pos _ hm) ⟨_, _, upd_same, Int.ediv_nonneg ha (by omega), hb, hb2⟩ SameX.upd
    · have posM : (0 : Int) < 2147483647 := by decide
      have posN : (0 : Int) < 2147483629 := by decide
      refine ⟨_, rfl, p, _, _, _, rfl, rfl, SqL.of hp, rfl, _, _, rfl, rfl, .inl ⟨by omega, by omega⟩, _, _, rfl, rfl, _, _, rfl, rfl, posM, _, rfl, p, _, _, 1, rfl, rfl, hp, rfl, ?_⟩
      have o0 : 0 ≤ (b * 48271 + 11) % 2147483647 := Int.emod_nonneg _ (by decide)
      have o1 : (b * 48271 + 11) % 2147483647 < 2147483647 := Int.emod_lt_of_pos _ (by decide)
      have h1 : upd H p (.lst [.int a, .int ((b * 48271 + 11) % 2147483647)]) p = some (.lst [.int a, .int ((b * 48271 + 11) % 2147483647)]) := upd_same
      refine ⟨_, rfl, p, _, _, _, rfl, rfl, SqL.of h1, rfl, _, _, rfl, rfl, ⟨by decide, by decide, by omega⟩, _, _, rfl, rfl, posN, _, _, rfl, rfl, ⟨by decide, by decide⟩, _, rfl, _, _, rfl, rfl, hm, ?_⟩
      exact k _ _ (Int.emod_nonneg _ (by omega)) (Int.emod_lt_of_pos _ hm) ⟨_, _, h1, ha, o0, o1⟩ SameX.upd
theorem sc__law_pool : FnScope ["_law_script", "_law_at", "_law_cell", "_law_far", "_law_primes"] ["_law_script", "_law_at"] (defScope (top 64)) := ⟨rfl, rfl, rfl, by decide +kernel, rfl, by decide +kernel, by decide +kernel⟩
theorem ok_pool {f : Addr} {fd : FuncData} (F : Fun K "_law_pool" "_law_pool" (top 64) f fd) (T : TPurse mg) : FnOk P w K mg base CX0 1 f fd ["_law_script", "_law_at"] (spPool K) := by
  refine F.ok sc__law_pool (fun vs H Q E h => ?_) (fun cdv A outer s H vs Q E hr h => ?_)
  · obtain ⟨a, ns, i, rfl, _⟩ := h
    rfl
  · obtain ⟨a, ns, i, rfl, hs, hi, hi2, k⟩ := h
    refine ⟨_, (@pss_cons _ _ _ _ _ (ps_set (i := 2) sc__law_pool.nd rfl (Or.inl rfl) (pe_op op_add (pe_op op_mul pe_int (pv 1)) pe_int))
      (@pss_cons _ _ _ _ _ (ps_if (pt_cmpR op_lt (pv 1) (pe_callB (call_lenK (K := K) rfl) rfl T.b_len (by decide +kernel) (pa_cons (pv 0) pa_nil)) (nomark _)) (pss_one (ps_set (i := 2) sc__law_pool.nd rfl (Or.inl rfl) (pe_ix (ix_listK (K := K) rfl) (pv 0) (pv 1) (fun _ _ => rfl)))) pss_nil)
      (@pss_cons _ _ _ _ _ (ps_set (i := 3) sc__law_pool.nd rfl (Or.inl rfl) (pe_callB call_abs rfl T.b_abs (by decide +kernel) (pa_cons (pv 2) pa_nil)))
      (@pss_cons _ _ _ _ _ (ps_if (pt_cmpR op_lt (pv 3) (pe_op op_pow pe_int pe_int) (nomark _)) (pss_one (ps_set (i := 3) sc__law_pool.nd rfl (Or.inl rfl) pe_int)) pss_nil)
      (@pss_cons _ _ _ _ _ (@ps_set _ _ 4 _ _ _ _ sc__law_pool.nd rfl (Or.inl rfl) (@pe_tup _ _ _ _ _ (@pa_consts _ _ [V.int 2147483629, V.int 2147483587, V.int 2147483579, V.int 2147483563, V.int 2147483549, V.int 2147483543, V.int 2147483497, V.int 2147483489] rfl)) (by rfl) (by first | exact .inl rfl | exact .inr rfl))
      (pss_one (ps_ret (pe_lst (pa_cons (pv 3) (pa_cons (pe_op op_mod (pe_op op_add (pe_op op_add (pe_op op_mul (pe_op op_mod (pv 2) (pe_ix (ix_tupK (K := K) rfl) (pv 4) (pe_op op_mod (pv 1) pe_int) (fun _ _ => rfl))) pe_int) (pe_op op_mul pe_int (pv 1))) pe_int) pe_int) pa_nil)))))))))), ?_⟩
    have posM : (0 : Int) < 2147483647 := by decide
    have pos8 : (0 : Int) < 8 := by decide
    refine ⟨_, rfl, _, _, rfl, rfl, .inl ⟨by decide, by decide⟩, _, _, rfl, rfl, ?_⟩
    refine ⟨_, rfl, _, rfl, a, _, rfl, .inl hs, _, _, rfl, rfl, _, rfl, ?_⟩
    have pr : ∃ z, ([2147483629, 2147483587, 2147483579, 2147483563, 2147483549, 2147483543, 2147483497, 2147483489] : List Int)[(i % 8).toNat]? = some z ∧ 0 < z ∧ z < 2147483647 := by
      have : i % 8 = 0 ∨ i % 8 = 1 ∨ i % 8 = 2 ∨ i % 8 = 3 ∨ i % 8 = 4 ∨ i % 8 = 5 ∨ i % 8 = 6 ∨ i % 8 = 7 := by omega
      rcases this with h | h | h | h | h | h | h | h <;> (rw [h]; exact ⟨_, rfl, by decide, by decide⟩)
    obtain ⟨z, hz, z0, z1⟩ := pr
    have i8 : 0 ≤ i % 8 := Int.emod_nonneg _ (by decide)
    have tk : ∀ x : Int, (0 : Int) ≤ x % z ∧ x % z < z := fun x => ⟨Int.emod_nonneg _ (by omega), Int.emod_lt_of_pos _ z0⟩
    refine ite2 (fun hlt => ?_) (fun _ => ?_)
    · have hlt : i < ((ns.map V.int).length : Int) := of_decide_eq_true hlt
      rw [List.length_map] at hlt
      obtain ⟨x, hx⟩ := get_lt (ns := ns) (k := i.toNat) (by omega)
      refine ⟨_, rfl, _, rfl, a, _, _, _, rfl, rfl, hs, at_int hi hx, ?_⟩
      have := tk x
      refine ⟨_, rfl, x, rfl, ?_⟩
      refine ⟨_, rfl, _, _, rfl, rfl, ⟨by decide, by decide, by decide⟩, _, _, rfl, rfl, _, rfl, ite2 (fun _ => ?_) (fun hf => ?_)⟩
      · skip
        refine ⟨by decide, fun tp ftp => ?_⟩
        have htp : upd H tp (.tup (([2147483629, 2147483587, 2147483579, 2147483563, 2147483549, 2147483543, 2147483497, 2147483489] : List Int).map V.int)) tp = some (.tup (([2147483629, 2147483587, 2147483579, 2147483563, 2147483549, 2147483543, 2147483497, 2147483489] : List Int).map V.int)) := upd_same
        refine ⟨_, rfl, _, rfl, _, rfl, _, rfl, _, _, rfl, rfl, pos8, tp, _, _, _, rfl, rfl, SqT.of htp, at_int i8 hz, _, _, rfl, rfl, z0, _, _, rfl, rfl, .inr ⟨by decide, by decide⟩, _, rfl, _, _, rfl, rfl, .inl ⟨by decide, by decide⟩, _, _, rfl, rfl, _, _, rfl, rfl, _, _, rfl, rfl, posM, (by show 2 ≤ sizeLine; decide), fun p hp => ?_⟩
        have np : H p = none := by cases e : H p with | none => rfl | some o => rw [upd_ne (ne_of_none e ftp)] at hp; rw [e] at hp; cases hp
        refine k p _ np ⟨_, _, upd_same, Int.le_refl _, Int.emod_nonneg _ (by decide), Int.emod_lt_of_pos _ (by decide)⟩ (Same.put (Same.new ftp) np)
      · refine ⟨by decide, fun tp ftp => ?_⟩
        have htp : upd H tp (.tup (([2147483629, 2147483587, 2147483579, 2147483563, 2147483549, 2147483543, 2147483497, 2147483489] : List Int).map V.int)) tp = some (.tup (([2147483629, 2147483587, 2147483579, 2147483563, 2147483549, 2147483543, 2147483497, 2147483489] : List Int).map V.int)) := upd_same
        refine ⟨_, rfl, _, rfl, _, rfl, _, rfl, _, _, rfl, rfl, pos8, tp, _, _, _, rfl, rfl, SqT.of htp, at_int i8 hz, _, _, rfl, rfl, z0, _, _, rfl, rfl, .inr ⟨by decide, by decide⟩, _, rfl, _, _, rfl, rfl, .inl ⟨by decide, by decide⟩, _, _, rfl, rfl, _, _, rfl, rfl, _, _, rfl, rfl, posM, (by show 2 ≤ sizeLine; decide), fun p hp => ?_⟩
        have np : H p = none := by cases e : H p with | none => rfl | some o => rw [upd_ne (ne_of_none e ftp)] at hp; rw [e] at hp; cases hp
        refine k p _ np ⟨_, _, upd_same, by split <;> omega, Int.emod_nonneg _ (by decide), Int.emod_lt_of_pos _ (by decide)⟩ (Same.put (Same.new ftp) np)
    · refine ⟨_, rfl, _, rfl, ?_⟩
      refine ⟨_, rfl, _, _, rfl, rfl, ⟨by decide, by decide, by decide⟩, _, _, rfl, rfl, _, rfl, ite2 (fun _ => ?_) (fun hf => ?_)⟩
      · skip
        refine ⟨by decide, fun tp ftp => ?_⟩
        have htp : upd H tp (.tup (([2147483629, 2147483587, 2147483579, 2147483563, 2147483549, 2147483543, 2147483497, 2147483489] : List Int).map V.int)) tp = some (.tup (([2147483629, 2147483587, 2147483579, 2147483563, 2147483549, 2147483543, 2147483497, 2147483489] : List Int).map V.int)) := upd_same
        refine ⟨_, rfl, _, rfl, _, rfl, _, rfl, _, _, rfl, rfl, pos8, tp, _, _, _, rfl, rfl, SqT.of htp, at_int i8 hz, _, _, rfl, rfl, z0, _, _, rfl, rfl, .inr ⟨by decide, by decide⟩, _, rfl, _, _, rfl, rfl, .inl ⟨by decide, by decide⟩, _, _, rfl, rfl, _, _, rfl, rfl, _, _, rfl, rfl, posM, (by show 2 ≤ sizeLine; decide), fun p hp => ?_⟩
        have np : H p = none := by cases e : H p with | none => rfl | some o => rw [upd_ne (ne_of_none e ftp)] at hp; rw [e] at hp; cases hp
        refine k p _ np ⟨_, _, upd_same, Int.le_refl _, Int.emod_nonneg _ (by decide), Int.emod_lt_of_pos _ (by decide)⟩ (Same.put (Same.new ftp) np)
      · refine ⟨by decide, fun tp ftp => ?_⟩
        have htp : upd H tp (.tup (([2147483629, 2147483587, 2147483579, 2147483563, 2147483549, 2147483543, 2147483497, 2147483489] : List Int).map V.int)) tp = some (.tup (([2147483629, 2147483587, 2147483579, 2147483563, 2147483549, 2147483543, 2147483497, 2147483489] : List Int).map V.int)) := upd_same
        refine ⟨_, rfl, _, rfl, _, rfl, _, rfl, _, _, rfl, rfl, pos8, tp, _, _, _, rfl, rfl, SqT.of htp, at_int i8 hz, _, _, rfl, rfl, z0, _, _, rfl, rfl, .inr ⟨by decide, by decide⟩, _, rfl, _, _, rfl, rfl, .inl ⟨by decide, by decide⟩, _, _, rfl, rfl, _, _, rfl, rfl, _, _, rfl, rfl, posM, (by show 2 ≤ sizeLine; decide), fun p hp => ?_⟩
        have np : H p = none := by cases e : H p with | none => rfl | some o => rw [upd_ne (ne_of_none e ftp)] at hp; rw [e] at hp; cases hp
        refine k p _ np ⟨_, _, upd_same, by split <;> omega, Int.emod_nonneg _ (by decide), Int.emod_lt_of_pos _ (by decide)⟩ (Same.put (Same.new ftp) np)
end
end Sw
namespace L2
open PySem PySem.Spec PyProof.Rows PySem.SeqAt
inductive NumEs (pr : Params) : List DictEntry → List (Str × Int) → Prop
  | nil : NumEs pr [] []
  | cons {x : Str} {y : Int} {t u : Tok} {es : List DictEntry} {ps : List (Str × Int)} : NumEs pr es ps → NumEs pr ({ hash := PyData.keyHash pr x, key := .str x t, val := .int y u } :: es) ((x, y) :: ps)
structure KNum (K : PySem.W.Frag) (pr : Params) (a : Addr) (ps : List (Str × Int)) : Prop where
  sys : (a == sysModules) = false
  nd : (ps.map (·.1)).Nodup
  ex : ∃ (es : List DictEntry) (ep : Nat), K.lookup a = some { cls := .type "dict", data := .dict es.toArray ep } ∧ NumEs pr es ps
def numK (ps : List (Str × Int)) : List (Key × V) := ps.map fun p => (Sum.inr p.1, V.int p.2)
section
variable {X : Cx} {K : PySem.W.Frag}
theorem NumEs.go {pr : Params} {P : Program} {w : World} (hp : w.params = pr) : ∀ {es : List DictEntry} {ps : List (Str × Int)}, NumEs pr es ps → ∃ vs : List (Key × Value), KV (numK ps) vs ∧ (∀ e ∈ es, ∃ k, (mixKind P w).is k e.key = true ∧ e.hash = (mixKind P w).hash k) ∧ Pairs (mixKind P w) es vs ∧ vs.map (·.1) = ps.map fun p => Sum.inr p.1
  | _, _, .nil => ⟨[], .nil, by simp, .nil, rfl⟩
  | _, _, .cons (x := x) (y := y) (t := t) (u := u) r => by
    obtain ⟨vs, h1, h2, h3, h4⟩ := NumEs.go (P := P) hp r
    have hi : (mixKind P w).is (Sum.inr x) (Value.str x t) = true := by
      show Value.isStrOf x (Value.str x t) = true
      simp [Value.isStrOf]
    refine ⟨(Sum.inr x, .int y u) :: vs, ?_, ?_, .cons hi rfl h3, by rw [List.map_cons, h4]; rfl⟩
    · exact Paired.cons ⟨rfl, ⟨u, rfl⟩⟩ h1
    · intro e he
      rcases List.mem_cons.mp he with rfl | he
      · refine ⟨Sum.inr x, hi, ?_⟩
        subst hp
        rfl
      · exact h2 e he
theorem KNum.dict {pins : List (Addr × Obj)} {σ : St} {H : Hp} {s : Shared} {a : Addr} {ps : List (Str × Int)} (k : KNum X.K X.w.params a ps) (I : Inv X pins σ H s) : ∃ vs : List (Key × Value), KV (numK ps) vs ∧ s.heap.DictOf (mixKind X.prog X.w) a vs := by
  obtain ⟨es, ep, hl, ht⟩ := k.ex
  obtain ⟨vs, h1, h2, h3, h4⟩ := NumEs.go (P := X.prog) (w := X.w) rfl ht
  refine ⟨vs, h1, _, es.toArray, ep, I.kIn a _ hl, ⟨rfl, rfl, rfl⟩, rfl, fun e he => h2 e (by simpa using he), by simpa using h3, ?_⟩
  rw [h4]
  have := k.nd
  rw [show (ps.map fun p => (Sum.inr p.1 : Key)) = (ps.map (·.1)).map Sum.inr by rw [List.map_map]; rfl]
  exact this.map _ fun x y h e => h (Sum.inr.inj e)
def numOf (ps : List (Str × Int)) (k : Str) : Option Int := (ps.find? fun p => p.1 = k).map (·.2)
theorem num_val (ps : List (Str × Int)) (k : Str) : valV (numK ps) (Sum.inr k : Key) = (numOf ps k).map V.int := by
  unfold numK numOf valV
  induction ps with
  | nil => rfl
  | cons p t ih =>
    rw [List.map_cons, List.find?_cons, List.find?_cons]
    by_cases h : p.1 = k
    · have : decide ((Sum.inr p.1 : Key) = Sum.inr k) = true := decide_eq_true (by rw [h])
      simp only [this, h, decide_true]
      rfl
    · have : decide ((Sum.inr p.1 : Key) = Sum.inr k) = false := decide_eq_false fun z => h (Sum.inr.inj z)
      simp only [this, decide_eq_false h]
      exact ih
def tKGet1 (a : Addr) (ps : List (Str × Int)) (td ty : TE) : TE := fun σ H Q => td σ H fun x H1 => x = .ref a ∧ ty σ H1 fun y H2 => ∃ k, y = .str k ∧ Q (((numOf ps k).map V.int).getD .non) H2
theorem pe_kget1 {o e : Expr} {td ty : TE} {a : Addr} {apos cpos : Pos} {ps : List (Str × Int)} (kt : KNum X.K X.w.params a ps) (hu : X.A.units + 1 < cLine) (ho : PE X o td) (he : PE X e ty) (m : M1 X o "get" apos e cpos) : PE X (.Call (.Attribute o "get" apos) [e] [] cpos) (tKGet1 a ps td ty) := by
  intro pins s σ H Q I h
  refine wpAny_Call_method m.base m.few m.line PySem.F.plainAttrs_dict PySem.F.slot_dict_get PySem.F.type_dict_get (thn (ho pins s σ H _ I h) fun u s1 ⟨x, H1, I1, rx, ex, q1⟩ => ?_)
  subst ex
  obtain rfl : u = Value.ref a := rx
  obtain ⟨_, _, d1⟩ := kt.dict I1
  have t2 : ∀ b, Value.ref a = .ref b → ∃ ob, s1.heap.get? b = some ob ∧ ob.dict = none := fun b q => by
    cases q
    obtain ⟨ob, _, _, h1, h2, _⟩ := d1
    exact ⟨ob, h1, h2.2.1⟩
  refine ⟨d1.typeIs, t2, ?_⟩
  rw [m.trees]
  refine Calls.callWith_builtin rfl (Calls.evalArgs_plain (Calls.spliced_cons (thn (he pins s1 σ H1 _ I1 q1) fun iv s2 ⟨y, H2, I2, ry, k, ey, q2⟩ => Calls.spliced_nil ?_)))
  subst ey
  obtain ⟨vs, rel, dd⟩ := kt.dict I2
  refine call_meetsIn PySem.F.slot_dict_get dd.typeIs PySem.F.entry_dict_get (PySem.F.args_dict_get_2 _ _) (meets_dict_get (mixKind X.prog X.w) a (kV_is (k := Sum.inr k) ry) kt.sys) ⟨_, dd.mapOf, ⟨_, H2, I2.tok _, ?_, q2⟩⟩
  rw [← num_val]
  exact (rel.val (Sum.inr k)).getD rfl
end
end L2
namespace Sw
open PySem L2
def partsP : List (Str × Int) := [("row", 3), ("least", 3), ("walk", 5), ("half", 4), ("chain", 3), ("counts", 3)]
def isPaper : PyData → Bool
  | .tuple (.str x :: ds) => decide (numOf partsP x = some ((ds.length : Int) + 1))
  | _ => false
def spPaper (g : PyData → Bool) (R : PyData → Prop) : Sp := fun vs H Q _ => ∃ (v : V) (P : Addr → Prop) (x : Str) (ds : List PyData), vs = [.str x, v] ∧ DT H P v (.tuple (.str x :: ds)) ∧ isPaper (.tuple (.str x :: ds)) = true ∧ R (.tuple (.str x :: ds)) ∧ ∀ H', Same H H' → Q (.bl (g (.tuple (.str x :: ds)))) H'
def spHolds (g : PyData → Bool) (R : PyData → Prop) : Sp := fun vs H Q _ => ∃ (v : V) (P : Addr → Prop) (d : PyData), vs = [v] ∧ DT H P v d ∧ (isPaper d = true → R d) ∧ ∀ H', Same H H' → Q (.bl (isPaper d && g d)) H'
structure THd (P : Program) (w : World) (K : PySem.W.Frag) (mg : Str → Option Value) (base : Heap) (U : Addr) (g : PyData → Bool) (R : PyData → Prop) (n : Nat) : Prop extends T1 mg K where
  b_str : mg "str" = none
  g_PARTS : mg "PARTS_OF_PAPERS" = some (.ref U)
  r_PARTS : RelV (.ref U) (.ref U)
  k_PARTS : KNum K w.params U partsP
  f_paper_holds : FnAt P w K mg base "paper_holds" n ["word", "paper"] (spPaper g R)
section
variable {P : Program} {w : World} {K : PySem.W.Frag} {mg : Str → Option Value} {base : Heap}
def isS : PyData → Bool
  | .str _ => true
  | _ => false
theorem kit_strD (K : PySem.W.Frag) {H : Hp} {P : Addr → Prop} {v : V} {d : PyData} (h : DT H P v d) : PySem.W.kitOne K (.type (tyD d)) (.type "str") = some (isS d) := by
  cases h with
  | non => exact kit_type K (show kitB "NoneType" "str" = some false by decide +kernel)
  | bl b => exact kit_type K (show kitB "bool" "str" = some false by decide +kernel)
  | int i => exact kit_type K (show kitB "int" "str" = some false by decide +kernel)
  | str x => exact kit_type K (show kitB "str" "str" = some true by decide +kernel)
  | lst h p r => exact kit_type K (show kitB "list" "str" = some false by decide +kernel)
  | tup h p r => exact kit_type K (show kitB "tuple" "str" = some false by decide +kernel)
theorem ok_nev {x q : Str} {st : Stmt} {k : Nat} {ps : List Str} {sp : Sp} {f : Addr} {fd : FuncData} (F : Fun K x q st f fd) (no : ∀ vs H Q E, sp vs H Q E → False) : FnOk P w K mg base CX0 k f fd ps sp :=
  ⟨fun vs H Q E h => (no vs H Q E h).elim, fun _ _ _ H _ _ vs Q E _ _ _ _ h => (no vs H Q E h).elim⟩
theorem sc_holds : FnScope ["paper", "word"] ["paper"] (defScope (top 62)) := ⟨rfl, rfl, rfl, by decide +kernel, rfl, by decide +kernel, by decide +kernel⟩
theorem ok_holds {U : Addr} {g : PyData → Bool} {R : PyData → Prop} {n : Nat} {f : Addr} {fd : FuncData} (F : Fun K "holds" "holds" (top 62) f fd) (T : THd P w K mg base U g R n) : FnOk P w K mg base CX0 (n + 1) f fd ["paper"] (spHolds g R) := by
  refine F.ok sc_holds (fun vs H Q E h => ?_) (fun cdv A outer s H vs Q E hr h => ?_)
  · obtain ⟨v, P, d, rfl, _⟩ := h
    rfl
  · obtain ⟨v, P, d, rfl, hd, hR, k⟩ := h
    refine ⟨_, (pss_cons (ps_if (PW.pt (pw_or (pt_not (pt_val (pe_callB (call_isiK (K := K) rfl) rfl T.b_isinstance (by decide +kernel) (pa_cons (pv 0) (pa_cons (pe_bltn (v := .ty "tuple") rfl T.b_tuple (by decide +kernel) rfl) pa_nil))))) (pw_or (pt_cmpR op_eq (pe_callB (call_lenK (K := K) rfl) rfl T.b_len (by decide +kernel) (pa_cons (pv 0) pa_nil)) pe_int (nomark _)) (pw_or1 (pt_not (pt_val (pe_callB (call_isiK (K := K) rfl) rfl T.b_isinstance (by decide +kernel) (pa_cons (pe_ix (ix_tupK (K := K) rfl) (pv 0) pe_int (fun _ _ => rfl)) (pa_cons (pe_bltn (v := .ty "str") rfl T.b_str (by decide +kernel) rfl) pa_nil))))))))) (pss_one (ps_ret pe_bl)) pss_nil)
      (pss_cons (ps_set (i := 1) sc_holds.nd rfl (Or.inl rfl) (pe_ix (ix_tupK (K := K) rfl) (pv 0) pe_int (fun _ _ => rfl)))
      (pss_one (ps_ret (pe_and (pe_cmpR op_eq (pe_kget1 T.k_PARTS (Nat.lt_trans (Nat.add_lt_add_left (by decide) _) hr.units) (pe_glob rfl T.g_PARTS T.r_PARTS) (pv 1) ⟨rfl, rfl, rfl, rfl⟩) (pe_callB (call_lenK (K := K) rfl) rfl T.b_len (by decide +kernel) (pa_cons (pv 0) pa_nil)) (nomark _)) (pe_one (pe_callF T.f_paper_holds (hr.mono (by first | decide | omega)) rfl (pa_cons (pv 1) (pa_cons (pv 0) pa_nil))))))))), ?_⟩
    refine ⟨_, rfl, _, _, "tuple", _, rfl, hd.ty, kit_tuple K hd, _, rfl, ?_⟩
    cases hd with
    | @tup a us ds ha pa rs =>
      refine iteF ?_
      cases rs with
      | nil => exact ⟨_, rfl, a, _, rfl, .inr (SqT.of ha), rfl, _, rfl, iteT (k H (Same.refl H))⟩
      | @cons v0 d0 us ds h0 rs =>
        refine ⟨_, rfl, a, _, rfl, .inr (SqT.of ha), rfl, _, rfl, iteE (decide_eq_false fun z => by have := V.int.inj z; rw [List.length_cons] at this; omega) ?_⟩
        refine ⟨_, rfl, a, _, _, _, rfl, rfl, SqT.of ha, atI_nat (j := 0) rfl, _, _, "str", _, rfl, h0.ty, kit_strD K h0, _, rfl, ?_⟩
        cases h0 with
        | str x =>
          refine iteF ?_
          refine ⟨_, rfl, a, _, _, _, rfl, rfl, SqT.of ha, atI_nat (j := 0) rfl, ?_⟩
          refine ⟨rfl, _, rfl, x, rfl, ?_⟩
          have ul := rs.length
          cases hnum : numOf partsP x with
          | none =>
            have pp : isPaper (.tuple (.str x :: ds)) = false := by
              show decide (numOf partsP x = some _) = false
              rw [hnum]; exact decide_eq_false fun z => by cases z
            rw [pp] at k
            exact ⟨_, rfl, a, _, rfl, .inr (SqT.of ha), rfl, _, rfl, iteE (decide_eq_false fun z => by cases z) (k H (Same.refl H))⟩
          | some m =>
            have e : isPaper (.tuple (.str x :: ds)) = decide (V.int m = V.int ((V.str x :: us).length : Int)) := by
              show decide (numOf partsP x = some ((ds.length : Int) + 1)) = _
              rw [hnum, Bool.eq_iff_iff, decide_eq_true_eq, decide_eq_true_eq]
              constructor
              · intro z; have := Option.some.inj z; rw [List.length_cons]; congr 1; omega
              · intro z; have := V.int.inj z; rw [List.length_cons] at this; congr 1; omega
            refine ⟨_, rfl, a, _, rfl, .inr (SqT.of ha), rfl, _, rfl, ite2 (fun c => ?_) (fun c => ?_)⟩
            · have pp := e.trans c
              rw [pp] at k
              exact ⟨_, rfl, _, rfl, .ref a, P, x, ds, rfl, .tup ha pa (.cons (.str x) rs), pp, hR pp, fun H' s => k H' s⟩
            · have pp := e.trans (Bool.eq_false_iff.mpr fun z => c z)
              rw [pp] at k
              exact k H (Same.refl H)
        | _ => exact iteT (k H (Same.refl H))
    | _ => exact iteT (k H (Same.refl H))
end
end Sw
namespace Sw
open PySem L2
structure TR0 (P : Program) (w : World) (K : PySem.W.Frag) (mg : Str → Option Value) (base : Heap) : Prop extends T1 mg K where
  b_min : mg "min" = none
  f_round_from : FnAt P w K mg base "round_from" 1 ["order", "first"] spRf
end Sw
namespace Sw
open PySem L2
def exOf : PyData → Int × Int
  | .tuple [.int a, .int b] => (a, b)
  | _ => (0, 0)
def rowOf : PyData → List (Int × Int)
  | .list ds => ds.map exOf
  | _ => []
def intOf : PyData → Int
  | .int a => a
  | _ => 0
def intsOf : PyData → List Int
  | .tuple ds => ds.map intOf
  | _ => []
theorem isex_is {n : Int} {d : PyData} (h : isex n d = true) : d = .tuple [.int (exOf d).1, .int (exOf d).2] ∧ 1 ≤ (exOf d).1 ∧ (exOf d).1 < (exOf d).2 ∧ (exOf d).2 ≤ n := by
  unfold isex at h
  split at h
  · rename_i x y
    obtain ⟨h1, h2⟩ := Bool.and_eq_true_iff.mp h
    obtain ⟨h3, h4⟩ := Bool.and_eq_true_iff.mp h1
    cases x with
    | int i =>
      cases y with
      | int j =>
        have a1 : 1 ≤ i ∧ i ≤ n := of_decide_eq_true h3
        have a2 : 1 ≤ j ∧ j ≤ n := of_decide_eq_true h4
        have a3 : i < j := of_decide_eq_true h2
        exact ⟨rfl, a1.1, a3, a2.2⟩
      | _ => cases h4
    | _ => cases h3
  · cases h
theorem exs_of {n : Int} {H : Hp} {P : Addr → Prop} : ∀ {vs : List V} {ds : List PyData}, DTs H P vs ds → ds.all (isex n) = true → Exs H vs (ds.map exOf) ∧ Good n (ds.map exOf)
  | _, _, .nil, _ => ⟨.nil, fun e he => by cases he⟩
  | _, _, .cons (d := d) h hs, e => by
    rw [List.all_cons] at e
    obtain ⟨e1, e2⟩ := Bool.and_eq_true_iff.mp e
    obtain ⟨x, g⟩ := exs_of hs e2
    obtain ⟨q, b⟩ := isex_is e1
    rw [q] at h
    cases h with
    | tup ha _ r =>
      cases r with
      | cons r1 r2 =>
        cases r2 with
        | cons r3 r4 =>
          cases r4
          cases r1
          cases r3
          refine ⟨.cons ha x, fun z hz => ?_⟩
          rw [List.map_cons] at hz
          rcases List.mem_cons.mp hz with rfl | hz
          · exact b
          · exact g z hz
theorem isrow_at {n : Int} {H : Hp} {P : Addr → Prop} {v : V} {y : PyData} (h : DT H P v y) (e : isrow n y = true) : ∃ a us, v = .ref a ∧ H a = some (.lst us) ∧ Exs H us (rowOf y) ∧ Good n (rowOf y) ∧ (rowOf y).length ≤ 60 := by
  cases h with
  | lst ha pa r =>
    obtain ⟨e1, e2⟩ := Bool.and_eq_true_iff.mp e
    have e1 := of_decide_eq_true e1
    obtain ⟨x, g⟩ := exs_of r e2
    exact ⟨_, _, rfl, ha, x, g, by show (List.map exOf _).length ≤ 60; rw [List.length_map]; exact e1⟩
  | _ => cases e
def RowH (x y : PyData) : Prop := IsOrd x ∧ isrow ((intsOf x).length : Int) y = true ∧ ledM ((intsOf x).length : Int) (rowOf y) = intsOf x
def Few (d : PyData) : Prop := (∀ ds, d = .tuple ds → ds.length ≤ 1000) ∧ (∀ ds, d = .list ds → ds.length ≤ 1000)
def spRowH (R : PyData → PyData → Prop) : Sp := fun vs H Q _ => ∃ (v u : V) (P : Addr → Prop) (x y : PyData), vs = [v, u] ∧ DT H P v x ∧ DT H P u y ∧ Few x ∧ Few y ∧ ∀ b H', (b = true ↔ R x y) → Same H H' → Q (.bl b) H'
structure TRh (P : Program) (w : World) (K : PySem.W.Frag) (mg : Str → Option Value) (base : Heap) : Prop extends T1 mg K where
  f_is_order : FnAt P w K mg base "is_order" 3 ["thing"] spIsOrd
  f_is_row : FnAt P w K mg base "is_row" 6 ["n", "thing"] spIsRow
  f_led : FnAt P w K mg base "led" 3 ["n", "row"] spLed
structure TRl (P : Program) (w : World) (K : PySem.W.Frag) (mg : Str → Option Value) (base : Heap) : Prop extends T1 mg K where
  f_row_holds : FnAt P w K mg base "row_holds" 7 ["order", "row"] (spRowH RowH)
  f_rounds : FnAt P w K mg base "rounds" 3 ["order"] spRounds
end Sw
namespace L2
open PySem PySem.Spec PyProof.Rows
def Up (l : List Nat) : Prop := l.Pairwise (· < ·)
def TUp (t : SetTable) : Prop := Up t.place.toList
end L2
namespace L2
open PySem PySem.Spec PyProof.Rows
structure TabOk (w : World) (t : SetTable) (n : Nat) : Prop where
  fits : t.fits n = true
  up : TUp t
  led : t.led = !(w.params.followText "set-order")
end L2
namespace L2
open PySem PySem.Spec PyProof.Rows
def keyI (e : Int × Value) : Int := match e.2 with | .int n _ => n | _ => 0
structure RelI (prog : Program) (w : World) (ns : List Int) (i : Nat) (es : Array (Int × Value)) (t : SetTable) : Prop where
  tab : TabOk w t es.size
  few : es.size ≤ i
  els : ElemsOf (intKind prog w) es.toList
  one : (es.toList.map keyI).Nodup
  mem : ∀ k, k ∈ es.toList.map keyI ↔ k ∈ ns.take i
end L2
namespace L2
open PySem PySem.Spec PyProof.Rows
section
variable {prog : Program} {w : World} {A : Around} {E : Value → Shared → Prop} {s : Shared} {W : Addr → List Int → Prop}
abbrev TupK (prog : Program) (w : World) (h : Heap) (ks : List Int) (a : Addr) : Prop := IsTupleKey (intKind prog w) h ks a
def hshT (ns : List Int) : Int := reduceHash (Builtin.Tuple.tupleHashOf (ns.map hashInt))
def hAt (ks : List (List Int)) (i : Nat) : Int := ((ks[i]?).map hshT).getD 0
def addP (ks : List (List Int)) (t : SetTable) (x : List Int) : Option (List (List Int) × SetTable) :=
  if t.gaveWay then none else
  match t.probe (hAt ks) (hshT x) (t.probeStart (hshT x)) with
  | some (.candidate _ i _) => if ks[i]? = some x then some (ks, t) else none
  | some (.empty j none) =>
    let kn := ks.take (t.put j).2 ++ x :: ks.drop (t.put j).2
    if (t.put j).1.fits (ks.length + 1) then
      if (t.put j).1.tooFull then
        if SetTable.sizeAbove (SetTable.grown (ks.length + 1)) ≤ 100000 then
          match (t.put j).1.relaid (kn.map hshT).toArray (SetTable.grown (ks.length + 1)) with
          | some (t2, o) => if (o.toList.filterMap (kn[·]?)).length = ks.length + 1 ∧ t2.fits (ks.length + 1) = true then some (o.toList.filterMap (kn[·]?), t2) else none
          | none => none
        else none
      else some (kn, (t.put j).1)
    else none
  | _ => none
def EsT (prog : Program) (w : World) (W : Addr → List Int → Prop) (h : Heap) (es : Array (Int × Value)) (ks : List (List Int)) : Prop := Paired (fun (e : Int × Value) (k : List Int) => e.1 = hshT k ∧ ∃ a, e.2 = .ref a ∧ TupK prog w h k a ∧ W a k) es.toList ks
end
end L2
namespace L2
open PySem PySem.Spec PyProof.Rows
section
variable {prog : Program} {w : World} {A : Around} {E : Value → Shared → Prop} {s : Shared} {W : Addr → List Int → Prop}
def simT (led : Bool) (xs : List (List Int)) : Option (List (List Int) × SetTable) := xs.foldlM (fun st x => addP st.1 st.2 x) ([], SetTable.fresh 0 0 led)
structure RelT (prog : Program) (w : World) (W : Addr → List Int → Prop) (h₀ : Heap) (led : Bool) (xs : List (List Int)) (i : Nat) (es : Array (Int × Value)) (t : SetTable) : Prop where
  ex : ∃ ks, EsT prog w W h₀ es ks ∧ t.fits ks.length = true ∧ ks.length ≤ i ∧ simT led (xs.take i) = some (ks, t)
end
end L2
namespace L2
open PySem PySem.Spec PyProof.Rows PySem.SeqAt
open PySem.AutoSeq1 (wpAny_loadPart')
open PySem.MeetsSeq PySem.MeetsSeq2 PySem.MeetsSeq3
def HdAt (h : Heap) (v : Value) (a : Int) : Prop := ∃ (l : Addr) (xs : Array Value) (n : Nat) (t : Tok), v = .ref l ∧ h.get? l = some { cls := .type "list", data := .seq xs n } ∧ xs[0]? = some (.int a t)
structure Rising (h : Heap) (vs : List Value) (hs : List Int) : Prop where
  len : hs.length = vs.length
  up : ∀ (i : Nat) (a c : Int), hs[i]? = some a → hs[i + 1]? = some c → a < c
  head : ∀ (i : Nat) (v : Value) (a : Int), vs[i]? = some v → hs[i]? = some a → HdAt h v a
end L2
namespace L2
open PySem PySem.W PyProof.Rows
section
variable {N : Nat} {rk : Nat → Int}
def KP (rk : Nat → Int) (p : Array Nat) (i : Nat) : Int := rk (p.getD i 0)
def Fal (rk : Nat → Int) (k : Nat) (p : Array Nat) : Prop := ∀ i j, i ≤ j → j < k → KP rk p j ≤ KP rk p i
structure DescOk (rk : Nat → Int) (p₀ p : Array Nat) (n q : Nat) : Prop where
  perm : p.Perm p₀
  size : p.size = p₀.size
  fal : Fal rk n p
  same : ∀ i, n - (q + 1) ≤ i → i < n → KP rk p i = KP rk p (n - 1)
  q1 : q + 1 ≤ n
end
end L2
namespace L2
open PySem PySem.Spec PyProof.Rows PySem.SeqAt
structure Hds (H : Hp) (vs : List V) (hs : List Int) : Prop where
  len : hs.length = vs.length
  up : ∀ (i : Nat) (a c : Int), hs[i]? = some a → hs[i + 1]? = some c → a < c
  head : ∀ (i : Nat) (v : V) (a : Int), vs[i]? = some v → hs[i]? = some a → ∃ (b : Addr) (ns : List Int), v = .ref b ∧ H b = some (.lst (ns.map V.int)) ∧ ns[0]? = some a
end L2
namespace L2
open PySem PySem.Spec PyProof.Rows
theorem gNJ {i : Nat} {v : V} {σ : St} {H : Hp} {k : St → Hp → Prop} (h : k (σ.set i (some v)) H) : gName i v σ H k := h
theorem seq_byJ {t u : TS} {D : Ends} {σ : St} {H : Hp} (R : St → Hp → Prop) (h1 : ∀ D' : Ends, (∀ σ' H', R σ' H' → D'.nx σ' H') → t D' σ H) (h2 : ∀ σ' H', R σ' H' → u D σ' H') : tSeq t u D σ H := h1 _ h2
end L2
namespace Sw
open PySem L2
def relab (f : Int → Int) (e : Int × Int) : Int → Int := fun x => if f x = f e.2 then f e.1 else f x
def labs (row : List (Int × Int)) : Int → Int := row.foldl relab id
def addC (f : Int → Int) (acc : List (Int × List Int)) (x : Int) : List (Int × List Int) :=
  if f x ∈ acc.map (·.1) then acc.map (fun p => if p.1 = f x then (p.1, p.2 ++ [x]) else p) else acc ++ [(f x, [x])]
def grp (f : Int → Int) (L : List Int) : List (Int × List Int) := L.foldl (addC f) []
def partsM (n : Int) (row : List (Int × Int)) : List (List Int) := (grp (labs row) (ivl 1 (n + 1))).map (·.2)
section
variable {f : Int → Int} {acc : List (Int × List Int)} {x k : Int} {ms : List Int} {j : Nat}
structure Grp (f : Int → Int) (L : List Int) (acc : List (Int × List Int)) : Prop where
  nd : (acc.map (·.1)).Nodup
  mem : ∀ p ∈ acc, p.2 = L.filter (fun y => decide (f y = p.1)) ∧ p.2 ≠ []
  all : ∀ y ∈ L, f y ∈ acc.map (·.1)
theorem Grp.nil : Grp f [] [] := ⟨List.nodup_nil, fun p hp => (by cases hp), fun y hy => (by cases hy)⟩
end
end Sw
namespace Sw
open PySem L2
section
variable {n : Int} {xs : List Int} {a b : Int}
def np (n : Int) (row : List (Int × Int)) : Nat := (partsM n row).length
end
end Sw
namespace Sw
open PySem L2
def Seat (tk : List Int) (c p : Int) : Prop := c ≤ p ∧ p ∉ tk ∧ ∀ q, c ≤ q → q < p → q ∈ tk
def Plc (cs ps : List Int) : Prop := ps.length = cs.length ∧ ∀ (i : Nat) (c p : Int), cs[i]? = some c → ps[i]? = some p → Seat (ps.take i) c p
theorem Plc.nil : Plc [] [] := ⟨rfl, fun i c p h => by simp at h⟩
end Sw
namespace Sw
open PySem L2
structure Nice (k : Nat) (d : PyData) : Prop where
  lay : d.canLay0 = true
  dp : d.depth ≤ k
end Sw
namespace Sw
open PySem L2
def up (es : List Int) (p : Int) : Int := if 0 < p then es.getD (p - 1).toNat 0 else p
def ups (es : List Int) : Nat → Int → Int
  | 0, p => p
  | k + 1, p => up es (ups es k p)
section
variable {es come : List Int} {p x y : Int}
structure Grown (es come : List Int) : Prop where
  z : come[0]? = some 0
  st : ∀ (j : Nat) (x : Int), 1 ≤ j → come[j]? = some x → 1 ≤ x ∧ ∃ (m : Nat) (y : Int), m < j ∧ come[m]? = some y ∧ es.getD (x - 1).toNat 0 = y
end
structure TreeM (n : Int) (es : List Int) : Prop where
  len : es.length = n.toNat
  ein : ∀ e ∈ es, 0 ≤ e ∧ e ≤ n
  home : ∀ p, 1 ≤ p → p ≤ n → ups es es.length p = 0
end Sw
namespace Sw
open PySem L2
structure OneR (n : Int) (xs : List Int) : Prop where
  ord : Ord n xs
  pos : 1 ≤ n
  all : ∀ x, 1 ≤ x → x ≤ n → x ∈ orb xs 1
def lab (f : Int → Int) (e : Int × Int) : Int × Int := (min (f e.1) (f e.2), max (f e.1) (f e.2))
def Inj (n : Int) (f : Int → Int) : Prop := ∀ x y, 1 ≤ x → x ≤ n → 1 ≤ y → y ≤ n → f x = f y → x = y
def el (es : List Int) (i : Nat) : Int := es.getD i 0
def tiesM (es : List Int) : List (Int × Int) := (List.range es.length).map fun i => (min (el es i + 1) ((i : Int) + 2), max (el es i + 1) ((i : Int) + 2))
structure Tied (es : List Int) (f : Int → Int) (row : List (Int × Int)) : Prop where
  tree : TreeM es.length es
  one : f 1 = 1
  inj : Inj ((es.length : Int) + 1) f
  rng : ∀ x, 1 ≤ x → x ≤ (es.length : Int) + 1 → 1 ≤ f x ∧ f x ≤ (es.length : Int) + 1
  row : row = (tiesM es).map (lab f)
inductive Grow (row : List (Int × Int)) : List (Int × Int) → Prop
  | base : Grow row [(1, 0)]
  | step {L : List (Int × Int)} {x y j : Int} {i : Nat} {e : Int × Int} : Grow row L → (y, j) ∈ L → row[i]? = some e → (e = (x, y) ∨ e = (y, x)) → x ∉ L.map (·.1) → Grow row (L ++ [(x, (i : Int) + 1)])
end Sw
namespace Sw
open PySem L2
def cn (A M : List Int) : Nat := (M.map fun x => A.count x).sum
structure PK (A L : List Int) : Prop where
  all : cn A L + 1 = L.length
  some_ : ∀ j, 1 ≤ j → j < L.length → j ≤ cn A (L.take j)
def Nx (L : List Int) (x y : Int) : Prop := ∃ i, L[i]? = some x ∧ (L[i + 1]? = some y ∨ (i + 1 = L.length ∧ L[0]? = some y))
structure Cut (n : Int) (A : List Int) (Ls : List (List Int)) (suf : List (Int × Int)) : Prop where
  uniq : ∀ L1 ∈ Ls, ∀ L2 ∈ Ls, ∀ x, x ∈ L1 → x ∈ L2 → L1 = L2
  cov : ∀ x, 1 ≤ x → x ≤ n → ∃ L ∈ Ls, x ∈ L
  inn : ∀ L ∈ Ls, ∀ x ∈ L, 1 ≤ x ∧ x ≤ n
  rise : ∀ L ∈ Ls, L.Pairwise (· < ·)
  pk : ∀ L ∈ Ls, PK A L
  nx : ∀ L ∈ Ls, ∀ x y, Nx L x y → go suf y = x % n + 1
end Sw
namespace Sw
open PySem L2
theorem sIx_in {n m : Nat} {a : Int} (h0 : 0 ≤ a) : HT.sIx n m (some a) = min a.toNat n := by
  show (if a < 0 then (a + (n : Int)).toNat else min a.toNat n) = _
  rw [if_neg (by omega)]
theorem cutT9 {xs : List V} {a : Int} (h0 : 0 ≤ a) (h : a ≤ xs.length) : cutV xs none (some a) = xs.take a.toNat := by
  have e : HT.sIx xs.length 0 none = 0 := rfl
  unfold cutV
  rw [e, sIx_in h0, List.drop_zero, Nat.sub_zero, Nat.min_eq_left (by omega)]
theorem cutD9 {xs : List V} {a : Int} (h0 : 0 ≤ a) (h : a ≤ xs.length) : cutV xs (some a) none = xs.drop a.toNat := by
  have e2 : HT.sIx xs.length xs.length none = xs.length := rfl
  unfold cutV
  rw [sIx_in h0, e2, Nat.min_eq_left (by omega), List.take_of_length_le (by rw [List.length_drop]; exact Nat.le_refl _)]
end Sw
namespace L2
open PySem
mutual
theorem DT.imp {H : Hp} {P R : Addr → Prop} (k : ∀ a, P a → R a) : ∀ {v : V} {d : PyData}, DT H P v d → DT H R v d
  | _, _, .non => .non
  | _, _, .bl b => .bl b
  | _, _, .int i => .int i
  | _, _, .str x => .str x
  | _, _, .lst h p r => .lst h (k _ p) (DTs.imp k r)
  | _, _, .tup h p r => .tup h (k _ p) (DTs.imp k r)
theorem DTs.imp {H : Hp} {P R : Addr → Prop} (k : ∀ a, P a → R a) : ∀ {vs : List V} {ds : List PyData}, DTs H P vs ds → DTs H R vs ds
  | _, _, .nil => .nil
  | _, _, .cons h r => .cons (DT.imp k h) (DTs.imp k r)
end
mutual
theorem DT.alive {H : Hp} {P : Addr → Prop} : ∀ {v : V} {d : PyData}, DT H P v d → DT H (fun b => P b ∧ H b ≠ none) v d
  | _, _, .non => .non
  | _, _, .bl b => .bl b
  | _, _, .int i => .int i
  | _, _, .str x => .str x
  | _, _, .lst h p r => .lst h ⟨p, by rw [h]; intro z; cases z⟩ (DTs.alive r)
  | _, _, .tup h p r => .tup h ⟨p, by rw [h]; intro z; cases z⟩ (DTs.alive r)
theorem DTs.alive {H : Hp} {P : Addr → Prop} : ∀ {vs : List V} {ds : List PyData}, DTs H P vs ds → DTs H (fun b => P b ∧ H b ≠ none) vs ds
  | _, _, .nil => .nil
  | _, _, .cons h r => .cons (DT.alive h) (DTs.alive r)
end
theorem DTs.setP {H : Hp} {P : Addr → Prop} : ∀ {us : List V} {ds : List PyData} (i : Nat) {v : V} {d : PyData}, DTs H P us ds → DT H P v d → DTs H P (us.set i v) (ds.set i d)
  | _, _, _, _, _, .nil, _ => .nil
  | _, _, 0, _, _, .cons _ r, h => .cons h r
  | _, _, i + 1, _, _, .cons g r, h => .cons g (r.setP i h)
theorem fit_small {i : Int} (h : i.natAbs < 1000) : Fit 10 (.int i) := by
  have l : i.natAbs.log2 < 10 := by
    by_cases z : i.natAbs = 0
    · rw [z]; decide
    · exact (Nat.log2_lt z).mpr (by omega)
  have f := fit_int (i := i) (Nat.lt_of_lt_of_le h (by decide))
  refine ⟨f.sh, f.nd, f.dp, f.ls, ?_⟩
  unfold PyData.weight; split <;> omega
theorem at_refI {ws : List V} {i : Int} {v : V} (h0 : 0 ≤ i) (h : ws[i.toNat]? = some v) : atI ws i = some v := by
  have := atI_nat h
  rwa [Int.toNat_of_nonneg h0] at this
theorem ifB {c : TT} {t u : TS} {D : Ends} {σ : St} {H : Hp} (b : Bool) (hc : ∀ k : Bool → Hp → Prop, k b H → c σ H k) (h1 : b = true → t D σ H) (h2 : b = false → u D σ H) : tIfS c t u D σ H :=
  hc _ (by cases b with
    | true => exact iteT (h1 rfl)
    | false => exact iteF (h2 rfl))
theorem cutDg {xs : List V} {a : Int} (h0 : 0 ≤ a) : cutV xs (some a) none = xs.drop a.toNat := by
  by_cases h : a ≤ xs.length
  · exact Sw.cutD9 h0 h
  · have e2 : HT.sIx xs.length xs.length none = xs.length := rfl
    unfold cutV
    rw [Sw.sIx_in h0, e2, Nat.min_eq_right (by omega), List.drop_length, List.take_nil, List.drop_eq_nil_of_le (by omega)]
theorem ifBs {c : TT} {t u v : TS} {D : Ends} {σ : St} {H : Hp} (b : Bool) (hc : ∀ k : Bool → Hp → Prop, k b H → c σ H k) (h1 : b = true → t { D with nx := v D } σ H) (h2 : b = false → u { D with nx := v D } σ H) : tSeq (tIfS c t u) v D σ H := ifB b hc h1 h2
theorem f0_int {i : Int} (h : i.natAbs < 1000) : Fit 10 (.int i) ∧ (PyData.int i).depth ≤ 0 := ⟨fit_small h, by unfold PyData.depth; omega⟩
theorem f0_none : Fit 10 .none ∧ PyData.none.depth ≤ 0 := ⟨fit_none.mono (by decide), by unfold PyData.depth; omega⟩
theorem f0_bool (b : Bool) : Fit 10 (.bool b) ∧ (PyData.bool b).depth ≤ 0 := ⟨(fit_bool b).mono (by decide), by unfold PyData.depth; omega⟩
theorem all2 {Q : PyData → Prop} {a b : PyData} (h1 : Q a) (h2 : Q b) : ∀ d ∈ [a, b], Q d := fun d hd => by
  rcases List.mem_cons.mp hd with rfl | hd
  · exact h1
  · rw [List.mem_singleton.mp hd]; exact h2
theorem all3 {Q : PyData → Prop} {a b c : PyData} (h1 : Q a) (h2 : Q b) (h3 : Q c) : ∀ d ∈ [a, b, c], Q d := fun d hd => by
  rcases List.mem_cons.mp hd with rfl | hd
  · exact h1
  · exact all2 h2 h3 d hd
theorem all1 {Q : PyData → Prop} {a : PyData} (h1 : Q a) : ∀ d ∈ [a], Q d := fun d hd => by rw [List.mem_singleton.mp hd]; exact h1
def FewD (d : PyData) : Prop := (∀ ds, d = .tuple ds → ds.length ≤ 1000) ∧ (∀ ds, d = .list ds → ds.length ≤ 1000)
theorem acc_tup {H0 H : Hp} {P : Addr → Prop} {vs xs : List V} {ds es : List PyData} {t : Addr} (hP : ∀ x, H0 x = none → P x) (s : Same H0 H) (a : DTs H P vs ds) (f : H t = none) (e : DTs H P xs es) : DTs (upd H t (.tup xs)) P (vs ++ [.ref t]) (ds ++ [.tuple es]) ∧ Same H0 (upd H t (.tup xs)) := by
  have z : Same H (upd H t (.tup xs)) := Same.new f
  exact ⟨(a.keep fun b o _ q => z b o q).snoc (.tup upd_same (hP _ (s.free f)) (e.keep fun b o _ q => z b o q)), s.trans z⟩
theorem acc_lst {H0 H : Hp} {P : Addr → Prop} {vs xs : List V} {ds es : List PyData} {t : Addr} (hP : ∀ x, H0 x = none → P x) (s : Same H0 H) (a : DTs H P vs ds) (f : H t = none) (e : DTs H P xs es) : DTs (upd H t (.lst xs)) P (vs ++ [.ref t]) (ds ++ [.list es]) ∧ Same H0 (upd H t (.lst xs)) := by
  have z : Same H (upd H t (.lst xs)) := Same.new f
  exact ⟨(a.keep fun b o _ q => z b o q).snoc (.lst upd_same (hP _ (s.free f)) (e.keep fun b o _ q => z b o q)), s.trans z⟩
def OkE (d : PyData) : Prop := Fit 33 d ∧ d.depth ≤ 2
theorem oke_tup {ds : List PyData} (h : ∀ d ∈ ds, Fit 10 d ∧ d.depth ≤ 0) (l : ds.length ≤ 3) : OkE (.tuple ds) := by
  obtain ⟨f, dd⟩ := fit_tuple (k := 0) (by decide) h
  exact ⟨f.mono (by omega), by omega⟩
theorem oke_lst {ds : List PyData} (h : ∀ d ∈ ds, Fit 10 d ∧ d.depth ≤ 0) (l : ds.length ≤ 3) : OkE (.list ds) := by
  obtain ⟨f, dd⟩ := fit_list (k := 0) (by decide) h
  exact ⟨f.mono (by omega), by omega⟩
theorem oke_tup2 {ds : List PyData} (h : ∀ d ∈ ds, Fit 15 d ∧ d.depth ≤ 1) (l : ds.length ≤ 2) : OkE (.tuple ds) := by
  obtain ⟨f, dd⟩ := fit_tuple (k := 1) (by decide) h
  exact ⟨f.mono (by omega), by omega⟩
theorem oke_of {d : PyData} (h : Fit 10 d ∧ d.depth ≤ 0) : OkE d := ⟨h.1.mono (by decide), by omega⟩
theorem f1_of {d : PyData} (h : Fit 10 d ∧ d.depth ≤ 0) : Fit 15 d ∧ d.depth ≤ 1 := ⟨h.1.mono (by decide), by omega⟩
theorem f1_one {d : PyData} (h : Fit 10 d ∧ d.depth ≤ 0) : Fit 15 (.tuple [d]) ∧ (PyData.tuple [d]).depth ≤ 1 := by
  obtain ⟨f, dd⟩ := fit_tuple (k := 0) (ds := [d]) (by decide) (all1 h)
  exact ⟨f.mono (by show 11 * 1 ≤ 15; decide), dd⟩
theorem f0_str {x : Str} (h : (PyData.str x).showable && !(PyData.str x).hasDict && decide ((PyData.str x).depth ≤ 20) && PyData.leavesShort 40 (.str x) && decide ((PyData.str x).weight ≤ 10) = true) : Fit 10 (.str x) ∧ (PyData.str x).depth ≤ 0 := by
  simp only [Bool.and_eq_true, decide_eq_true_eq, Bool.not_eq_true'] at h
  exact ⟨⟨h.1.1.1.1, h.1.1.1.2, h.1.1.2, h.1.2, h.2⟩, by unfold PyData.depth; omega⟩
def OkL (d : PyData) : Prop := Fit 14000 d ∧ d.depth ≤ 3 ∧ FewD d
theorem okl_lst {ds : List PyData} (h : ∀ d ∈ ds, OkE d) (l : ds.length ≤ 402) : OkL (.list ds) := by
  obtain ⟨f, dd⟩ := fit_list (k := 2) (by decide) h
  exact ⟨f.mono (by omega), dd, fun _ z => (by cases z), fun es z => (by injection z with z; subst z; omega)⟩
theorem okl_tup {ds : List PyData} (h : ∀ d ∈ ds, OkE d) (l : ds.length ≤ 402) : OkL (.tuple ds) := by
  obtain ⟨f, dd⟩ := fit_tuple (k := 2) (by decide) h
  exact ⟨f.mono (by omega), dd, fun es z => (by injection z with z; subst z; omega), fun _ z => (by cases z)⟩
theorem okl_flat {d : PyData} (h : Fit 10 d ∧ d.depth ≤ 0) (n1 : ∀ ds, d ≠ .tuple ds) (n2 : ∀ ds, d ≠ .list ds) : OkL d := ⟨h.1.mono (by decide), by omega, fun ds z => absurd z (n1 ds), fun ds z => absurd z (n2 ds)⟩
end L2
namespace L2
open PySem
theorem op_eqDW {X : Cx} {K : PySem.W.Frag} (hK : X.K = K) (hu : X.A.units + 64 < cLine) : OpR X (compareOp .Eq) (rEqD K) := by subst hK; exact op_eqD hu
end L2
namespace Sw
open PySem L2
theorem FnOk.weak {P : Program} {w : World} {K : PySem.W.Frag} {mg : Str → Option Value} {base : Heap} {k : Nat} {ps : List Str} {sp sp' : Sp} {f : Addr} {fd : FuncData} (h : ∀ vs H Q E, sp' vs H Q E → sp vs H Q E) (o : FnOk P w K mg base CX0 k f fd ps sp) : FnOk P w K mg base CX0 k f fd ps sp' :=
  ⟨fun vs H Q E z => o.1 vs H Q E (h _ _ _ _ z), fun a b c H d e vs Q E x y u v z => o.2 a b c H d e vs Q E x y u v (h _ _ _ _ z)⟩
def ismv : PyData → Bool
  | .tuple [x, y] => isw x && isS y
  | _ => false
def mvOf : PyData → Int × Str
  | .tuple [.int k, .str w] => (k, w)
  | _ => (0, "")
def iswalk : PyData → Bool
  | .list ds => ds.all ismv
  | _ => false
def mvsOf : PyData → List (Int × Str)
  | .list ds => ds.map mvOf
  | _ => []
theorem ismv_len {ds : List PyData} (c : ds.length ≠ 2) : ismv (.tuple ds) = false := by
  match ds, c with
  | [], _ => rfl
  | [_], _ => rfl
  | [_, _], c => exact absurd rfl c
  | _ :: _ :: _ :: _, _ => rfl
theorem ismv_is {d : PyData} (h : ismv d = true) : d = .tuple [.int (mvOf d).1, .str (mvOf d).2] := by
  unfold ismv at h
  split at h
  · rename_i x y
    obtain ⟨h1, h2⟩ := Bool.and_eq_true_iff.mp h
    cases x with
    | int i =>
      cases y with
      | str j => rfl
      | _ => cases h2
    | _ => cases h1
  · cases h
theorem mvs_of {H : Hp} {P : Addr → Prop} : ∀ {vs : List V} {ds : List PyData}, DTs H P vs ds → ds.all ismv = true → Mvs H vs (ds.map mvOf)
  | _, _, .nil, _ => .nil
  | _, _, .cons (d := d) h hs, e => by
    rw [List.all_cons] at e
    obtain ⟨e1, e2⟩ := Bool.and_eq_true_iff.mp e
    have x := mvs_of hs e2
    rw [ismv_is e1] at h
    cases h with
    | tup ha _ r =>
      cases r with
      | cons r1 r2 =>
        cases r2 with
        | cons r3 r4 =>
          cases r4
          cases r1
          cases r3
          exact .cons ha x
def WalkH (n a m b : PyData) : Prop := ∃ i : Int, n = .int i ∧ 1 ≤ i ∧ i ≤ 12 ∧ isrow i a = true ∧ isrow i b = true ∧ iswalk m = true ∧ walkM (rowOf a) (mvsOf m) = some (rowOf b)
open Classical in
noncomputable def g65 : PyData → Bool
  | .tuple [.str _, n, a, m, b] => decide (WalkH n a m b)
  | _ => false
def R65 (d : PyData) : Prop := ∃ n a m b, d = .tuple [.str "walk", n, a, m, b] ∧ Few a ∧ Few m ∧ Few b
def spIsMv : Sp := fun vs H Q _ => ∃ (v : V) (P : Addr → Prop) (d : PyData), vs = [v] ∧ DT H P v d ∧ Q (.bl (ismv d)) H
def spIsWk : Sp := fun vs H Q _ => ∃ (v : V) (P : Addr → Prop) (d : PyData), vs = [v] ∧ DT H P v d ∧ Few d ∧ ∀ H', Same H H' → Q (.bl (iswalk d)) H'
def spWkH : Sp := fun vs H Q _ => ∃ (v1 v2 v3 v4 : V) (P : Addr → Prop) (n a m b : PyData), vs = [v1, v2, v3, v4] ∧ DT H P v1 n ∧ DT H P v2 a ∧ DT H P v3 m ∧ DT H P v4 b ∧ Few a ∧ Few m ∧ Few b ∧ ∀ r H', (r = true ↔ WalkH n a m b) → Same H H' → Q (.bl r) H'
def spNev : Sp := fun _ _ _ _ => False
structure TPh5 (P : Program) (w : World) (K : PySem.W.Frag) (mg : Str → Option Value) (base : Heap) : Prop extends T1 mg K where
  f_walk_holds : FnAt P w K mg base "walk_holds" 8 ["n", "one", "moves", "other"] spWkH
  f_row_holds : FnAt P w K mg base "row_holds" 8 ["order", "row"] spNev
  f_least_holds : FnAt P w K mg base "least_holds" 8 ["order", "row"] spNev
  f_half_holds : FnAt P w K mg base "half_holds" 8 ["n", "one", "other"] spNev
  f_chain_holds : FnAt P w K mg base "chain_holds" 8 ["n", "sharings"] spNev
  f_counts_hold : FnAt P w K mg base "counts_hold" 8 ["n", "lists"] spNev
theorem iswalk_at {H : Hp} {P : Addr → Prop} {v : V} {m : PyData} (h : DT H P v m) (e : iswalk m = true) : ∃ a us, v = .ref a ∧ H a = some (.lst us) ∧ Mvs H us (mvsOf m) := by
  cases h with
  | lst ha pa r => exact ⟨_, _, rfl, ha, mvs_of r e⟩
  | _ => cases e
theorem eqRW {K : PySem.W.Frag} {H : Hp} {l m : Addr} {vs ws : List V} {r q : List (Int × Int)} {Q : VK} (h1 : H l = some (.lst vs)) (x1 : Exs H vs r) (h2 : H m = some (.lst ws)) (x2 : Exs H ws q) (hq : Q (.bl (decide (r = q))) H) : rEqD K (.ref l) (.ref m) H Q := by
  refine ⟨fun _ => True, .list (r.map fun e => PyData.tuple [.int e.1, .int e.2]), .list (q.map fun e => PyData.tuple [.int e.1, .int e.2]), .lst (SqL.of h1) True.intro x1.dat, .lst (SqL.of h2) True.intro x2.dat, ?_, ?_, ?_, ?_⟩
  · unfold PyData.canLay0; exact lay_row r
  · unfold PyData.canLay0; exact lay_row q
  · unfold PyData.depth; have := depth_row r; omega
  · unfold PyData.eqv; rw [eqv_row]; exact hq
structure TIm (P : Program) (w : World) (K : PySem.W.Frag) (mg : Str → Option Value) (base : Heap) : Prop extends T1 mg K where
  b_str : mg "str" = none
  f_is_whole : FnAt P w K mg base "is_whole" 1 ["thing"] spIwD
structure TIk (P : Program) (w : World) (K : PySem.W.Frag) (mg : Str → Option Value) (base : Heap) : Prop extends T1 mg K where
  f_is_move : FnAt P w K mg base "is_move" 2 ["thing"] spIsMv
structure TWh (P : Program) (w : World) (K : PySem.W.Frag) (mg : Str → Option Value) (base : Heap) (u : Value) (C : Addr) : Prop extends T1 mg K where
  g_MOST_THINGS : mg "MOST_THINGS" = some u
  r_MOST_THINGS : RelV (.int 12) u
  f_is_between : FnAt P w K mg base "is_between" 2 ["thing", "low", "high"] spBtD
  f_is_row : FnAt P w K mg base "is_row" 6 ["n", "thing"] spIsRow
  f_is_walk : FnAt P w K mg base "is_walk" 3 ["thing"] spIsWk
  f_walked : FnAtX P w K mg base "walked" 4 ["row", "moves"] (spWkX C)
  c_NoMove : mg "NoMove" = some (.ref C)
  e1 : ExcM K C C true
section
variable {P : Program} {w : World} {K : PySem.W.Frag} {mg : Str → Option Value} {base : Heap} {C : Addr}
theorem sc_is_move : FnScope ["thing"] ["thing"] (defScope (top 54)) := ⟨rfl, rfl, rfl, by decide +kernel, rfl, by decide +kernel, by decide +kernel⟩
theorem ok_ismv {f : Addr} {fd : FuncData} (F : Fun K "is_move" "is_move" (top 54) f fd) (T : TIm P w K mg base) : FnOk P w K mg base CX0 2 f fd ["thing"] spIsMv := by
  refine F.ok sc_is_move (fun vs H Q E h => ?_) (fun cdv A outer s H vs Q E hr h => ?_)
  · obtain ⟨v, P, d, rfl, _⟩ := h
    rfl
  · obtain ⟨v, P, d, rfl, hd, k⟩ := h
    refine ⟨_, (pss_one (ps_ret (pe_and (pe_callB (call_isiK (K := K) rfl) rfl T.b_isinstance (by decide +kernel) (pa_cons (pv 0) (pa_cons (pe_bltn (v := .ty "tuple") rfl T.b_tuple (by decide +kernel) rfl) pa_nil))) (pe_and (pe_cmpR op_eq (pe_callB (call_lenK (K := K) rfl) rfl T.b_len (by decide +kernel) (pa_cons (pv 0) pa_nil)) pe_int (nomark _)) (pe_and (pe_callF T.f_is_whole (hr.mono (by first | decide | omega)) rfl (pa_cons (pe_ix (ix_tupK (K := K) rfl) (pv 0) pe_int (fun _ _ => rfl)) pa_nil)) (pe_one (pe_callB (call_isiK (K := K) rfl) rfl T.b_isinstance (by decide +kernel) (pa_cons (pe_ix (ix_tupK (K := K) rfl) (pv 0) pe_int (fun _ _ => rfl)) (pa_cons (pe_bltn (v := .ty "str") rfl T.b_str (by decide +kernel) rfl) pa_nil))))))))), ?_⟩
    refine ⟨_, rfl, _, _, "tuple", _, rfl, hd.ty, kit_tuple K hd, _, rfl, ?_⟩
    cases hd with
    | @tup a us ds ha pa rs =>
      refine iteT ?_
      have ul := rs.length
      refine ⟨_, rfl, a, _, rfl, .inr (SqT.of ha), rfl, _, rfl, ?_⟩
      by_cases c : ds.length = 2
      · refine iteP (decide_eq_true (by rw [ul, c]; rfl)) ?_
        match ds, us, rs, c with
        | [x, y], [vx, vy], .cons hx (.cons hy .nil), _ =>
          refine ⟨_, rfl, a, _, _, _, rfl, rfl, SqT.of ha, rfl, vx, P, x, rfl, hx, _, rfl, ?_⟩
          cases e : isw x with
          | false =>
            refine iteF ?_
            have : ismv (.tuple [x, y]) = false := by show (isw x && isS y) = false; rw [e]; rfl
            rw [this] at k
            exact k
          | true =>
            refine iteT ?_
            have : ismv (.tuple [x, y]) = isS y := by show (isw x && isS y) = _; rw [e]; rfl
            rw [this] at k
            exact ⟨_, rfl, a, _, _, _, rfl, rfl, SqT.of ha, rfl, _, _, "str", _, rfl, hy.ty, kit_strD K hy, k⟩
      · refine iteE (decide_eq_false fun z => c (by have := V.int.inj z; omega)) ?_
        rw [ismv_len c] at k
        exact k
    | _ => exact iteF k
theorem sc_is_walk : FnScope ["thing"] ["thing"] (defScope (top 55)) := ⟨rfl, rfl, rfl, by decide +kernel, rfl, by decide +kernel, by decide +kernel⟩
theorem ok_iswk {f : Addr} {fd : FuncData} (F : Fun K "is_walk" "is_walk" (top 55) f fd) (T : TIk P w K mg base) : FnOk P w K mg base CX0 3 f fd ["thing"] spIsWk := by
  refine F.ok sc_is_walk (fun vs H Q E h => ?_) (fun cdv A outer s H vs Q E hr h => ?_)
  · obtain ⟨v, P, d, rfl, _⟩ := h
    rfl
  · obtain ⟨v, P, d, rfl, hd, hlen, k⟩ := h
    refine ⟨_, (pss_one (ps_ret (pe_and (pe_callB (call_isiK (K := K) rfl) rfl T.b_isinstance (by decide +kernel) (pa_cons (pv 0) (pa_cons (pe_bltn (v := .ty "list") rfl T.b_list (by decide +kernel) rfl) pa_nil))) (pe_one (pe_callB (call_allK (K := K) rfl rfl) rfl T.b_all (by decide +kernel) (pa_cons (pe_comp (N := (["move"] : List Str)) (ix := ([none] : List (Option Nat))) (comp_ok rfl rfl) rfl (pi_listK (K := K) rfl (pv 0)) (fun _ _ _ _ => (pg_name (i := 0) (show List.Nodup (["move"] : List Str) from by decide +kernel) rfl (Or.inl rfl))) (fun _ _ _ _ => pif_nil) (fun _ _ _ _ => (pe_callF T.f_is_move (hr.mono (by first | decide | omega)) rfl (pa_cons (pv 0) pa_nil)))) pa_nil)))))), ?_⟩
    refine ⟨_, rfl, _, _, "list", _, rfl, hd.ty, kit_list K hd, _, rfl, ?_⟩
    cases hd with
    | @lst a us ds ha pa rs =>
      refine iteT ?_
      have ul := rs.length
      have dl := hlen.2 ds rfl
      refine ⟨_, rfl, a, rfl, ⟨_, SqL.of ha⟩, compL (K := K) (a := a) (xs := us) (k := 0) (fun i ys σ' H' => ys = ((ds.take i).map ismv).map V.bl ∧ (∃ v, σ' = [v]) ∧ Same H H') (by omega) ⟨rfl, ⟨none, rfl⟩, Same.refl _⟩ (fun i ys σ' H' _ q => SqL.of (q.2.2 _ _ ha)) (fun i ys σ' H' q => by rw [q.1, List.length_map, List.length_map, List.length_take]; omega) ?_ ?_⟩
      · rintro i ys σ' H' z R hz ⟨rfl, ⟨v, rfl⟩, s1⟩ done
        obtain ⟨d, hd, hdz⟩ := rs.get hz
        refine ⟨_, rfl, z, P, d, rfl, DT.same hdz s1, done _ _ _ ⟨?_, ⟨_, rfl⟩, s1⟩⟩
        rw [all_take hd, List.map_append]
        rfl
      · rintro ys σ' H' q ⟨rfl, ⟨v, rfl⟩, s1⟩ fq
        rw [List.take_of_length_le (by omega)]
        refine ⟨q, ds.map ismv, rfl, SqL.of upd_same, ?_⟩
        have e : iswalk (.list ds) = (ds.map ismv).all id := by
          show ds.all ismv = _
          rw [List.all_map]; rfl
        rw [e] at k
        exact k _ (s1.trans (Same.new fq))
    | _ => exact iteF (k H (Same.refl H))
theorem sc_walk_holds : FnScope ["n", "one", "moves", "other"] ["n", "one", "moves", "other"] (defScope (top 56)) := ⟨rfl, rfl, rfl, by decide +kernel, rfl, by decide +kernel, by decide +kernel⟩
theorem ok_wkh {u : Value} {f : Addr} {fd : FuncData} (F : Fun K "walk_holds" "walk_holds" (top 56) f fd) (T : TWh P w K mg base u C) : FnOk P w K mg base CX0 8 f fd ["n", "one", "moves", "other"] spWkH := by
  refine F.ok sc_walk_holds (fun vs H Q E h => ?_) (fun cdv A outer s H vs Q E hr h => ?_)
  · obtain ⟨v1, v2, v3, v4, P, n, a, m, b, rfl, _⟩ := h
    rfl
  · obtain ⟨v1, v2, v3, v4, P, n, a, m, b, rfl, dn, da, dm, db, fa, fm, fb, k⟩ := h
    refine ⟨_, (pss_cons (ps_if (PW.pt (pw_or (pt_not (pt_val (pe_callF T.f_is_between (hr.mono (by first | decide | omega)) rfl (@pa_cons _ _ _ _ _ (pv 0) (@pa_cons _ _ _ _ _ pe_int (@pa_cons _ _ _ _ _ (pe_glob rfl T.g_MOST_THINGS T.r_MOST_THINGS) pa_nil st_name) st_con) st_name)))) (pw_or (pt_not (pt_val (pe_callF T.f_is_row (hr.mono (by first | decide | omega)) rfl (pa_cons (pv 0) (pa_cons (pv 1) pa_nil))))) (pw_or (pt_not (pt_val (pe_callF T.f_is_row (hr.mono (by first | decide | omega)) rfl (pa_cons (pv 0) (pa_cons (pv 3) pa_nil))))) (pw_or1 (pt_not (pt_val (pe_callF T.f_is_walk (hr.mono (by first | decide | omega)) rfl (pa_cons (pv 2) pa_nil))))))))) (pss_one (ps_ret pe_bl)) pss_nil)
      (pss_one (ps_try (fun _ _ => (pss_one (ps_ret (pe_cmpR (op_eqDW (K := K) rfl hr.units) (pe_callXT T.f_walked (hr.mono (by decide)) rfl (pa_cons (pv 1) (pa_cons (pv 2) pa_nil))) (pv 3) (nomark _))))) (ph_cons rfl T.c_NoMove (fun _ => (pss_one (ps_ret pe_bl))) ph_nil)))), ?_⟩
    have no : ∀ H', ¬ WalkH n a m b → Same H H' → Q (.bl false) H' := fun H' z s => k false H' ⟨fun q => (by cases q), fun q => absurd q z⟩ s
    refine ⟨_, rfl, v1, P, n, 1, 12, rfl, dn, _, rfl, ?_⟩
    cases e1 : btw 1 12 n with
    | false => exact iteT (no H (fun ⟨i, h, a1, a2, _⟩ => by subst h; rw [show btw 1 12 (.int i) = decide (1 ≤ i ∧ i ≤ 12) from rfl, decide_eq_true ⟨a1, a2⟩] at e1; cases e1) (Same.refl H))
    | true =>
      refine iteF ?_
      obtain ⟨i, rfl⟩ : ∃ i, n = .int i := by cases n <;> first | exact ⟨_, rfl⟩ | cases e1
      cases dn
      have ib : 1 ≤ i ∧ i ≤ 12 := of_decide_eq_true e1
      refine ⟨_, rfl, _, rfl, v2, P, a, i, rfl, da, fa.2, fun H1 s1 => ⟨_, rfl, ?_⟩⟩
      cases e2 : isrow i a with
      | false => exact iteT (no H1 (fun ⟨j, h, _, _, z, _⟩ => by injection h with h; subst h; rw [e2] at z; cases z) s1)
      | true =>
        refine iteF ?_
        refine ⟨_, rfl, _, rfl, v4, P, b, i, rfl, DT.same db s1, fb.2, fun H2 s2 => ⟨_, rfl, ?_⟩⟩
        have s12 := s1.trans s2
        cases e3 : isrow i b with
        | false => exact iteT (no H2 (fun ⟨j, h, _, _, _, z, _⟩ => by injection h with h; subst h; rw [e3] at z; cases z) s12)
        | true =>
          refine iteF ?_
          refine ⟨_, rfl, v3, P, m, rfl, DT.same dm s12, fm, fun H3 s3 => ⟨_, rfl, ?_⟩⟩
          have s13 := s12.trans s3
          cases e4 : iswalk m with
          | false => exact iteT (no H3 (fun ⟨j, h, _, _, _, _, z, _⟩ => by rw [e4] at z; cases z) s13)
          | true =>
            refine iteF ?_
            obtain ⟨la, ua, rfl, ha, xa, ga, al⟩ := isrow_at (DT.same da s13) e2
            obtain ⟨lb, ub, rfl, hb, xb, gb, bl⟩ := isrow_at (DT.same db s13) e3
            obtain ⟨lm, um, rfl, hm, xm⟩ := iswalk_at (DT.same dm s13) e4
            refine ⟨_, rfl, _, rfl, la, lm, ua, um, rowOf a, mvsOf m, rfl, ha, xa, by omega, hm, xm, fun r hr' l' es' H4 fl' hl' x' s4 => ?_, fun dead H4 s4 e he => ?_⟩
            · refine ⟨_, rfl, eqRW hl' x' (s4 _ _ hb) (xb.keep (Same.tups s4)) (k _ H4 ?_ (s13.trans s4))⟩
              rw [decide_eq_true_eq]
              constructor
              · intro z
                subst z
                exact ⟨i, rfl, ib.1, ib.2, e2, e3, e4, hr'⟩
              · rintro ⟨_, _, _, _, _, _, _, z⟩
                rw [hr'] at z
                exact Option.some.inj z
            · refine ⟨_, true, rfl, T.e1, iteT ?_⟩
              exact no _ (fun ⟨_, _, _, _, _, _, _, z⟩ => by rw [dead] at z; cases z) (s13.trans s4)
theorem sc_paper_holds : FnScope ["word", "paper"] ["word", "paper"] (defScope (top 61)) := ⟨rfl, rfl, rfl, by decide +kernel, rfl, by decide +kernel, by decide +kernel⟩
theorem ok_ph5 {f : Addr} {fd : FuncData} (F : Fun K "paper_holds" "paper_holds" (top 61) f fd) (T : TPh5 P w K mg base) : FnOk P w K mg base CX0 9 f fd ["word", "paper"] (spPaper g65 R65) := by
  refine F.ok sc_paper_holds (fun vs H Q E h => ?_) (fun cdv A outer s H vs Q E hr h => ?_)
  · obtain ⟨v, P, x, ds, rfl, _⟩ := h
    rfl
  · obtain ⟨v, P, x, ds, rfl, hd, ip, ⟨n, a, m, b, e, fa, fm, fb⟩, k⟩ := h
    refine ⟨_, (pss_cons (ps_if (pt_cmpR op_eq (pv 0) pe_str (nomark _)) (pss_one (ps_ret (pe_callF T.f_row_holds (hr.mono (by first | decide | omega)) rfl (pa_cons (pe_ix (ix_tupK (K := K) rfl) (pv 1) pe_int (fun _ _ => rfl)) (pa_cons (pe_ix (ix_tupK (K := K) rfl) (pv 1) pe_int (fun _ _ => rfl)) pa_nil))))) pss_nil)
      (pss_cons (ps_if (pt_cmpR op_eq (pv 0) pe_str (nomark _)) (pss_one (ps_ret (pe_callF T.f_least_holds (hr.mono (by first | decide | omega)) rfl (pa_cons (pe_ix (ix_tupK (K := K) rfl) (pv 1) pe_int (fun _ _ => rfl)) (pa_cons (pe_ix (ix_tupK (K := K) rfl) (pv 1) pe_int (fun _ _ => rfl)) pa_nil))))) pss_nil)
      (pss_cons (ps_if (pt_cmpR op_eq (pv 0) pe_str (nomark _)) (pss_one (ps_ret (pe_callF T.f_walk_holds (hr.mono (by first | decide | omega)) rfl (@pa_cons _ _ _ _ _ (pe_ix (ix_tupK (K := K) rfl) (pv 1) pe_int (fun _ _ => rfl)) (@pa_cons _ _ _ _ _ (pe_ix (ix_tupK (K := K) rfl) (pv 1) pe_int (fun _ _ => rfl)) (@pa_cons _ _ _ _ _ (pe_ix (ix_tupK (K := K) rfl) (pv 1) pe_int (fun _ _ => rfl)) (@pa_cons _ _ _ _ _ (pe_ix (ix_tupK (K := K) rfl) (pv 1) pe_int (fun _ _ => rfl)) pa_nil st_sub) st_sub) st_sub) st_sub)))) pss_nil)
      (pss_cons (ps_if (pt_cmpR op_eq (pv 0) pe_str (nomark _)) (pss_one (ps_ret (pe_callF T.f_half_holds (hr.mono (by first | decide | omega)) rfl (@pa_cons _ _ _ _ _ (pe_ix (ix_tupK (K := K) rfl) (pv 1) pe_int (fun _ _ => rfl)) (@pa_cons _ _ _ _ _ (pe_ix (ix_tupK (K := K) rfl) (pv 1) pe_int (fun _ _ => rfl)) (@pa_cons _ _ _ _ _ (pe_ix (ix_tupK (K := K) rfl) (pv 1) pe_int (fun _ _ => rfl)) pa_nil st_sub) st_sub) st_sub)))) pss_nil)
      (pss_cons (ps_if (pt_cmpR op_eq (pv 0) pe_str (nomark _)) (pss_one (ps_ret (pe_callF T.f_chain_holds (hr.mono (by first | decide | omega)) rfl (pa_cons (pe_ix (ix_tupK (K := K) rfl) (pv 1) pe_int (fun _ _ => rfl)) (pa_cons (pe_ix (ix_tupK (K := K) rfl) (pv 1) pe_int (fun _ _ => rfl)) pa_nil))))) pss_nil)
      (pss_one (ps_ret (pe_callF T.f_counts_hold (hr.mono (by first | decide | omega)) rfl (pa_cons (pe_ix (ix_tupK (K := K) rfl) (pv 1) pe_int (fun _ _ => rfl)) (pa_cons (pe_ix (ix_tupK (K := K) rfl) (pv 1) pe_int (fun _ _ => rfl)) pa_nil)))))))))), ?_⟩
    injection e with e
    injection e with e1 e2
    injection e1 with e1
    subst e1 e2
    cases hd with
    | tup hq pq r =>
      cases r with
      | cons r0 r =>
        cases r with
        | cons rn r =>
          cases r with
          | cons ra r =>
            cases r with
            | cons rm r =>
              cases r with
              | cons rb r =>
                cases r
                cases r0
                refine ⟨_, rfl, rfl, _, rfl, iteE (decide_eq_false fun z => by injection z with z; exact absurd z (by decide)) ?_⟩
                refine ⟨_, rfl, rfl, _, rfl, iteE (decide_eq_false fun z => by injection z with z; exact absurd z (by decide)) ?_⟩
                refine ⟨_, rfl, rfl, _, rfl, iteP (decide_eq_true rfl) ?_⟩
                refine ⟨_, rfl, _, _, _, _, rfl, rfl, SqT.of hq, rfl, _, rfl, _, _, _, _, rfl, rfl, SqT.of hq, rfl, _, rfl, _, _, _, _, rfl, rfl, SqT.of hq, rfl, _, rfl, _, _, _, _, rfl, rfl, SqT.of hq, rfl, _, _, _, _, P, n, a, m, b, rfl, rn, ra, rm, rb, fa, fm, fb, fun c H1 hc s1 => ?_⟩
                have := k H1 s1
                have gd : g65 (.tuple [.str "walk", n, a, m, b]) = c := by
                  unfold g65
                  rw [Bool.eq_iff_iff, @decide_eq_true_eq _ (Classical.propDecidable _)]
                  exact hc.symm
                rw [gd] at this
                exact this
end
end Sw
namespace Sw
open PySem L2
theorem isex_len {n : Int} {ds : List PyData} (c : ds.length ≠ 2) : isex n (.tuple ds) = false := by
  match ds, c with
  | [], _ => rfl
  | [_], _ => rfl
  | [_, _], c => exact absurd rfl c
  | _ :: _ :: _ :: _, _ => rfl
theorem btw_isw {lo hi : Int} {d : PyData} (h : isw d = false) : btw lo hi d = false := by
  cases d <;> first | rfl | exact absurd h Bool.noConfusion
theorem isex_int (n i j : Int) : isex n (.tuple [.int i, .int j]) = decide (1 ≤ i ∧ i < j ∧ j ≤ n) := by
  show ((decide (1 ≤ i ∧ i ≤ n) && decide (1 ≤ j ∧ j ≤ n)) && decide (i < j)) = _
  rw [Bool.eq_iff_iff]
  simp
  omega
end Sw
namespace L2
open PySem PySem.Spec PyProof.Rows
section
variable {X : Cx}
theorem pe_chain3 {op op' op'' : CmpOp} {r r' r'' : R2} {a b c d : Expr} {ta tb tc td : TE} {pos : Pos} (ho : OpR X (compareOp op) r) (ho' : OpR X (compareOp op') r') (ho2 : OpR X (compareOp op'') r'') (ha : PE X a ta) (hb : PE X b tb) (hc : PE X c tc) (hd : PE X d td)
    (hm : lastMarks [op, op', op''] [b, c, d] = false := by with_unfolding_all rfl) : PE X (.Compare a [op, op', op''] [b, c, d] pos) (tChain3 r r' r'' ta tb tc td) := by
  intro pins s σ H Q I h
  refine Compare_chain (thn (ha pins s σ H _ I h) fun v s1 ⟨x, H1, I1, r1, q1⟩ => chain_link (thn (hb pins s1 σ H1 _ I1 q1) fun u s2 ⟨y, H2, I2, r2, q2⟩ =>
    thn (ho pins s2 σ H2 x y v u _ I2 r1 r2 q2) fun d s3 ⟨z, H3, I3, r3, k, e, q3⟩ => ?_)) hm
  subst e
  cases r3
  refine wpAny_truthy_bool ?_
  cases k with
  | false => exact ite_ff ⟨.bl false, H3, I3, rfl, q3⟩
  | true =>
    refine ite_tt (chain_link (thn (hc pins s3 σ H3 _ I3 q3) fun w' s4 ⟨z', H4, I4, r4, q4⟩ => thn (ho' pins s4 σ H4 y z' u w' _ I4 r2 r4 q4) fun d' s5 ⟨z2, H5, I5, r5, k2, e2, q5⟩ => ?_))
    subst e2
    cases r5
    refine wpAny_truthy_bool ?_
    cases k2 with
    | false => exact ite_ff ⟨.bl false, H5, I5, rfl, q5⟩
    | true => exact ite_tt (chain_last (thn (hd pins s5 σ H5 _ I5 q5) fun w2 s6 ⟨z3, H6, I6, r6, q6⟩ => ho2 pins s6 σ H6 z' z3 w' w2 Q I6 r4 r6 q6))
end
end L2
namespace Sw
open PySem L2
theorem isex_nint {n : Int} {x y : PyData} (h : isw y = false) : isex n (.tuple [x, y]) = false := by
  show ((btw 1 n x && btw 1 n y) && lt2 x y) = false
  rw [btw_isw h, Bool.and_false]; rfl
structure TLp (P : Program) (w : World) (K : PySem.W.Frag) (mg : Str → Option Value) (base : Heap) : Prop extends T1 mg K where
  f__law_whole : FnAt P w K mg base "_law_whole" 1 ["_law_thing"] spIwD
structure TLi (P : Program) (w : World) (K : PySem.W.Frag) (mg : Str → Option Value) (base : Heap) : Prop extends T1 mg K where
  f__law_is_pair : FnAt P w K mg base "_law_is_pair" 2 ["_law_n", "_law_thing"] spIsEx
section
variable {P : Program} {w : World} {K : PySem.W.Frag} {mg : Str → Option Value} {base : Heap}
theorem sc__law_whole : FnScope ["_law_thing"] ["_law_thing"] (defScope (top 66)) := ⟨rfl, rfl, rfl, by decide +kernel, rfl, by decide +kernel, by decide +kernel⟩
theorem ok_lwD {f : Addr} {fd : FuncData} (F : Fun K "_law_whole" "_law_whole" (top 66) f fd) (T : T1 mg K) : FnOk P w K mg base CX0 1 f fd ["_law_thing"] spIwD := by
  refine F.ok sc__law_whole (fun vs H Q E h => ?_) (fun cdv A outer s H vs Q E hr h => ?_)
  · obtain ⟨v, P, d, rfl, _⟩ := h
    rfl
  · obtain ⟨v, P, d, rfl, hd, k⟩ := h
    refine ⟨_, (pss_one (ps_ret (pe_and (pe_callB (call_isiK (K := K) rfl) rfl T.b_isinstance (by decide +kernel) (pa_cons (pv 0) (pa_cons (pe_bltn (v := .ty "int") rfl T.b_int (by decide +kernel) rfl) pa_nil))) (pe_one (pe_not (pe_callB (call_isiK (K := K) rfl) rfl T.b_isinstance (by decide +kernel) (pa_cons (pv 0) (pa_cons (pe_bltn (v := .ty "bool") rfl T.b_bool (by decide +kernel) rfl) pa_nil)))))))), ?_⟩
    refine ⟨_, rfl, _, _, "int", _, rfl, hd.ty, kit_int K hd, _, rfl, ite2 (fun c => ?_) (fun c => ?_)⟩
    · refine ⟨_, rfl, _, _, "bool", _, rfl, hd.ty, kit_bool K hd, _, rfl, ?_⟩
      cases hd <;> first | exact k | exact absurd c Bool.false_ne_true
    · cases hd <;> first | exact k | exact absurd rfl c
theorem sc__law_is_pair : FnScope ["_law_n", "_law_thing"] ["_law_n", "_law_thing"] (defScope (top 67)) := ⟨rfl, rfl, rfl, by decide +kernel, rfl, by decide +kernel, by decide +kernel⟩
theorem ok_lpr {f : Addr} {fd : FuncData} (F : Fun K "_law_is_pair" "_law_is_pair" (top 67) f fd) (T : TLp P w K mg base) : FnOk P w K mg base CX0 2 f fd ["_law_n", "_law_thing"] spIsEx := by
  refine F.ok sc__law_is_pair (fun vs H Q E h => ?_) (fun cdv A outer s H vs Q E hr h => ?_)
  · obtain ⟨v, P, d, n, rfl, _⟩ := h
    rfl
  · obtain ⟨v, P, d, n, rfl, hd, k⟩ := h
    refine ⟨_, (pss_cons (ps_if (PW.pt (pw_or (pt_not (pt_val (pe_callB (call_isiK (K := K) rfl) rfl T.b_isinstance (by decide +kernel) (pa_cons (pv 1) (pa_cons (pe_bltn (v := .ty "tuple") rfl T.b_tuple (by decide +kernel) rfl) pa_nil))))) (pw_or (pt_cmpR op_ne (pe_callB (call_lenK (K := K) rfl) rfl T.b_len (by decide +kernel) (pa_cons (pv 1) pa_nil)) pe_int (nomark _)) (pw_or (pt_not (pt_val (pe_callF T.f__law_whole (hr.mono (by first | decide | omega)) rfl (pa_cons (pe_ix (ix_tupK (K := K) rfl) (pv 1) pe_int (fun _ _ => rfl)) pa_nil)))) (pw_or1 (pt_not (pt_val (pe_callF T.f__law_whole (hr.mono (by first | decide | omega)) rfl (pa_cons (pe_ix (ix_tupK (K := K) rfl) (pv 1) pe_int (fun _ _ => rfl)) pa_nil))))))))) (pss_one (ps_ret pe_bl)) pss_nil)
      (pss_one (ps_ret (pe_chain3 op_le op_lt op_le pe_int (pe_ix (ix_tupK (K := K) rfl) (pv 1) pe_int (fun _ _ => rfl)) (pe_ix (ix_tupK (K := K) rfl) (pv 1) pe_int (fun _ _ => rfl)) (pv 0))))), ?_⟩
    refine ⟨_, rfl, _, _, "tuple", _, rfl, hd.ty, kit_tuple K hd, _, rfl, ?_⟩
    cases hd with
    | @tup a us ds ha pa rs =>
      refine iteF ?_
      have ul := rs.length
      refine ⟨_, rfl, a, _, rfl, .inr (SqT.of ha), rfl, _, rfl, ?_⟩
      by_cases c : ds.length = 2
      · refine iteE (by rw [decide_eq_true (by rw [ul, c]; rfl)]; rfl) ?_
        match ds, us, rs, c with
        | [x, y], [vx, vy], .cons hx (.cons hy .nil), _ =>
          refine ⟨_, rfl, a, _, _, _, rfl, rfl, SqT.of ha, rfl, vx, P, x, rfl, hx, _, rfl, ?_⟩
          cases hx with
          | int i =>
            refine iteF ?_
            refine ⟨_, rfl, a, _, _, _, rfl, rfl, SqT.of ha, rfl, vy, P, y, rfl, hy, _, rfl, ?_⟩
            cases hy with
            | int j =>
              refine iteF ?_
              rw [isex_int] at k
              refine ⟨_, rfl, a, _, _, _, rfl, rfl, SqT.of ha, rfl, _, _, rfl, rfl, _, rfl, ite2 (fun c1 => ?_) (fun c1 => ?_)⟩
              · have c1 := of_decide_eq_true c1
                refine ⟨_, rfl, a, _, _, _, rfl, rfl, SqT.of ha, rfl, _, _, rfl, rfl, _, rfl, ite2 (fun c2 => ?_) (fun c2 => ?_)⟩
                · have c2 := of_decide_eq_true c2
                  refine ⟨_, rfl, _, _, rfl, rfl, ?_⟩
                  have e : decide (1 ≤ i ∧ i < j ∧ j ≤ n) = decide (j ≤ n) := by rw [Bool.eq_iff_iff]; simp [c1, c2]
                  rw [e] at k
                  exact k H (Same.refl H)
                · have e : decide (1 ≤ i ∧ i < j ∧ j ≤ n) = false := by
                    have c2 : ¬ i < j := of_decide_eq_false (by simpa using c2)
                    rw [decide_eq_false (fun z => c2 z.2.1)]
                  rw [e] at k
                  exact k H (Same.refl H)
              · have e : decide (1 ≤ i ∧ i < j ∧ j ≤ n) = false := by
                  have c1 : ¬ (1 : Int) ≤ i := of_decide_eq_false (by simpa using c1)
                  rw [decide_eq_false (fun z => c1 z.1)]
                rw [e] at k
                exact k H (Same.refl H)
            | _ => exact iteT (by have := k H (Same.refl H); rw [isex_nint rfl] at this; exact this)
          | _ => exact iteT (k H (Same.refl H))
      · refine iteP (by rw [decide_eq_false (fun z => c (by have := V.int.inj z; omega))]; rfl) ?_
        rw [isex_len c] at k
        exact k H (Same.refl H)
    | _ => exact iteT (k H (Same.refl H))
theorem sc__law_is_row : FnScope ["_law_n", "_law_thing"] ["_law_n", "_law_thing"] (defScope (top 68)) := ⟨rfl, rfl, rfl, by decide +kernel, rfl, by decide +kernel, by decide +kernel⟩
theorem ok_lisrP {f : Addr} {fd : FuncData} (F : Fun K "_law_is_row" "_law_is_row" (top 68) f fd) (T : TLi P w K mg base) : FnOk P w K mg base CX0 3 f fd ["_law_n", "_law_thing"] spIsRow := by
  refine F.ok sc__law_is_row (fun vs H Q E h => ?_) (fun cdv A outer s H vs Q E hr h => ?_)
  · obtain ⟨v, P, d, n, rfl, _⟩ := h
    rfl
  · obtain ⟨v, P, d, n, rfl, hd, hlen, k⟩ := h
    refine ⟨_, (pss_one (ps_ret (pe_and (pe_callB (call_isiK (K := K) rfl) rfl T.b_isinstance (by decide +kernel) (pa_cons (pv 1) (pa_cons (pe_bltn (v := .ty "list") rfl T.b_list (by decide +kernel) rfl) pa_nil))) (pe_and (pe_cmpR op_le (pe_callB (call_lenK (K := K) rfl) rfl T.b_len (by decide +kernel) (pa_cons (pv 1) pa_nil)) pe_int (nomark _)) (pe_one (pe_callB (call_allK (K := K) rfl rfl) rfl T.b_all (by decide +kernel) (pa_cons (pe_comp (N := (["_law_part", "_law_n"] : List Str)) (ix := ([none, some 0] : List (Option Nat))) (comp_ok rfl rfl) rfl (pi_listK (K := K) rfl (pv 1)) (fun _ _ _ _ => (pg_name (i := 0) (show List.Nodup (["_law_part", "_law_n"] : List Str) from by decide +kernel) rfl (Or.inl rfl))) (fun _ _ _ _ => pif_nil) (fun _ _ _ _ => (pe_callF T.f__law_is_pair (hr.mono (by first | decide | omega)) rfl (pa_cons (pv 1) (pa_cons (pv 0) pa_nil))))) pa_nil))))))), ?_⟩
    refine ⟨_, rfl, _, _, "list", _, rfl, hd.ty, kit_list K hd, _, rfl, ?_⟩
    cases hd with
    | @lst a us ds ha pa rs =>
      refine iteT ?_
      have ul := rs.length
      have dl := hlen ds rfl
      refine ⟨_, rfl, a, _, rfl, .inl (SqL.of ha), _, _, rfl, rfl, _, rfl, ?_⟩
      by_cases c : ds.length ≤ 60
      · refine iteP (decide_eq_true (by omega)) ?_
        refine ⟨_, rfl, a, rfl, ⟨_, SqL.of ha⟩, compL (K := K) (a := a) (xs := us) (k := 0) (fun i ys σ' H' => ys = ((ds.take i).map (isex n)).map V.bl ∧ (∃ v, σ' = [v, some (.int n)]) ∧ Same H H') (by omega) ⟨rfl, ⟨none, rfl⟩, Same.refl _⟩ (fun i ys σ' H' _ q => SqL.of (q.2.2 _ _ ha)) (fun i ys σ' H' q => by rw [q.1, List.length_map, List.length_map, List.length_take]; omega) ?_ ?_⟩
        · rintro i ys σ' H' z R hz ⟨rfl, ⟨v, rfl⟩, s1⟩ done
          obtain ⟨d, hd, hdz⟩ := rs.get hz
          refine ⟨_, rfl, _, rfl, z, P, d, n, rfl, DT.same hdz s1, fun H2 s2 => done _ _ _ ⟨?_, ⟨_, rfl⟩, s1.trans s2⟩⟩
          rw [all_take hd, List.map_append]
          rfl
        · rintro ys σ' H' q ⟨rfl, ⟨v, rfl⟩, s1⟩ fq
          rw [List.take_of_length_le (by omega)]
          refine ⟨q, ds.map (isex n), rfl, SqL.of upd_same, ?_⟩
          have e : isrow n (.list ds) = (ds.map (isex n)).all id := by
            show (decide (ds.length ≤ 60) && ds.all (isex n)) = _
            rw [decide_eq_true c, List.all_map]; rfl
          rw [e] at k
          exact k _ (s1.trans (Same.new fq))
      · refine iteE (decide_eq_false (by omega)) ?_
        have e : isrow n (.list ds) = false := by
          show (decide (ds.length ≤ 60) && _) = false
          rw [decide_eq_false c]; rfl
        rw [e] at k
        exact k H (Same.refl H)
    | _ => exact iteF (k H (Same.refl H))
end
end Sw
namespace Sw
open PySem L2
structure TTk (P : Program) (w : World) (K : PySem.W.Frag) (mg : Str → Option Value) (base : Heap) : Prop extends T1 mg K where
  f__law_take : FnAt P w K mg base "_law_take" 1 ["_law_pool_here", "_law_many"] spTk
def spRb : Sp := fun vs H Q _ => ∃ (p : Addr) (n m : Int), vs = [.ref p, .int n, .int m] ∧ Pool H p ∧ 1 ≤ n ∧ n ≤ 12 ∧ 0 ≤ m ∧ m ≤ 60 ∧ ∀ l es row H', H l = none → H' l = some (.lst es) → Exs H' es row → Good n row → row.length ≤ 60 → Pool H' p → SameX p H H' → Q (.ref l) H'
section
variable {P : Program} {w : World} {K : PySem.W.Frag} {mg : Str → Option Value} {base : Heap}
theorem sc__law_row_by : FnScope ["_law_pool_here", "_law_n", "_law_many", "_law_row", "_law_k", "_law_a"] ["_law_pool_here", "_law_n", "_law_many"] (defScope (top 69)) := ⟨rfl, rfl, rfl, by decide +kernel, rfl, by decide +kernel, by decide +kernel⟩
theorem ok_rb4 {f : Addr} {fd : FuncData} (F : Fun K "_law_row_by" "_law_row_by" (top 69) f fd) (T : TTk P w K mg base) : FnOk P w K mg base CX0 2 f fd ["_law_pool_here", "_law_n", "_law_many"] spRb := by
  refine F.ok sc__law_row_by (fun vs H Q E h => ?_) (fun cdv A outer s H vs Q E hr h => ?_)
  · obtain ⟨p, n, m, rfl, _⟩ := h
    rfl
  · obtain ⟨p, n, m, rfl, pu, n1, n12, m0, m60, k⟩ := h
    refine ⟨_, (pss_cons (ps_set (i := 3) sc__law_row_by.nd rfl (Or.inl rfl) (pe_lst pa_nil))
      (pss_cons (ps_for PassesOwn.never rfl (pi_range1 rfl T.b_range (pa_cons (pe_op op_mul (pv 2) (pe_callTy call_int1 rfl T.b_int (by decide +kernel) (pa_cons (pe_cmpR op_gt (pv 1) pe_int (nomark _)) pa_nil))) pa_nil)) (pg_name (i := 4) sc__law_row_by.nd rfl (Or.inl rfl)) (pss_cons (ps_set (i := 5) sc__law_row_by.nd rfl (Or.inl rfl) (pe_op op_add pe_int (pe_callF T.f__law_take (hr.mono (by first | decide | omega)) rfl (pa_cons (pv 0) (pa_cons (pe_op op_sub (pv 1) pe_int) pa_nil)))))
      (pss_one (ps_expr (pe_bmK (K := K) rfl PySem.F.plainAttrs_list PySem.F.slot_list_append PySem.F.type_list_append mt_append (pv 3) (pa_cons (pe_tup (pa_cons (pv 5) (pa_cons (pe_op op_add (pe_op op_add (pv 5) pe_int) (pe_callF T.f__law_take (hr.mono (by first | decide | omega)) rfl (pa_cons (pv 0) (pa_cons (pe_op op_sub (pv 1) (pv 5)) pa_nil)))) pa_nil))) pa_nil))))))
      (pss_one (ps_ret (pv 3))))), ?_⟩
    have big : (10000000 : Nat) ≤ sizeLine := by decide
    refine ⟨Nat.zero_le _, fun l fl => ?_⟩
    have s1 : Same H (upd H l (.lst [])) := Same.new fl
    have h1 : upd H l (.lst []) l = some (.lst []) := upd_same
    have npl : p ≠ l := pu.ne fl
    generalize upd H l (.lst []) = H1 at s1 h1 ⊢
    have pu1 := pu.keep s1
    obtain ⟨c, hc⟩ : ∃ c : Int, (if decide (1 < n) = true then (1 : Int) else 0) = c := ⟨_, rfl⟩
    have cb : (c = 1 ∧ 1 < n) ∨ (c = 0 ∧ n = 1) := by
      by_cases z : 1 < n
      · rw [if_pos (decide_eq_true z)] at hc; omega
      · rw [if_neg (by simpa using z)] at hc; omega
    have mc : (m * c = m ∧ 1 < n) ∨ m * c = 0 := by
      rcases cb with ⟨rfl, z⟩ | ⟨rfl, z⟩
      · exact .inl ⟨Int.mul_one m, z⟩
      · exact .inr (Int.mul_zero m)
    refine ⟨_, rfl, _, rfl, _, _, rfl, rfl, .inr ⟨_, rfl, ?_⟩⟩
    rw [hc]
    refine ⟨_, _, rfl, rfl, .inr ⟨by omega, by omega⟩, _, rfl, by omega, by omega, for_range (fun i σ H' => (∃ v4 v5, σ = [some (.ref p), some (.int n), some (.int m), some (.ref l), v4, v5]) ∧ i ≤ 60 ∧ ∃ es row, H' l = some (.lst es) ∧ Exs H' es row ∧ Good n row ∧ row.length = i ∧ Pool H' p ∧ SameX p H H') ⟨⟨_, _, rfl⟩, by decide, [], [], h1, .nil, (fun e he => by cases he), rfl, pu1, s1.x⟩ ?_ ?_⟩
    · rintro i σ H2 hi ⟨⟨v4, v5, rfl⟩, i60, es, row, h2, x2, g2, rl, pu2, s2⟩
      have n2 : 1 < n := by omega
      have el := x2.length
      refine ⟨_, rfl, _, rfl, _, _, rfl, rfl, p, _, rfl, pu2, by omega, by omega, fun r1 H3 r10 r11 pu3 s3 => ?_⟩
      refine ⟨_, _, rfl, rfl, ?_⟩
      have h3 := s3 _ _ npl.symm h2
      obtain ⟨a, ha⟩ : ∃ a, 1 + r1 = a := ⟨_, rfl⟩
      refine gNJ ?_
      dsimp only
      rw [ha]
      refine ⟨_, rfl, .inl ⟨rfl, _, SqL.of h3⟩, _, rfl, _, rfl, _, _, rfl, rfl, _, rfl, _, rfl, _, rfl, _, _, rfl, rfl, p, _, rfl, pu3, by omega, by omega, fun r2 H4 r20 r21 pu4 s4 => ?_⟩
      have h4 := s4 _ _ npl.symm h3
      refine ⟨_, _, rfl, rfl, (by show 2 ≤ sizeLine; decide), fun te hte => ?_⟩
      obtain ⟨_, hp2⟩ := pu2.at
      obtain ⟨_, hp3⟩ := pu3.at
      have x4 := (x2.keep (SameX.tups s3 hp2)).keep (SameX.tups s4 hp3)
      have z1 : Same H4 (upd H4 te (.tup [.int a, .int (a + 1 + r2)])) := Same.new hte
      have ht1 : upd H4 te (.tup [.int a, .int (a + 1 + r2)]) te = some (.tup [.int a, .int (a + 1 + r2)]) := upd_same
      generalize upd H4 te (.tup [.int a, .int (a + 1 + r2)]) = H5 at z1 ht1 ⊢
      have h5 := z1 _ _ h4
      refine ⟨l, _, _, rfl, rfl, h5, by omega, ?_⟩
      have kt : ∀ b zs, H5 b = some (.tup zs) → upd H5 l (.lst (es ++ [.ref te])) b = some (.tup zs) := fun b zs e => by
        rw [upd_ne (ne_of e h5 (by intro z; cases z))]; exact e
      refine ⟨⟨_, _, rfl⟩, by omega, _, row ++ [(a, a + 1 + r2)], upd_same, Exs.snoc ((x4.keep (Same.tups z1)).keep kt) (kt _ _ ht1), fun e he => ?_, by rw [List.length_append, rl]; rfl, (pu4.keep z1).upd npl, SameX.put (s2.trans (s3.trans (s4.trans z1.x))) fl⟩
      rcases List.mem_append.mp he with he | he
      · exact g2 e he
      · rw [List.mem_singleton.mp he]; exact ⟨by show 1 ≤ a; omega, by show a < a + 1 + r2; omega, by show a + 1 + r2 ≤ n; omega⟩
    · rintro σ H2 ⟨⟨v4, v5, rfl⟩, i60, es, row, h2, x2, g2, rl, pu2, s2⟩
      exact ⟨_, rfl, k l es row H2 fl h2 x2 g2 (by omega) pu2 s2⟩
end
end Sw
namespace L2
open PySem PySem.Spec PyProof.Rows
section
variable {X : Cx} {K : PySem.W.Frag}
def rMaxL (K : PySem.W.Frag) : List V → Hp → VK → Prop := fun xs H Q => ∃ (p : Addr) (ns : List Int) (M : Int), xs = [.ref p] ∧ SqL K H p (ns.map V.int) ∧ M ∈ ns ∧ (∀ a ∈ ns, a ≤ M) ∧ Q (.int M) H
theorem call_maxL (hc : X.calm = true) (hK : X.K = K) : CallR X (.builtin "max") (rMaxL K) := by
  subst hK
  intro pins s σ H xs us Q I r h
  obtain ⟨p, ns, M, rfl, hl, hM, hm, q⟩ := h
  obtain ⟨u, rfl, rx⟩ := vals1 r
  cases rx
  obtain ⟨its, rv, pl, hz⟩ := I.list hl
  obtain ⟨xs, rfl, e⟩ := vals_toks rv
  have hpos : 0 < xs.length := by
    rw [← List.length_map (f := (·.1)), e]
    exact List.length_pos_of_mem hM
  refine max_intList (l := p) (xs := xs.toArray) (I.ok.hd hc) ?_ (by simpa using hpos) fun v h' tk hv hk => ?_
  · have := pl.isList
    unfold intItems
    simpa using this
  · have num : ∀ i, numAt xs.toArray i = ns.getD i 0 := by
      intro i
      unfold numAt
      rw [List.getElem?_toArray, ← e, List.getD_eq_getElem?_getD, List.getElem?_map]
    obtain ⟨b1, b2⟩ := argBest_gt (numAt xs.toArray) (xs.toArray.size - 1)
    generalize argBest (fun i j => decide (numAt xs.toArray i > numAt xs.toArray j)) (xs.toArray.size - 1) = k at b1 b2 hv
    have lk : k < xs.length := by simp at b1; omega
    have hv' : v = Value.int xs[k].1 xs[k].2 := by
      unfold intItems at hv
      simp at hv
      rw [List.getElem?_eq_getElem lk] at hv
      obtain ⟨a, b, h1, h2⟩ := hv
      have h1 := Option.some.inj h1
      rw [h1]
      exact h2.symm
    subst hv'
    have lx : xs.length = ns.length := by rw [← e, List.length_map]
    have ek : xs[k].1 = ns[k] := by
      have : (xs.map (·.1))[k]'(by rw [List.length_map]; exact lk) = ns[k] := by simp only [e]
      simpa using this
    have eM : xs[k].1 = M := by
      rw [ek]
      refine Int.le_antisymm (hm _ (List.getElem_mem _)) ?_
      obtain ⟨j, hj, ej⟩ := List.mem_iff_getElem.mp hM
      have := b2 j (by simp; omega)
      rw [num, num] at this
      rw [← ej]
      rw [List.getD_eq_getElem?_getD, List.getElem?_eq_getElem hj, List.getD_eq_getElem?_getD, List.getElem?_eq_getElem (by omega : k < ns.length)] at this
      exact this
    rw [eM]
    refine ⟨.int M, H, ?_, ⟨_, rfl⟩, q⟩
    exact (I.kept (t' := s.toks) (h' := h') fun b o e => hk b o e).tok tk
end
end L2
namespace Sw
open PySem L2
def spSz : Sp := fun vs H Q _ => ∃ (v : V) (P : Addr → Prop) (d : PyData), vs = [v] ∧ DT H P v d ∧ Q (.bl (btw 1 12 d)) H
def spCar5 : Sp := fun vs H Q _ => ∃ (t1 t2 : Addr) (a b c d : Int), vs = [.ref t1, .ref t2] ∧ H t1 = some (.tup [.int a, .int b]) ∧ H t2 = some (.tup [.int c, .int d]) ∧ c < d ∧ ∀ t H', H t = none → H' t = some (.tup [.int (car (a, b) (c, d)).1, .int (car (a, b) (c, d)).2]) → Same H H' → Q (.ref t) H'
def spLm5 : Sp := fun vs H Q _ => ∃ (l : Addr) (es : List V) (row : List (Int × Int)) (k n : Int) (way : Str), vs = [.ref l, .int k, .str way] ∧ H l = some (.lst es) ∧ Exs H es row ∧ row.length ≤ 1000 ∧ Good n row ∧
  (∀ f : Bool, way = wayS f → 1 ≤ k → k < row.length → ∀ l' es' H', H l' = none → H' l' = some (.lst es') → Exs H' es' (mvM row (k - 1).toNat f) → Same H H' → Q (.ref l') H') ∧
  (¬ (1 ≤ k ∧ k < row.length ∧ ∃ f, way = wayS f) → ∀ H', Same H H' → Q .non H')
theorem in_ways {way : Str} (h : way = Str.ofString "forth" ∨ way = Str.ofString "back") : inV (.str way) [.str "forth", .str "back"] = true := by
  rcases h with rfl | rfl <;> decide
theorem not_in_ways {way : Str} (h : ¬ (way = Str.ofString "forth" ∨ way = Str.ofString "back")) : inV (.str way) [.str "forth", .str "back"] = false := by
  have e : ∀ y : Str, y ≠ way → eqV (.str y) (.str way) = false := fun y hy => by
    unfold eqV
    first | exact decide_eq_false hy | exact beq_eq_false_iff_ne.mpr hy | (exact decide_eq_false fun z => hy (by injection z))
  show (eqV (.str "forth") (.str way) || (eqV (.str "back") (.str way) || false)) = false
  rw [e _ fun z => h (.inl z.symm), e _ fun z => h (.inr z.symm)]; rfl
structure TCr5 (mg : Str → Option Value) (K : PySem.W.Frag) : Prop extends T1 mg K where
  b_min : mg "min" = none
  b_max : mg "max" = none
structure TMv5 (P : Program) (w : World) (K : PySem.W.Frag) (mg : Str → Option Value) (base : Heap) : Prop extends T1 mg K where
  f__law_carried : FnAt P w K mg base "_law_carried" 1 ["_law_pair", "_law_by"] spCar5
structure TIm5 (P : Program) (w : World) (K : PySem.W.Frag) (mg : Str → Option Value) (base : Heap) : Prop extends T1 mg K where
  b_str : mg "str" = none
  f__law_whole : FnAt P w K mg base "_law_whole" 1 ["_law_thing"] spIwD
section
variable {P : Program} {w : World} {K : PySem.W.Frag} {mg : Str → Option Value} {base : Heap}
theorem sc__law_is_size : FnScope ["_law_thing"] ["_law_thing"] (defScope (top 70)) := ⟨rfl, rfl, rfl, by decide +kernel, rfl, by decide +kernel, by decide +kernel⟩
theorem ok_sz5 {f : Addr} {fd : FuncData} (F : Fun K "_law_is_size" "_law_is_size" (top 70) f fd) (T : TLp P w K mg base) : FnOk P w K mg base CX0 2 f fd ["_law_thing"] spSz := by
  refine F.ok sc__law_is_size (fun vs H Q E h => ?_) (fun cdv A outer s H vs Q E hr h => ?_)
  · obtain ⟨v, P, d, rfl, _⟩ := h
    rfl
  · obtain ⟨v, P, d, rfl, hd, k⟩ := h
    refine ⟨_, (pss_one (ps_ret (pe_and (pe_callF T.f__law_whole (hr.mono (by first | decide | omega)) rfl (pa_cons (pv 0) pa_nil)) (pe_one (pe_chain op_le op_le pe_int (pv 0) pe_int))))), ?_⟩
    refine ⟨_, rfl, v, P, d, rfl, hd, _, rfl, ?_⟩
    cases hd with
    | int x =>
      refine iteT ?_
      refine ⟨_, rfl, _, _, rfl, rfl, _, rfl, ite2 (fun c => ?_) (fun c => ?_)⟩
      · have c : 1 ≤ x := of_decide_eq_true c
        have e : btw 1 12 (.int x) = decide (x ≤ 12) := by show decide (1 ≤ x ∧ x ≤ 12) = _; rw [Bool.eq_iff_iff]; simp [c]
        rw [e] at k
        exact ⟨_, _, rfl, rfl, k⟩
      · have c : ¬ 1 ≤ x := of_decide_eq_false (by simpa using c)
        have e : btw 1 12 (.int x) = false := by show decide (1 ≤ x ∧ x ≤ 12) = _; simp [c]
        rw [e] at k
        exact k
    | _ => exact iteF k
theorem sc__law_is_move : FnScope ["_law_thing"] ["_law_thing"] (defScope (top 73)) := ⟨rfl, rfl, rfl, by decide +kernel, rfl, by decide +kernel, by decide +kernel⟩
theorem ok_lmv5 {f : Addr} {fd : FuncData} (F : Fun K "_law_is_move" "_law_is_move" (top 73) f fd) (T : TIm5 P w K mg base) : FnOk P w K mg base CX0 2 f fd ["_law_thing"] spIsMv := by
  refine F.ok sc__law_is_move (fun vs H Q E h => ?_) (fun cdv A outer s H vs Q E hr h => ?_)
  · obtain ⟨v, P, d, rfl, _⟩ := h
    rfl
  · obtain ⟨v, P, d, rfl, hd, k⟩ := h
    refine ⟨_, (pss_one (ps_ret (pe_and (pe_callB (call_isiK (K := K) rfl) rfl T.b_isinstance (by decide +kernel) (pa_cons (pv 0) (pa_cons (pe_bltn (v := .ty "tuple") rfl T.b_tuple (by decide +kernel) rfl) pa_nil))) (pe_and (pe_cmpR op_eq (pe_callB (call_lenK (K := K) rfl) rfl T.b_len (by decide +kernel) (pa_cons (pv 0) pa_nil)) pe_int (nomark _)) (pe_and (pe_callF T.f__law_whole (hr.mono (by first | decide | omega)) rfl (pa_cons (pe_ix (ix_tupK (K := K) rfl) (pv 0) pe_int (fun _ _ => rfl)) pa_nil)) (pe_one (pe_callB (call_isiK (K := K) rfl) rfl T.b_isinstance (by decide +kernel) (pa_cons (pe_ix (ix_tupK (K := K) rfl) (pv 0) pe_int (fun _ _ => rfl)) (pa_cons (pe_bltn (v := .ty "str") rfl T.b_str (by decide +kernel) rfl) pa_nil))))))))), ?_⟩
    refine ⟨_, rfl, _, _, "tuple", _, rfl, hd.ty, kit_tuple K hd, _, rfl, ?_⟩
    cases hd with
    | @tup a us ds ha pa rs =>
      refine iteT ?_
      have ul := rs.length
      refine ⟨_, rfl, a, _, rfl, .inr (SqT.of ha), rfl, _, rfl, ?_⟩
      by_cases c : ds.length = 2
      · refine iteP (decide_eq_true (by rw [ul, c]; rfl)) ?_
        match ds, us, rs, c with
        | [x, y], [vx, vy], .cons hx (.cons hy .nil), _ =>
          refine ⟨_, rfl, a, _, _, _, rfl, rfl, SqT.of ha, rfl, vx, P, x, rfl, hx, _, rfl, ?_⟩
          cases e : isw x with
          | false =>
            refine iteF ?_
            have : ismv (.tuple [x, y]) = false := by show (isw x && isS y) = false; rw [e]; rfl
            rw [this] at k
            exact k
          | true =>
            refine iteT ?_
            have : ismv (.tuple [x, y]) = isS y := by show (isw x && isS y) = _; rw [e]; rfl
            rw [this] at k
            exact ⟨_, rfl, a, _, _, _, rfl, rfl, SqT.of ha, rfl, _, _, "str", _, rfl, hy.ty, kit_strD K hy, k⟩
      · refine iteE (decide_eq_false fun z => c (by have := V.int.inj z; omega)) ?_
        rw [ismv_len c] at k
        exact k
    | _ => exact iteF k
theorem sc__law_carried : FnScope ["_law_pair", "_law_by", "_law_some", "_law_a", "_law_b"] ["_law_pair", "_law_by"] (defScope (top 71)) := ⟨rfl, rfl, rfl, by decide +kernel, rfl, by decide +kernel, by decide +kernel⟩
theorem ok_car5 {f : Addr} {fd : FuncData} (F : Fun K "_law_carried" "_law_carried" (top 71) f fd) (T : TCr5 mg K) : FnOk P w K mg base CX0 1 f fd ["_law_pair", "_law_by"] spCar5 := by
  refine F.ok sc__law_carried (fun vs H Q E h => ?_) (fun cdv A outer s H vs Q E hr h => ?_)
  · obtain ⟨t1, t2, a, b, c, d, rfl, _⟩ := h
    rfl
  · obtain ⟨t1, t2, a, b, c, d, rfl, h1, h2, cd, k⟩ := h
    have hu := hu_of hr
    refine ⟨_, (pss_cons (ps_asg (pv 1) (pg_tupK (K := K) (n := 2) rfl rfl (pgs_cons (pg_name (i := 3) sc__law_carried.nd rfl (Or.inr rfl)) (pgs_cons (pg_name (i := 4) sc__law_carried.nd rfl (Or.inr rfl)) pgs_nil))))
      (pss_cons (ps_comp (i := 2) sc__law_carried.nd rfl rfl (N := (["_law_thing", "_law_a", "_law_b"] : List Str)) (ix := ([none, some 3, some 4] : List (Option Nat))) (comp_ok rfl rfl) rfl (pi_tupK (K := K) rfl (pv 0)) (fun _ _ _ _ => (pg_name (i := 0) (show List.Nodup (["_law_thing", "_law_a", "_law_b"] : List Str) from by decide +kernel) rfl (Or.inl rfl))) (fun _ _ _ _ => pif_nil) (fun _ _ _ _ => (pe_dget2 hu (pe_disp (pps_cons (pv 1) (pv 2) (pps_cons (pv 2) (pv 1) pps_nil)) rfl rfl (by simp) (by decide)) (pv 0) (pv 0) ⟨rfl, rfl, rfl, rfl⟩)))
      (pss_one (ps_ret (pe_tup (pa_cons (pe_callB (call_minL (K := K) rfl rfl) rfl T.b_min (by decide +kernel) (pa_cons (pv 2) pa_nil)) (pa_cons (pe_callB (call_maxL (K := K) rfl rfl) rfl T.b_max (by decide +kernel) (pa_cons (pv 2) pa_nil)) pa_nil))))))), ?_⟩
    refine ⟨_, rfl, t2, _, rfl, SqT.of h2, rfl, _, _, rfl, _, _, rfl, rfl, ?_⟩
    refine ⟨_, rfl, t1, rfl, ⟨_, SqT.of h1⟩, compT (K := K) (a := t1) (xs := [a, b].map V.int) (k := 0) (fun i ys σ' H' => ys = (([a, b].take i).map fun x => V.int (swp x (c, d))) ∧ (∃ v, σ' = [v, some (.int c), some (.int d)]) ∧ Same H H') (by show 2 ≤ 1000000; decide) ⟨rfl, ⟨none, rfl⟩, Same.refl _⟩ (fun i ys σ' H' _ q => SqT.of (q.2.2 _ _ h1)) (fun i ys σ' H' q => by rw [q.1, List.length_map, List.length_take]; omega) ?_ ?_⟩
    · rintro i ys σ' H' z R hz ⟨rfl, ⟨v, rfl⟩, sj⟩ done
      obtain ⟨x, rfl, hx⟩ := mem_int hz
      refine fun pd fpd => ?_
      refine ⟨_, rfl, _, rfl, _, rfl, _, rfl, upd_same, [(Sum.inl c, .int d), (Sum.inl d, .int c)], rfl, (show 2 ≤ 15 by decide), pd, rfl, .inl ⟨_, .inl upd_same⟩, _, rfl, _, rfl, _, DGet.k (k := (Sum.inl x : Key)) upd_same, ?_⟩
      rw [dict_swp c d x (by omega), upd_upd]
      refine done _ _ _ ⟨?_, ⟨_, rfl⟩, sj.trans (Same.new fpd)⟩
      rw [take_succ_map (fun x => V.int (swp x (c, d))) hx]
    · rintro ys σ' H' q ⟨rfl, ⟨v, rfl⟩, s1⟩ fq
      have e2 : (([a, b].take ([a, b].map V.int).length).map fun x => V.int (swp x (c, d))) = [swp a (c, d), swp b (c, d)].map V.int := rfl
      rw [e2]
      have z1 : Same H' (upd H' q (.lst ([swp a (c, d), swp b (c, d)].map V.int))) := Same.new fq
      have h3 : upd H' q (.lst ([swp a (c, d), swp b (c, d)].map V.int)) q = some (.lst ([swp a (c, d), swp b (c, d)].map V.int)) := upd_same
      generalize upd H' q (.lst ([swp a (c, d), swp b (c, d)].map V.int)) = H2 at z1 h3 ⊢
      refine ⟨_, rfl, q, [swp a (c, d), swp b (c, d)], min (swp a (c, d)) (swp b (c, d)), rfl, SqL.of h3, ?_, ?_, ?_⟩
      · rcases Int.le_total (swp a (c, d)) (swp b (c, d)) with h | h
        · rw [Int.min_eq_left h]; exact List.mem_cons_self
        · rw [Int.min_eq_right h]; exact List.mem_cons_of_mem _ List.mem_cons_self
      · intro x hx
        simp only [List.mem_cons, List.not_mem_nil, or_false] at hx
        omega
      refine ⟨_, rfl, q, [swp a (c, d), swp b (c, d)], max (swp a (c, d)) (swp b (c, d)), rfl, SqL.of h3, ?_, ?_, ?_⟩
      · rcases Int.le_total (swp a (c, d)) (swp b (c, d)) with h | h
        · rw [Int.max_eq_right h]; exact List.mem_cons_of_mem _ List.mem_cons_self
        · rw [Int.max_eq_left h]; exact List.mem_cons_self
      · intro x hx
        simp only [List.mem_cons, List.not_mem_nil, or_false] at hx
        omega
      refine ⟨(by show 2 ≤ sizeLine; decide), fun t ft => ?_⟩
      exact k t _ ((s1.trans z1).free ft) upd_same ((s1.trans z1).trans (Same.new ft))
theorem sc__law_moved : FnScope ["_law_row", "_law_k", "_law_way", "_law_s", "_law_t"] ["_law_row", "_law_k", "_law_way"] (defScope (top 72)) := ⟨rfl, rfl, rfl, by decide +kernel, rfl, by decide +kernel, by decide +kernel⟩
theorem ok_lm5 {f : Addr} {fd : FuncData} (F : Fun K "_law_moved" "_law_moved" (top 72) f fd) (T : TMv5 P w K mg base) : FnOk P w K mg base CX0 2 f fd ["_law_row", "_law_k", "_law_way"] spLm5 := by
  refine F.ok sc__law_moved (fun vs H Q E h => ?_) (fun cdv A outer s H vs Q E hr h => ?_)
  · obtain ⟨l, es, row, k, n, way, rfl, _⟩ := h
    rfl
  · obtain ⟨l, es, row, k, n, way, rfl, hl, hx, rl, gd, kQ, kN⟩ := h
    refine ⟨_, (pss_cons (ps_if (PW.pt (pw_or (pt_not (pt_chain op_le op_lt pe_int (pv 1) (pe_callB (call_lenK (K := K) rfl) rfl T.b_len (by decide +kernel) (pa_cons (pv 0) pa_nil)))) (pw_or1 (pt_cmpR (op_notInK (K := K) rfl) (pv 2) (pe_lst (pa_cons pe_str (pa_cons pe_str pa_nil))) rfl)))) (pss_one (ps_ret pe_non)) pss_nil)
      (pss_cons (ps_par (i := 3) (j := 4) rfl sc__law_moved.nd rfl rfl (by decide) rfl rfl (pa_cons (pe_ix (ix_listK (K := K) rfl) (pv 0) (pe_op op_sub (pv 1) pe_int) (fun _ _ => rfl)) (pa_cons (pe_ix (ix_listK (K := K) rfl) (pv 0) (pv 1) (fun _ _ => rfl)) pa_nil)) rfl)
      (pss_cons (ps_if (pt_cmpR op_eq (pv 2) pe_str (nomark _)) (pss_one (ps_ret (pe_op op_cat (pe_op op_cat (pe_slice (sl_listK (K := K) rfl) (pv 0) po_none (po_some (pe_op op_sub (pv 1) pe_int))) (pe_lst (pa_cons (pv 4) (pa_cons (pe_callF T.f__law_carried (hr.mono (by first | decide | omega)) rfl (pa_cons (pv 3) (pa_cons (pv 4) pa_nil))) pa_nil)))) (pe_slice (sl_listK (K := K) rfl) (pv 0) (po_some (pe_op op_add (pv 1) pe_int)) po_none)))) pss_nil)
      (pss_one (ps_ret (pe_op op_cat (pe_op op_cat (pe_slice (sl_listK (K := K) rfl) (pv 0) po_none (po_some (pe_op op_sub (pv 1) pe_int))) (pe_lst (pa_cons (pe_callF T.f__law_carried (hr.mono (by first | decide | omega)) rfl (pa_cons (pv 4) (pa_cons (pv 3) pa_nil))) (pa_cons (pv 3) pa_nil)))) (pe_slice (sl_listK (K := K) rfl) (pv 0) (po_some (pe_op op_add (pv 1) pe_int)) po_none))))))), ?_⟩
    have big : (10000000 : Nat) ≤ sizeLine := by decide
    have two : 2 ≤ sizeLine := by decide
    have xl := hx.length
    refine ⟨_, rfl, _, _, rfl, rfl, _, rfl, ite2 (fun c1 => ?_) (fun c1 => ?_)⟩
    · have c1 : 1 ≤ k := of_decide_eq_true c1
      refine ⟨_, rfl, l, _, rfl, .inl (SqL.of hl), _, _, rfl, rfl, _, rfl, ?_⟩
      by_cases c2 : k < (es.length : Int)
      · refine iteE (by rw [decide_eq_true c2]; rfl) ?_
        refine ⟨_, rfl, two, fun l2 f2 => ⟨l2, _, rfl, .inl (SqL.of upd_same), rfl, rfl, _, rfl, ?_⟩⟩
        have z0 : Same H (upd H l2 (.lst [.str "forth", .str "back"])) := Same.new f2
        generalize upd H l2 (.lst [.str "forth", .str "back"]) = H0 at z0 ⊢
        by_cases hw : way = Str.ofString "forth" ∨ way = Str.ofString "back"
        · refine iteE (by rw [in_ways hw]; rfl) ?_
          obtain ⟨v1, hv1⟩ : ∃ v, es[(k - 1).toNat]? = some v := ⟨_, List.getElem?_eq_getElem (by omega)⟩
          obtain ⟨v2, hv2⟩ : ∃ v, es[k.toNat]? = some v := ⟨_, List.getElem?_eq_getElem (by omega)⟩
          obtain ⟨ts, a, b, rfl, hts, hr1⟩ := hx.get hv1
          obtain ⟨tt, c, d, rfl, htt, hr2⟩ := hx.get hv2
          have ga := gd _ (List.mem_of_getElem? hr1)
          have gc := gd _ (List.mem_of_getElem? hr2)
          simp only at ga gc
          have er1 : row.getD (k - 1).toNat (0, 0) = (a, b) := by rw [List.getD_eq_getElem?_getD, hr1]; rfl
          have er2 : row.getD ((k - 1).toNat + 1) (0, 0) = (c, d) := by rw [show (k - 1).toNat + 1 = k.toNat by omega, List.getD_eq_getElem?_getD, hr2]; rfl
          have hl0 := z0 _ _ hl
          refine ⟨_, rfl, _, rfl, _, _, rfl, rfl, l, _, _, _, rfl, rfl, SqL.of hl0, at_refI (by omega) hv1, _, rfl, _, rfl, l, _, _, _, rfl, rfl, SqL.of hl0, at_refI (by omega) hv2, _, _, rfl, ?_⟩
          refine ⟨_, rfl, rfl, _, rfl, ite2 (fun cw => ?_) (fun cw => ?_)⟩
          · have hway : way = wayS true := by
              have := of_decide_eq_true cw
              injection this
            refine ⟨_, rfl, _, rfl, _, _, rfl, rfl, k - 1, rfl, l, es, rfl, SqL.of hl0, fun p1 f1 => ?_⟩
            rw [cutT9 (by omega) (by omega)]
            have s1 : Same H0 (upd H0 p1 (.lst (es.take (k - 1).toNat))) := Same.new f1
            have h1 : upd H0 p1 (.lst (es.take (k - 1).toNat)) p1 = some (.lst (es.take (k - 1).toNat)) := upd_same
            generalize upd H0 p1 (.lst (es.take (k - 1).toNat)) = H1 at s1 h1 ⊢
            have s01 := z0.trans s1
            refine ⟨_, rfl, _, rfl, _, rfl, ts, tt, a, b, c, d, rfl, s01 _ _ hts, s01 _ _ htt, gc.2.1, fun tn HA ftn htn sA => ⟨two, fun lp flp => ?_⟩⟩
            have s2 := sA.trans (Same.new (o := .lst [.ref tt, .ref tn]) flp)
            have hlp : upd HA lp (.lst [.ref tt, .ref tn]) lp = some (.lst [.ref tt, .ref tn]) := upd_same
            have htn2 := Same.new (o := .lst [.ref tt, .ref tn]) flp _ _ htn
            generalize upd HA lp (.lst [.ref tt, .ref tn]) = H2 at s2 hlp htn2 ⊢
            have s02 := s01.trans s2
            have xp : Exs H2 [.ref tt, .ref tn] (prM (a, b) (c, d) true) := .cons (s02 _ _ htt) (.cons htn2 .nil)
            refine ⟨p1, lp, _, _, rfl, rfl, s2 _ _ h1, hlp, by rw [List.length_take]; show _ + 2 ≤ _; omega, fun p2 f2 => ?_⟩
            have s3 := Same.new (o := .lst (es.take (k - 1).toNat ++ [.ref tt, .ref tn])) f2
            have h3 : upd H2 p2 (.lst (es.take (k - 1).toNat ++ [.ref tt, .ref tn])) p2 = some (.lst (es.take (k - 1).toNat ++ [.ref tt, .ref tn])) := upd_same
            generalize upd H2 p2 (.lst (es.take (k - 1).toNat ++ [.ref tt, .ref tn])) = H3 at s3 h3 ⊢
            have s03 := s02.trans s3
            refine ⟨_, rfl, _, rfl, _, _, rfl, rfl, k + 1, rfl, ?_⟩
            try unfold tNoPart
            refine ⟨l, es, rfl, SqL.of (s03 _ _ hl), fun p3 f3 => ?_⟩
            rw [cutDg (by omega)]
            have s4 := Same.new (o := .lst (es.drop (k + 1).toNat)) f3
            have h4 : upd H3 p3 (.lst (es.drop (k + 1).toNat)) p3 = some (.lst (es.drop (k + 1).toNat)) := upd_same
            generalize upd H3 p3 (.lst (es.drop (k + 1).toNat)) = H4 at s4 h4 ⊢
            refine ⟨p2, p3, _, _, rfl, rfl, s4 _ _ h3, h4, by rw [List.length_append, List.length_take, List.length_drop]; show _ + 2 + _ ≤ _; omega, fun p4 f4 => ?_⟩
            have s5 := Same.new (o := .lst (es.take (k - 1).toNat ++ [.ref tt, .ref tn] ++ es.drop (k + 1).toNat)) f4
            have s05 := s03.trans (s4.trans s5)
            refine kQ true hway (by omega) (by omega) p4 _ _ ((s03.trans s4).free f4) upd_same ?_ s05
            unfold mvM
            rw [er1, er2, show (k - 1).toNat + 2 = (k + 1).toNat by omega]
            exact (((hx.keep (Same.tups s05)).take _).append (xp.keep (Same.tups (s3.trans (s4.trans s5))))).append ((hx.keep (Same.tups s05)).drop _)
          · have hway : way = wayS false := hw.resolve_left fun z => cw (decide_eq_true (by rw [z]))
            refine ⟨_, rfl, _, rfl, _, _, rfl, rfl, k - 1, rfl, l, es, rfl, SqL.of hl0, fun p1 f1 => ?_⟩
            rw [cutT9 (by omega) (by omega)]
            have s1 : Same H0 (upd H0 p1 (.lst (es.take (k - 1).toNat))) := Same.new f1
            have h1 : upd H0 p1 (.lst (es.take (k - 1).toNat)) p1 = some (.lst (es.take (k - 1).toNat)) := upd_same
            generalize upd H0 p1 (.lst (es.take (k - 1).toNat)) = H1 at s1 h1 ⊢
            have s01 := z0.trans s1
            refine ⟨_, rfl, _, rfl, tt, ts, c, d, a, b, rfl, s01 _ _ htt, s01 _ _ hts, ga.2.1, fun tn HA ftn htn sA => ⟨_, rfl, two, fun lp flp => ?_⟩⟩
            have s2 := sA.trans (Same.new (o := .lst [.ref tn, .ref ts]) flp)
            have hlp : upd HA lp (.lst [.ref tn, .ref ts]) lp = some (.lst [.ref tn, .ref ts]) := upd_same
            have htn2 := Same.new (o := .lst [.ref tn, .ref ts]) flp _ _ htn
            generalize upd HA lp (.lst [.ref tn, .ref ts]) = H2 at s2 hlp htn2 ⊢
            have s02 := s01.trans s2
            have xp : Exs H2 [.ref tn, .ref ts] (prM (a, b) (c, d) false) := .cons htn2 (.cons (s02 _ _ hts) .nil)
            refine ⟨p1, lp, _, _, rfl, rfl, s2 _ _ h1, hlp, by rw [List.length_take]; show _ + 2 ≤ _; omega, fun p2 f2 => ?_⟩
            have s3 := Same.new (o := .lst (es.take (k - 1).toNat ++ [.ref tn, .ref ts])) f2
            have h3 : upd H2 p2 (.lst (es.take (k - 1).toNat ++ [.ref tn, .ref ts])) p2 = some (.lst (es.take (k - 1).toNat ++ [.ref tn, .ref ts])) := upd_same
            generalize upd H2 p2 (.lst (es.take (k - 1).toNat ++ [.ref tn, .ref ts])) = H3 at s3 h3 ⊢
            have s03 := s02.trans s3
            refine ⟨_, rfl, _, rfl, _, _, rfl, rfl, k + 1, rfl, ?_⟩
            try unfold tNoPart
            refine ⟨l, es, rfl, SqL.of (s03 _ _ hl), fun p3 f3 => ?_⟩
            rw [cutDg (by omega)]
            have s4 := Same.new (o := .lst (es.drop (k + 1).toNat)) f3
            have h4 : upd H3 p3 (.lst (es.drop (k + 1).toNat)) p3 = some (.lst (es.drop (k + 1).toNat)) := upd_same
            generalize upd H3 p3 (.lst (es.drop (k + 1).toNat)) = H4 at s4 h4 ⊢
            refine ⟨p2, p3, _, _, rfl, rfl, s4 _ _ h3, h4, by rw [List.length_append, List.length_take, List.length_drop]; show _ + 2 + _ ≤ _; omega, fun p4 f4 => ?_⟩
            have s5 := Same.new (o := .lst (es.take (k - 1).toNat ++ [.ref tn, .ref ts] ++ es.drop (k + 1).toNat)) f4
            have s05 := s03.trans (s4.trans s5)
            refine kQ false hway (by omega) (by omega) p4 _ _ ((s03.trans s4).free f4) upd_same ?_ s05
            unfold mvM
            rw [er1, er2, show (k - 1).toNat + 2 = (k + 1).toNat by omega]
            exact (((hx.keep (Same.tups s05)).take _).append (xp.keep (Same.tups (s3.trans (s4.trans s5))))).append ((hx.keep (Same.tups s05)).drop _)
        · refine iteP (by rw [not_in_ways hw]; rfl) ?_
          exact kN (fun z => hw (z.2.2.elim fun fw e => by cases fw; exact .inr e; exact .inl e)) H0 z0
      · refine iteP (by rw [decide_eq_false c2]; rfl) (iteT (kN (fun z => c2 (by omega)) H (Same.refl H)))
    · have c1 : ¬ 1 ≤ k := of_decide_eq_false (by simpa using c1)
      exact ⟨_, rfl, iteT (iteT (kN (fun z => c1 z.1) H (Same.refl H)))⟩
end
end Sw
namespace Sw
open PySem L2
structure TDu5 (P : Program) (w : World) (K : PySem.W.Frag) (mg : Str → Option Value) (base : Heap) : Prop extends T1 mg K where
  f__law_is_size : FnAt P w K mg base "_law_is_size" 2 ["_law_thing"] spSz
  f__law_is_row : FnAt P w K mg base "_law_is_row" 3 ["_law_n", "_law_thing"] spIsRow
  f__law_is_move : FnAt P w K mg base "_law_is_move" 2 ["_law_thing"] spIsMv
  f__law_moved : FnAt P w K mg base "_law_moved" 2 ["_law_row", "_law_k", "_law_way"] spLm5
theorem neqNone {K : PySem.W.Frag} {H : Hp} {m : Addr} {ws : List V} {q : List (Int × Int)} {Q : VK} (h2 : H m = some (.lst ws)) (x2 : Exs H ws q) (hq : Q (.bl false) H) : rEqD K .non (.ref m) H Q := by
  refine ⟨fun _ => True, .none, .list (q.map fun e => PyData.tuple [.int e.1, .int e.2]), .non, .lst (SqL.of h2) True.intro x2.dat, rfl, ?_, ?_, ?_⟩
  · unfold PyData.canLay0; exact lay_row q
  · unfold PyData.depth; omega
  · have : PyData.eqv .none (.list (q.map fun e => PyData.tuple [.int e.1, .int e.2])) = false := by unfold PyData.eqv; rfl
    rw [this]; exact hq
section
variable {P : Program} {w : World} {K : PySem.W.Frag} {mg : Str → Option Value} {base : Heap}
theorem sc__law_due : FnScope ["_law_n", "_law_one", "_law_moves", "_law_other", "_law_here", "_law_k", "_law_way"] ["_law_n", "_law_one", "_law_moves", "_law_other"] (defScope (top 74)) := ⟨rfl, rfl, rfl, by decide +kernel, rfl, by decide +kernel, by decide +kernel⟩
theorem ok_due5 {f : Addr} {fd : FuncData} (F : Fun K "_law_due" "_law_due" (top 74) f fd) (T : TDu5 P w K mg base) : FnOk P w K mg base CX0 4 f fd ["_law_n", "_law_one", "_law_moves", "_law_other"] spWkH := by
  refine F.ok sc__law_due (fun vs H Q E h => ?_) (fun cdv A outer s H vs Q E hr h => ?_)
  · obtain ⟨v1, v2, v3, v4, P, n, a, m, b, rfl, _⟩ := h
    rfl
  · obtain ⟨v1, v2, v3, v4, P, n, a, m, b, rfl, dn, da, dm, db, fa, fm, fb, k⟩ := h
    refine ⟨_, (pss_cons (ps_if (PW.pt (pw_or (pt_not (pt_val (pe_callF T.f__law_is_size (hr.mono (by first | decide | omega)) rfl (pa_cons (pv 0) pa_nil)))) (pw_or (pt_not (pt_val (pe_callF T.f__law_is_row (hr.mono (by first | decide | omega)) rfl (pa_cons (pv 0) (pa_cons (pv 1) pa_nil))))) (pw_or (pt_not (pt_val (pe_callF T.f__law_is_row (hr.mono (by first | decide | omega)) rfl (pa_cons (pv 0) (pa_cons (pv 3) pa_nil))))) (pw_or1 (pt_not (pt_val (pe_callB (call_isiK (K := K) rfl) rfl T.b_isinstance (by decide +kernel) (pa_cons (pv 2) (pa_cons (pe_bltn (v := .ty "list") rfl T.b_list (by decide +kernel) rfl) pa_nil)))))))))) (pss_one (ps_ret pe_bl)) pss_nil)
      (pss_cons (ps_if (pt_not (pt_val (pe_callB (call_allK (K := K) rfl rfl) rfl T.b_all (by decide +kernel) (pa_cons (pe_comp (N := (["_law_move"] : List Str)) (ix := ([none] : List (Option Nat))) (comp_ok rfl rfl) rfl (pi_listK (K := K) rfl (pv 2)) (fun _ _ _ _ => (pg_name (i := 0) (show List.Nodup (["_law_move"] : List Str) from by decide +kernel) rfl (Or.inl rfl))) (fun _ _ _ _ => pif_nil) (fun _ _ _ _ => (pe_callF T.f__law_is_move (hr.mono (by first | decide | omega)) rfl (pa_cons (pv 0) pa_nil)))) pa_nil)))) (pss_one (ps_ret pe_bl)) pss_nil)
      (pss_cons (ps_set (i := 4) sc__law_due.nd rfl (Or.inl rfl) (pv 1))
      (pss_cons (ps_for PassesOwn.never rfl (pi_listK (K := K) rfl (pv 2)) (pg_tupK (K := K) (n := 2) rfl rfl (pgs_cons (pg_name (i := 5) sc__law_due.nd rfl (Or.inl rfl)) (pgs_cons (pg_name (i := 6) sc__law_due.nd rfl (Or.inl rfl)) pgs_nil))) (pss_one (ps_if (pt_cmpR op_notN (pv 4) pe_non (nomark _)) (pss_one (ps_set (i := 4) sc__law_due.nd rfl (Or.inl rfl) (pe_callF T.f__law_moved (hr.mono (by first | decide | omega)) rfl (@pa_cons _ _ _ _ _ (pv 4) (@pa_cons _ _ _ _ _ (pv 5) (@pa_cons _ _ _ _ _ (pv 6) pa_nil st_name) st_name) st_name)))) pss_nil)))
      (pss_one (ps_ret (pe_cmpR (op_eqD hr.units) (pv 4) (pv 3) (nomark _)))))))), ?_⟩
    have no : ∀ H', ¬ WalkH n a m b → Same H H' → Q (.bl false) H' := fun H' z s => k false H' ⟨fun q => (by cases q), fun q => absurd q z⟩ s
    refine ⟨_, rfl, v1, P, n, rfl, dn, _, rfl, ?_⟩
    cases e1 : btw 1 12 n with
    | false => exact iteT (no H (fun ⟨i, h, a1, a2, _⟩ => by subst h; rw [show btw 1 12 (.int i) = decide (1 ≤ i ∧ i ≤ 12) from rfl, decide_eq_true ⟨a1, a2⟩] at e1; cases e1) (Same.refl H))
    | true =>
      refine iteF ?_
      obtain ⟨i, rfl⟩ : ∃ i, n = .int i := by cases n <;> first | exact ⟨_, rfl⟩ | cases e1
      cases dn
      have ib : 1 ≤ i ∧ i ≤ 12 := of_decide_eq_true e1
      refine ⟨_, rfl, _, rfl, v2, P, a, i, rfl, da, fa.2, fun H1 s1 => ⟨_, rfl, ?_⟩⟩
      cases e2 : isrow i a with
      | false => exact iteT (no H1 (fun ⟨j, h, _, _, z, _⟩ => by injection h with h; subst h; rw [e2] at z; cases z) s1)
      | true =>
        refine iteF ?_
        refine ⟨_, rfl, _, rfl, v4, P, b, i, rfl, DT.same db s1, fb.2, fun H2 s2 => ⟨_, rfl, ?_⟩⟩
        have s12 := s1.trans s2
        cases e3 : isrow i b with
        | false => exact iteT (no H2 (fun ⟨j, h, _, _, _, z, _⟩ => by injection h with h; subst h; rw [e3] at z; cases z) s12)
        | true =>
          refine iteF ?_
          have dm2 := DT.same dm s12
          refine ⟨_, rfl, _, _, "list", _, rfl, dm2.ty, kit_list K dm2, _, rfl, ?_⟩
          cases dm2 with
          | @lst lm um ds hm pm rs =>
            refine iteF ?_
            have ul := rs.length
            have dl := fm.2 ds rfl
            refine ⟨_, rfl, lm, rfl, ⟨_, SqL.of hm⟩, compL (K := K) (a := lm) (xs := um) (k := 0) (fun i ys σ' H' => ys = ((ds.take i).map ismv).map V.bl ∧ (∃ v, σ' = [v]) ∧ Same H2 H') (by omega) ⟨rfl, ⟨none, rfl⟩, Same.refl _⟩ (fun i ys σ' H' _ q => SqL.of (q.2.2 _ _ hm)) (fun i ys σ' H' q => by rw [q.1, List.length_map, List.length_map, List.length_take]; omega) ?_ ?_⟩
            · rintro i ys σ' H' z R hz ⟨rfl, ⟨v, rfl⟩, s3⟩ done
              obtain ⟨d, hd, hdz⟩ := rs.get hz
              refine ⟨_, rfl, z, P, d, rfl, DT.same hdz s3, done _ _ _ ⟨?_, ⟨_, rfl⟩, s3⟩⟩
              rw [all_take hd, List.map_append]
              rfl
            rintro ys σ' H' q ⟨rfl, ⟨v, rfl⟩, s3⟩ fq
            rw [List.take_of_length_le (by omega)]
            have z3 : Same H' (upd H' q (.lst ((ds.map ismv).map V.bl))) := Same.new fq
            have hq : upd H' q (.lst ((ds.map ismv).map V.bl)) q = some (.lst ((ds.map ismv).map V.bl)) := upd_same
            generalize upd H' q (.lst ((ds.map ismv).map V.bl)) = H3 at z3 hq ⊢
            have s13 := s12.trans (s3.trans z3)
            refine ⟨q, ds.map ismv, rfl, SqL.of hq, _, rfl, ?_⟩
            have ea : (ds.map ismv).all id = iswalk (.list ds) := by show _ = ds.all ismv; rw [List.all_map]; rfl
            rw [ea]
            cases e4 : iswalk (.list ds) with
            | false => exact iteT (no H3 (fun ⟨j, h, _, _, _, _, z, _⟩ => by rw [e4] at z; cases z) s13)
            | true =>
              refine iteF ?_
              obtain ⟨la, ua, rfl, ha, xa, ga, al⟩ := isrow_at (DT.same da s13) e2
              obtain ⟨lb, ub, rfl, hb, xb, gb, bl⟩ := isrow_at (DT.same db s13) e3
              have hm3 := (s3.trans z3) _ _ hm
              have xm : Mvs H3 um (mvsOf (.list ds)) := mvs_of (DTs.same rs (s3.trans z3)) e4
              obtain ⟨ms, hms⟩ : ∃ ms, mvsOf (.list ds) = ms := ⟨_, rfl⟩
              rw [hms] at xm
              have ml := xm.length
              refine ⟨_, rfl, ?_⟩
              refine gNJ ?_
              dsimp only
              refine ⟨_, rfl, lm, rfl, ⟨_, SqL.of hm3⟩, for_list (K := K) (a := lm) (xs := um) (fun j σ H' => ∃ hv v5 v6, σ = [some (.int i), some (.ref la), some (.ref lm), some (.ref lb), some hv, v5, v6] ∧ Same H3 H' ∧ ((hv = .non ∧ walkM (rowOf a) ms = none) ∨ ∃ lr er rr, hv = .ref lr ∧ H' lr = some (.lst er) ∧ Exs H' er rr ∧ walkM (rowOf a) (ms.take j) = some rr)) ⟨.ref la, _, _, rfl, Same.refl _, .inr ⟨la, ua, rowOf a, rfl, ha, xa, rfl⟩⟩ (fun j σ H' _ q => by obtain ⟨_, _, _, _, q, _⟩ := q; exact SqL.of (q _ _ hm3)) ?_ ?_⟩
              · rintro j x σ H4 hj ⟨hv, v5, v6, rfl, s4, hh⟩
                obtain ⟨t, kk, way, rfl, ht, hmi⟩ := xm.get hj
                refine ⟨t, _, rfl, SqT.of (s4 _ _ ht), rfl, _, _, rfl, _, _, rfl, rfl, ?_⟩
                refine ⟨_, rfl, rfl, _, rfl, ?_⟩
                rcases hh with ⟨rfl, dead⟩ | ⟨lr, er, rr, rfl, hlr, xr, wk⟩
                · exact iteE (by rw [decide_eq_true rfl]; rfl) ⟨.non, _, _, rfl, s4, .inl ⟨rfl, dead⟩⟩
                · refine iteP (by rw [decide_eq_false (by intro z; cases z)]; rfl) ?_
                  have wl := walk_len wk
                  refine ⟨_, rfl, _, rfl, _, rfl, lr, er, rr, kk, i, way, rfl, hlr, xr, by omega, walk_good ga wk, fun fw hf k1 k2 l2 e2' H5 f2 h2 x2 s5 => ?_, fun hbd H5 s5 => ?_⟩
                  · refine ⟨.ref l2, _, _, rfl, s4.trans s5, .inr ⟨l2, e2', _, rfl, h2, x2, ?_⟩⟩
                    rw [walk_take hmi wk, hf, step_some k1 k2]
                  · exact ⟨.non, _, _, rfl, s4.trans s5, .inl ⟨rfl, walk_dead hmi wk (step_none hbd)⟩⟩
              · rintro σ H4 ⟨hv, v5, v6, rfl, s4, hh⟩
                rw [List.take_of_length_le (by omega)] at hh
                have hb4 := s4 _ _ hb
                have xb4 := xb.keep (Same.tups s4)
                rcases hh with ⟨rfl, dead⟩ | ⟨lr, er, rr, rfl, hlr, xr, wk⟩
                · refine ⟨_, rfl, _, rfl, neqNone hb4 xb4 ?_⟩
                  exact no H4 (fun ⟨_, _, _, _, _, _, _, z⟩ => by rw [hms, dead] at z; cases z) (s13.trans s4)
                · refine ⟨_, rfl, _, rfl, eqRW hlr xr hb4 xb4 (k _ H4 ?_ (s13.trans s4))⟩
                  rw [decide_eq_true_eq]
                  constructor
                  · intro z
                    subst z
                    exact ⟨i, rfl, ib.1, ib.2, e2, e3, e4, by rw [hms]; exact wk⟩
                  · rintro ⟨_, _, _, _, _, _, _, z⟩
                    rw [hms, wk] at z
                    exact Option.some.inj z
          | _ => exact iteT (no H2 (fun ⟨j, h, _, _, _, _, z, _⟩ => by cases z) s12)
end
end Sw
namespace Sw
open PySem L2
def MvG (ms : List (Int × Str)) : Prop := ∀ e ∈ ms, 1 ≤ e.1 ∧ e.1 ≤ 60 ∧ ∃ f, e.2 = wayS f
def mvD (e : Int × Str) : PyData := .tuple [.int e.1, .str e.2]
theorem f0_way (f : Bool) : Fit 10 (.str (wayS f)) ∧ (PyData.str (wayS f)).depth ≤ 0 := by
  cases f
  · exact f0_str (x := wayS false) (by decide +kernel)
  · exact f0_str (x := wayS true) (by decide +kernel)
theorem Mvs.dtP {H : Hp} {P : Addr → Prop} (hP : ∀ b zs, H b = some (.tup zs) → P b) : ∀ {vs : List V} {r : List (Int × Str)}, Mvs H vs r → DTs H P vs (r.map mvD)
  | _, _, .nil => .nil
  | _, _, .cons h x => .cons (.tup h (hP _ _ h) (.cons (.int _) (.cons (.str _) .nil))) (x.dtP hP)
def spSpm : Sp := fun vs H Q _ => ∃ (p : Addr) (wy : Int) (lm : Addr) (ws : List V) (ms : List (Int × Str)), vs = [.ref p, .int wy, .ref lm] ∧ Pool H p ∧ 0 ≤ wy ∧ wy < 7 ∧ H lm = some (.lst ws) ∧ lm ≠ p ∧ Mvs H ws ms ∧ MvG ms ∧ ms.length ≤ 400 ∧
  ∀ l us ds H', H' l = some (.lst us) → l ≠ p → (∀ b, H b ≠ none → l ≠ b) → DTs H' (· ≠ p) us ds → (∀ d ∈ ds, OkE d) → ds.length ≤ 401 → Pool H' p → SameX p H H' → Q (.ref l) H'
section
variable {P : Program} {w : World} {K : PySem.W.Frag} {mg : Str → Option Value} {base : Heap}
theorem sc__law_spoilt_moves : FnScope ["_law_pool_here", "_law_way", "_law_moves", "_law_at", "_law_other", "_law_text", "_law_odd", "_law_built", "_law_k", "_law_old"] ["_law_pool_here", "_law_way", "_law_moves"] (defScope (top 75)) := ⟨rfl, rfl, rfl, by decide +kernel, rfl, by decide +kernel, by decide +kernel⟩
theorem ok_spm {f : Addr} {fd : FuncData} (F : Fun K "_law_spoilt_moves" "_law_spoilt_moves" (top 75) f fd) (T : TTk P w K mg base) : FnOk P w K mg base CX0 2 f fd ["_law_pool_here", "_law_way", "_law_moves"] spSpm := by
  refine F.ok sc__law_spoilt_moves (fun vs H Q E h => ?_) (fun cdv A outer s H vs Q E hr h => ?_)
  · obtain ⟨p, wy, lm, ws, ms, rfl, _⟩ := h
    rfl
  · obtain ⟨p, wy, lm, ws, ms, rfl, pu, w0, w1, hm, nmp, xm, gm, ml, k⟩ := h
    refine ⟨_, (@pss_cons _ _ _ _ _ (ps_set (i := 3) sc__law_spoilt_moves.nd rfl (Or.inl rfl) (pe_callF T.f__law_take (hr.mono (by first | decide | omega)) rfl (pa_cons (pv 0) (pa_cons (pe_op op_add (pe_callB (call_lenK (K := K) rfl) rfl T.b_len (by decide +kernel) (pa_cons (pv 2) pa_nil)) pe_int) pa_nil))))
      (@pss_cons _ _ _ _ _ (ps_set (i := 4) sc__law_spoilt_moves.nd rfl (Or.inl rfl) (pe_callF T.f__law_take (hr.mono (by first | decide | omega)) rfl (pa_cons (pv 0) (pa_cons (pe_op op_add (pe_callB (call_lenK (K := K) rfl) rfl T.b_len (by decide +kernel) (pa_cons (pv 2) pa_nil)) pe_int) pa_nil))))
      (@pss_cons _ _ _ _ _ (@ps_set _ _ 5 _ _ _ _ sc__law_spoilt_moves.nd rfl (Or.inl rfl) (@pe_ix _ _ _ _ _ _ _ (ix_listK (K := K) rfl) (@pe_lst _ _ _ _ (@pa_consts _ _ [V.str (Str.ofString "forth"), V.str (Str.ofString "back"), V.str (Str.ofString "Forth"), V.str (Str.ofString ""), V.str (Str.ofString "b"), V.str (Str.ofString "forth ")] rfl)) (pe_callF T.f__law_take (hr.mono (by first | decide | omega)) rfl (pa_cons (pv 0) (pa_cons pe_int pa_nil))) (fun _ _ => rfl)) (by rfl) (by first | exact .inl rfl | exact .inr rfl))
      (@pss_cons _ _ _ _ _ (@ps_set _ _ 6 _ _ _ _ sc__law_spoilt_moves.nd rfl (Or.inl rfl) (@pe_ix _ _ _ _ _ _ _ (ix_listK (K := K) rfl) (@pe_lst _ _ _ _ (@pa_cons _ _ _ _ _ pe_int (@pa_cons _ _ _ _ _ (pe_un un_neg pe_int) (@pa_cons _ _ _ _ _ pe_int (@pa_cons _ _ _ _ _ pe_bl (@pa_cons _ _ _ _ _ pe_non (@pa_cons _ _ _ _ _ pe_str (@pa_cons _ _ _ _ _ (pe_tup (pa_cons pe_int pa_nil)) pa_nil st_tup) st_con) st_con) st_con) st_con) st_un) st_con)) (pe_callF T.f__law_take (hr.mono (by first | decide | omega)) rfl (pa_cons (pv 0) (pa_cons pe_int pa_nil))) (fun _ _ => rfl)) (by rfl) (by first | exact .inl rfl | exact .inr rfl))
      (@pss_cons _ _ _ _ _ (ps_if (PW.pt (pw_or (pt_cmpR op_eq (pv 3) (pe_callB (call_lenK (K := K) rfl) rfl T.b_len (by decide +kernel) (pa_cons (pv 2) pa_nil)) (nomark _)) (pw_or (pt_cmpR op_eq (pv 4) (pe_callB (call_lenK (K := K) rfl) rfl T.b_len (by decide +kernel) (pa_cons (pv 2) pa_nil)) (nomark _)) (pw_or1 (pt_cmpR op_eq (pv 1) pe_int (nomark _)))))) (pss_one (ps_ret (pe_op op_cat (pe_op op_cat (pe_slice (sl_listK (K := K) rfl) (pv 2) po_none (po_some (pv 3))) (pe_lst (pa_cons (pe_tup (pa_cons (pe_op op_add pe_int (pv 4)) (pa_cons (pv 5) pa_nil))) pa_nil))) (pe_slice (sl_listK (K := K) rfl) (pv 2) (po_some (pv 3)) po_none)))) pss_nil)
      (@pss_cons _ _ _ _ _ (ps_asg (pe_ix (ix_listK (K := K) rfl) (pv 2) (pv 3) (fun _ _ => rfl)) (pg_tupK (K := K) (n := 2) rfl rfl (pgs_cons (pg_name (i := 8) sc__law_spoilt_moves.nd rfl (Or.inl rfl)) (pgs_cons (pg_name (i := 9) sc__law_spoilt_moves.nd rfl (Or.inl rfl)) pgs_nil))))
      (@pss_cons _ _ _ _ _ (ps_if (pt_cmpR op_eq (pv 1) pe_int (nomark _)) (pss_one (ps_ret (pe_op op_cat (pe_op op_cat (pe_slice (sl_listK (K := K) rfl) (pv 2) po_none (po_some (pv 3))) (pe_lst (pa_cons (pe_tup (pa_cons (pe_op op_sub (pe_op op_add (pv 8) pe_int) (pe_op op_mul pe_int (pe_op op_mod (pv 4) pe_int))) (pa_cons (pv 9) pa_nil))) pa_nil))) (pe_slice (sl_listK (K := K) rfl) (pv 2) (po_some (pe_op op_add (pv 3) pe_int)) po_none)))) pss_nil)
      (@pss_cons _ _ _ _ _ (ps_if (pt_cmpR op_eq (pv 1) pe_int (nomark _)) (pss_one (ps_ret (pe_op op_cat (pe_op op_cat (pe_slice (sl_listK (K := K) rfl) (pv 2) po_none (po_some (pv 3))) (pe_lst (pa_cons (pe_tup (pa_cons (pv 8) (pa_cons (pv 5) pa_nil))) pa_nil))) (pe_slice (sl_listK (K := K) rfl) (pv 2) (po_some (pe_op op_add (pv 3) pe_int)) po_none)))) pss_nil)
      (@pss_cons _ _ _ _ _ (ps_if (pt_cmpR op_eq (pv 1) pe_int (nomark _)) (pss_one (ps_ret (pe_op op_cat (pe_op op_cat (pe_slice (sl_listK (K := K) rfl) (pv 2) po_none (po_some (pv 3))) (pe_lst (pa_cons (pe_tup (pa_cons (pv 6) (pa_cons (pv 9) pa_nil))) pa_nil))) (pe_slice (sl_listK (K := K) rfl) (pv 2) (po_some (pe_op op_add (pv 3) pe_int)) po_none)))) pss_nil)
      (@pss_cons _ _ _ _ _ (@ps_if _ _ _ _ _ _ _ _ (pt_cmpR op_eq (pv 1) pe_int (nomark _)) (@pss_one _ _ _ (@ps_ret _ _ _ _ (pe_op op_cat (pe_op op_cat (pe_slice (sl_listK (K := K) rfl) (pv 2) po_none (po_some (pv 3))) (pe_lst (pa_cons (@pe_ix _ _ _ _ _ _ _ (ix_listK (K := K) rfl) (@pe_lst _ _ _ _ (@pa_cons _ _ _ _ _ (pe_lst (pa_cons (pv 8) (pa_cons (pv 9) pa_nil))) (@pa_cons _ _ _ _ _ (pe_tup (@pa_cons _ _ _ _ _ (pv 8) (@pa_cons _ _ _ _ _ (pv 9) (@pa_cons _ _ _ _ _ (pv 9) pa_nil st_name) st_name) st_name)) (@pa_cons _ _ _ _ _ (pe_tup (pa_cons (pv 8) pa_nil)) (@pa_cons _ _ _ _ _ pe_non (@pa_cons _ _ _ _ _ (pe_tup (pa_cons (pv 8) (pa_cons pe_non pa_nil))) (@pa_cons _ _ _ _ _ (pv 9) pa_nil st_name) st_tup) st_con) st_tup) st_tup) st_list)) (pe_op op_mod (pv 4) pe_int) (fun _ _ => rfl)) pa_nil))) (pe_slice (sl_listK (K := K) rfl) (pv 2) (po_some (pe_op op_add (pv 3) pe_int)) po_none)))) pss_nil)
      (pss_cons (ps_if (pt_cmpR op_eq (pv 1) pe_int (nomark _)) (pss_one (ps_ret (pe_op op_cat (pe_slice (sl_listK (K := K) rfl) (pv 2) po_none (po_some (pv 3))) (pe_slice (sl_listK (K := K) rfl) (pv 2) (po_some (pe_op op_add (pv 3) pe_int)) po_none)))) pss_nil)
      (pss_cons (ps_set (i := 7) sc__law_spoilt_moves.nd rfl (Or.inl rfl) (pe_callTy (call_list_ofK (K := K) rfl) rfl T.b_list (by decide +kernel) (pa_cons (pv 2) pa_nil)))
      (pss_cons (ps_asg (pe_tup (pa_cons (pe_ix (ix_listK (K := K) rfl) (pv 7) (pv 4) (fun _ _ => rfl)) (pa_cons (pe_ix (ix_listK (K := K) rfl) (pv 7) (pv 3) (fun _ _ => rfl)) pa_nil))) (pg_tupK (K := K) (n := 2) rfl rfl (pgs_cons (pg_sub (pv 7) (pv 3) set_list) (pgs_cons (pg_sub (pv 7) (pv 4) set_list) pgs_nil))))
      (pss_one (ps_ret (pv 7)))))))))))))))), ?_⟩
    have big : (10000000 : Nat) ≤ sizeLine := by decide
    have two : 2 ≤ sizeLine := by decide
    have one : 1 ≤ sizeLine := by decide
    have wl := xm.length
    obtain ⟨_, hp0⟩ := pu.at
    have dm0 : DTs H (· ≠ p) ws (ms.map mvD) := xm.dtP fun b zs e => ne_of e hp0 (by intro z; cases z)
    have okm : ∀ d ∈ ms.map mvD, OkE d := fun d hd => by
      obtain ⟨e, he, rfl⟩ := List.mem_map.mp hd
      obtain ⟨g1, g2, fw, g3⟩ := gm e he
      unfold mvD
      rw [g3]
      exact oke_tup (all2 (f0_int (by omega)) (f0_way fw)) (by show 2 ≤ 3; decide)
    refine ⟨_, rfl, _, rfl, lm, _, rfl, .inl (SqL.of hm), _, _, rfl, rfl, p, _, rfl, pu, by omega, by omega, fun at' H1 a0 a1 pu1 s1 => ?_⟩
    have hm1 := s1 _ _ nmp hm
    refine ⟨_, rfl, _, rfl, lm, _, rfl, .inl (SqL.of hm1), _, _, rfl, rfl, p, _, rfl, pu1, by omega, by omega, fun ot H2 o0 o1 pu2 s2 => ?_⟩
    have hm2 := s2 _ _ nmp hm1
    have sx2 := s1.trans s2
    refine ⟨(by show 6 ≤ sizeLine; decide), fun l3 f3 => ?_⟩
    have z3 : Same H2 (upd H2 l3 (.lst [.str "forth", .str "back", .str "Forth", .str "", .str "b", .str "forth "])) := Same.new f3
    have h3 : upd H2 l3 (.lst [.str "forth", .str "back", .str "Forth", .str "", .str "b", .str "forth "]) l3 = some (.lst [.str "forth", .str "back", .str "Forth", .str "", .str "b", .str "forth "]) := upd_same
    have n3 : l3 ≠ p := (pu2.ne f3).symm
    generalize upd H2 l3 (.lst [.str "forth", .str "back", .str "Forth", .str "", .str "b", .str "forth "]) = H3 at z3 h3 ⊢
    refine ⟨_, rfl, p, 6, rfl, pu2.keep z3, by decide, by decide, fun r4 H4 r40 r41 pu4 s4 => ?_⟩
    obtain ⟨tx, htx, ftx⟩ : ∃ tx : Str, ([.str "forth", .str "back", .str "Forth", .str "", .str "b", .str "forth "] : List V)[r4.toNat]? = some (.str tx) ∧ (Fit 10 (.str tx) ∧ (PyData.str tx).depth ≤ 0) := by
      have : r4.toNat = 0 ∨ r4.toNat = 1 ∨ r4.toNat = 2 ∨ r4.toNat = 3 ∨ r4.toNat = 4 ∨ r4.toNat = 5 := by omega
      rcases this with e | e | e | e | e | e <;> rw [e] <;> exact ⟨_, rfl, f0_str (by decide +kernel)⟩
    refine ⟨l3, _, r4, _, rfl, rfl, SqL.of (s4 _ _ n3 h3), at_refI r40 htx, ?_⟩
    have sx4 := sx2.trans (z3.x.trans s4)
    have hP4 : ∀ x, H4 x = none → x ≠ p := fun x hx => (pu4.ne hx).symm
    refine ⟨_, rfl, ?_⟩
    have A4 : DTs H4 (· ≠ p) [.int 0, .int (-1), .int 60, .bl true, .non, .str "1"] [.int 0, .int (-1), .int 60, .bool true, .none, .str "1"] := .cons (.int _) (.cons (.int _) (.cons (.int _) (.cons (.bl _) (.cons .non (.cons (.str _) .nil)))))
    refine ⟨one, fun t5 f5 => ?_⟩
    obtain ⟨A5, S5⟩ := acc_tup hP4 (Same.refl _) A4 f5 (.cons (.int 1) .nil)
    generalize upd H4 t5 (.tup [.int 1]) = H5 at A5 S5 ⊢
    refine ⟨(by show 7 ≤ sizeLine; decide), fun l6 f6 => ?_⟩
    have z6 : Same H5 (upd H5 l6 (.lst [.int 0, .int (-1), .int 60, .bl true, .non, .str "1", .ref t5])) := Same.new f6
    have h6 : upd H5 l6 (.lst [.int 0, .int (-1), .int 60, .bl true, .non, .str "1", .ref t5]) l6 = some (.lst [.int 0, .int (-1), .int 60, .bl true, .non, .str "1", .ref t5]) := upd_same
    have n6 : l6 ≠ p := hP4 _ (S5.free f6)
    generalize upd H5 l6 (.lst [.int 0, .int (-1), .int 60, .bl true, .non, .str "1", .ref t5]) = H6 at z6 h6 ⊢
    have S6 := S5.trans z6
    refine ⟨_, rfl, p, 7, rfl, pu4.keep S6, by decide, by decide, fun r7 HB r70 r71 puB s7 => ?_⟩
    obtain ⟨ov, hov⟩ : ∃ v, ([.int 0, .int (-1), .int 60, .bl true, .non, .str "1", .ref t5] : List V)[r7.toNat]? = some v := ⟨_, List.getElem?_eq_getElem (by show r7.toNat < 7; omega)⟩
    refine ⟨l6, _, r7, ov, rfl, rfl, SqL.of (s7 _ _ n6 h6), at_refI r70 hov, ?_⟩
    obtain ⟨od, hod, dod⟩ := (DTs.x (DTs.same A5 z6) s7).get hov
    have fod : Fit 15 od ∧ od.depth ≤ 1 := by
      have : r7.toNat = 0 ∨ r7.toNat = 1 ∨ r7.toNat = 2 ∨ r7.toNat = 3 ∨ r7.toNat = 4 ∨ r7.toNat = 5 ∨ r7.toNat = 6 := by omega
      rcases this with e | e | e | e | e | e | e <;> rw [e] at hod <;> injection hod with hod <;> subst hod
      · exact f1_of (f0_int (by decide))
      · exact f1_of (f0_int (by decide))
      · exact f1_of (f0_int (by decide))
      · exact f1_of (f0_bool _)
      · exact f1_of f0_none
      · exact f1_of (f0_str (by decide +kernel))
      · exact f1_one (f0_int (by decide))
    have sxB : SameX p H HB := sx4.trans (S6.x.trans s7)
    have hmB := s7 _ _ nmp (S6 _ _ (s4 _ _ nmp (z3 _ _ hm2)))
    have dmB : DTs HB (· ≠ p) ws (ms.map mvD) := DTs.x dm0 sxB
    have hPB : ∀ x, HB x = none → x ≠ p := fun x hx => (puB.ne hx).symm
    have alive : ∀ b, H b ≠ none → HB b ≠ none := fun b hb z => by
      cases e : H b with
      | none => exact hb e
      | some ob =>
        by_cases c : b = p
        · subst c; obtain ⟨_, h⟩ := puB.at; rw [h] at z; cases z
        · rw [sxB _ _ c e] at z; cases z
    have nlive : ∀ {G : Hp} {q : Addr}, Same HB G → G q = none → ∀ b, H b ≠ none → q ≠ b := fun s e b hb z => alive b hb (s.free (by rw [← z]; exact e))
    obtain ⟨mds, hmds⟩ : ∃ mds, ms.map mvD = mds := ⟨_, rfl⟩
    rw [hmds] at okm dmB
    have dl : mds.length = ms.length := by rw [← hmds, List.length_map]
    clear A4 A5 S5 S6 z6 h6 z3 h3 hod hov f6 f5 f3 hm1 hm2 dm0 sx2 sx4 hP4
    refine gNJ ?_
    dsimp only
    refine ifBs ((decide (at' = (ws.length : Int)) || decide (ot = (ws.length : Int))) || decide (wy = 0)) (fun kk hk => ?_) (fun c => ?_) (fun c => ?_)
    · refine ⟨_, rfl, _, rfl, lm, _, rfl, .inl (SqL.of hmB), rfl, _, rfl, ?_⟩
      by_cases c1 : at' = (ws.length : Int)
      · rw [decide_eq_true c1] at hk
        exact iteP (decide_eq_true (by rw [c1])) hk
      · rw [decide_eq_false c1, Bool.false_or] at hk
        refine iteE (decide_eq_false fun z => c1 (V.int.inj z)) ?_
        refine ⟨_, rfl, _, rfl, lm, _, rfl, .inl (SqL.of hmB), rfl, _, rfl, ?_⟩
        by_cases c2 : ot = (ws.length : Int)
        · rw [decide_eq_true c2] at hk
          exact iteP (decide_eq_true (by rw [c2])) hk
        · rw [decide_eq_false c2, Bool.false_or] at hk
          refine iteE (decide_eq_false fun z => c2 (V.int.inj z)) ?_
          refine ⟨_, rfl, rfl, _, rfl, ?_⟩
          have e : decide (V.int wy = V.int 0) = decide (wy = 0) := by rw [Bool.eq_iff_iff, decide_eq_true_eq, decide_eq_true_eq]; exact ⟨fun z => V.int.inj z, fun z => by rw [z]⟩
          rw [e]
          exact hk
    · -- a move put in
      refine ⟨_, rfl, _, rfl, at', rfl, lm, ws, rfl, SqL.of hmB, fun q1 e1 => ?_⟩
      rw [cutT9 a0 (by omega)]
      have z1 : Same HB (upd HB q1 (.lst (ws.take at'.toNat))) := Same.new e1
      have h1 : upd HB q1 (.lst (ws.take at'.toNat)) q1 = some (.lst (ws.take at'.toNat)) := upd_same
      generalize upd HB q1 (.lst (ws.take at'.toNat)) = G1 at z1 h1 ⊢
      refine ⟨_, rfl, _, _, rfl, rfl, _, rfl, two, fun tq fq => ?_⟩
      have zX : Same G1 (upd G1 tq (.tup [.int (1 + ot), .str tx])) := Same.new fq
      have dX : DT (upd G1 tq (.tup [.int (1 + ot), .str tx])) (· ≠ p) (.ref tq) (.tuple [.int (1 + ot), .str tx]) := .tup upd_same (hPB _ (z1.free fq)) (.cons (.int _) (.cons (.str _) .nil))
      have oX : OkE (.tuple [.int (1 + ot), .str tx]) := oke_tup (all2 (f0_int (by omega)) ftx) (by show 2 ≤ 3; decide)
      obtain ⟨xv, exv⟩ : ∃ xv, xv = V.ref tq := ⟨_, rfl⟩
      obtain ⟨xd, exd⟩ : ∃ xd, xd = PyData.tuple [.int (1 + ot), .str tx] := ⟨_, rfl⟩
      rw [← exd] at oX dX
      rw [← exv] at dX
      generalize upd G1 tq (.tup [.int (1 + ot), .str tx]) = GX at zX dX ⊢
      rw [← exv]
      refine ⟨one, fun q2 e2 => ?_⟩
      have z2 : Same GX (upd GX q2 (.lst [xv])) := Same.new e2
      have h2 : upd GX q2 (.lst [xv]) q2 = some (.lst [xv]) := upd_same
      generalize upd GX q2 (.lst [xv]) = G2 at z2 h2 ⊢
      refine ⟨q1, q2, _, _, rfl, rfl, z2 _ _ (zX _ _ h1), h2, by rw [List.length_take]; show _ + 1 ≤ _; omega, fun q3 e3 => ?_⟩
      have z3 : Same G2 (upd G2 q3 (.lst (ws.take at'.toNat ++ [xv]))) := Same.new e3
      have h3 : upd G2 q3 (.lst (ws.take at'.toNat ++ [xv])) q3 = some (.lst (ws.take at'.toNat ++ [xv])) := upd_same
      generalize upd G2 q3 (.lst (ws.take at'.toNat ++ [xv])) = G3 at z3 h3 ⊢
      have y3 := z1.trans (zX.trans (z2.trans z3))
      refine ⟨_, rfl, _, rfl, at', rfl, ?_⟩
      try unfold tNoPart
      refine ⟨lm, ws, rfl, SqL.of (y3 _ _ hmB), fun q4 e4 => ?_⟩
      rw [cutDg (by omega)]
      have z4 : Same G3 (upd G3 q4 (.lst (ws.drop at'.toNat))) := Same.new e4
      have h4 : upd G3 q4 (.lst (ws.drop at'.toNat)) q4 = some (.lst (ws.drop at'.toNat)) := upd_same
      generalize upd G3 q4 (.lst (ws.drop at'.toNat)) = G4 at z4 h4 ⊢
      refine ⟨q3, q4, _, _, rfl, rfl, z4 _ _ h3, h4, by rw [List.length_append, List.length_take, List.length_drop]; show _ + 1 + _ ≤ _; omega, fun q5 e5 => ?_⟩
      have z5 : Same G4 (upd G4 q5 (.lst (ws.take at'.toNat ++ [xv] ++ ws.drop at'.toNat))) := Same.new e5
      have y5 := y3.trans (z4.trans z5)
      have n5 : q5 ≠ p := hPB _ ((y3.trans z4).free e5)
      refine k q5 _ (mds.take at'.toNat ++ [xd] ++ mds.drop at'.toNat) _ upd_same n5 (nlive (y3.trans z4) e5) ((((DTs.same dmB y5).take _).append (.cons (DT.same dX (z2.trans (z3.trans (z4.trans z5)))) .nil)).append ((DTs.same dmB y5).drop _)) (fun d hd => ?_) ?_ (puB.keep y5) (sxB.trans y5.x)
      · rcases List.mem_append.mp hd with hd | hd
        · rcases List.mem_append.mp hd with hd | hd
          · exact okm d (List.mem_of_mem_take hd)
          · rw [List.mem_singleton.mp hd]; exact oX
        · exact okm d (List.mem_of_mem_drop hd)
      · rw [List.length_append, List.length_append, List.length_take, List.length_drop]; show _ + 1 + _ ≤ 401; omega
    have c' : at' ≠ (ws.length : Int) ∧ ot ≠ (ws.length : Int) ∧ wy ≠ 0 := by
      refine ⟨fun z => ?_, fun z => ?_, fun z => ?_⟩
      · rw [decide_eq_true z] at c; cases c
      · rw [decide_eq_true z, Bool.or_true] at c; cases c
      · rw [decide_eq_true z, Bool.or_true] at c; cases c
    obtain ⟨c1, c2, c3⟩ := c'
    obtain ⟨u, hu⟩ : ∃ u, ws[at'.toNat]? = some u := ⟨_, List.getElem?_eq_getElem (by omega)⟩
    obtain ⟨te, kx, old, rfl, hte, hme⟩ := xm.get hu
    have hteB : HB te = some (.tup [.int kx, .str old]) := sxB _ _ (ne_of hte hp0 (by intro z; cases z)) hte
    obtain ⟨k1, k60, fw, hold⟩ := gm _ (List.mem_of_getElem? hme)
    simp only at k1 k60 hold
    have fold : Fit 10 (.str old) ∧ (PyData.str old).depth ≤ 0 := by rw [hold]; exact f0_way fw
    have fkx : Fit 10 (.int kx) ∧ (PyData.int kx).depth ≤ 0 := f0_int (by omega)
    refine ⟨_, rfl, _, rfl, lm, _, _, _, rfl, rfl, SqL.of hmB, at_refI a0 hu, ?_⟩
    refine ⟨te, _, rfl, SqT.of hteB, rfl, _, _, rfl, _, _, rfl, rfl, ?_⟩
    have m20 := Int.emod_nonneg ot (show (2 : Int) ≠ 0 by decide)
    have m21 := Int.emod_lt_of_pos ot (show (0 : Int) < 2 by decide)
    refine ⟨_, rfl, rfl, _, rfl, ite2 (fun c => ?_) (fun c => ?_)⟩
    · -- 1
      refine ⟨_, rfl, _, rfl, at', rfl, lm, ws, rfl, SqL.of hmB, fun q1 e1 => ?_⟩
      rw [cutT9 a0 (by omega)]
      have z1 : Same HB (upd HB q1 (.lst (ws.take at'.toNat))) := Same.new e1
      have h1 : upd HB q1 (.lst (ws.take at'.toNat)) q1 = some (.lst (ws.take at'.toNat)) := upd_same
      generalize upd HB q1 (.lst (ws.take at'.toNat)) = G1 at z1 h1 ⊢
      refine ⟨_, rfl, _, _, rfl, rfl, _, rfl, _, _, rfl, rfl, (show (0 : Int) < 2 by decide), _, _, rfl, rfl, .inl ⟨by decide, by decide⟩, _, _, rfl, rfl, _, rfl, two, fun tq fq => ?_⟩
      have zX : Same G1 (upd G1 tq (.tup [.int (kx + 1 - 2 * (ot % 2)), .str old])) := Same.new fq
      have dX : DT (upd G1 tq (.tup [.int (kx + 1 - 2 * (ot % 2)), .str old])) (· ≠ p) (.ref tq) (.tuple [.int (kx + 1 - 2 * (ot % 2)), .str old]) := .tup upd_same (hPB _ (z1.free fq)) (.cons (.int _) (.cons (.str _) .nil))
      have oX : OkE (.tuple [.int (kx + 1 - 2 * (ot % 2)), .str old]) := oke_tup (all2 (f0_int (by omega)) fold) (by show 2 ≤ 3; decide)
      obtain ⟨xv, exv⟩ : ∃ xv, xv = V.ref tq := ⟨_, rfl⟩
      obtain ⟨xd, exd⟩ : ∃ xd, xd = PyData.tuple [.int (kx + 1 - 2 * (ot % 2)), .str old] := ⟨_, rfl⟩
      rw [← exd] at oX dX
      rw [← exv] at dX
      generalize upd G1 tq (.tup [.int (kx + 1 - 2 * (ot % 2)), .str old]) = GX at zX dX ⊢
      rw [← exv]
      refine ⟨one, fun q2 e2 => ?_⟩
      have z2 : Same GX (upd GX q2 (.lst [xv])) := Same.new e2
      have h2 : upd GX q2 (.lst [xv]) q2 = some (.lst [xv]) := upd_same
      generalize upd GX q2 (.lst [xv]) = G2 at z2 h2 ⊢
      refine ⟨q1, q2, _, _, rfl, rfl, z2 _ _ (zX _ _ h1), h2, by rw [List.length_take]; show _ + 1 ≤ _; omega, fun q3 e3 => ?_⟩
      have z3 : Same G2 (upd G2 q3 (.lst (ws.take at'.toNat ++ [xv]))) := Same.new e3
      have h3 : upd G2 q3 (.lst (ws.take at'.toNat ++ [xv])) q3 = some (.lst (ws.take at'.toNat ++ [xv])) := upd_same
      generalize upd G2 q3 (.lst (ws.take at'.toNat ++ [xv])) = G3 at z3 h3 ⊢
      have y3 := z1.trans (zX.trans (z2.trans z3))
      refine ⟨_, rfl, _, rfl, _, _, rfl, rfl, _, rfl, ?_⟩
      try unfold tNoPart
      refine ⟨lm, ws, rfl, SqL.of (y3 _ _ hmB), fun q4 e4 => ?_⟩
      rw [cutDg (by omega)]
      have z4 : Same G3 (upd G3 q4 (.lst (ws.drop (at' + 1).toNat))) := Same.new e4
      have h4 : upd G3 q4 (.lst (ws.drop (at' + 1).toNat)) q4 = some (.lst (ws.drop (at' + 1).toNat)) := upd_same
      generalize upd G3 q4 (.lst (ws.drop (at' + 1).toNat)) = G4 at z4 h4 ⊢
      refine ⟨q3, q4, _, _, rfl, rfl, z4 _ _ h3, h4, by rw [List.length_append, List.length_take, List.length_drop]; show _ + 1 + _ ≤ _; omega, fun q5 e5 => ?_⟩
      have z5 : Same G4 (upd G4 q5 (.lst (ws.take at'.toNat ++ [xv] ++ ws.drop (at' + 1).toNat))) := Same.new e5
      have y5 := y3.trans (z4.trans z5)
      have n5 : q5 ≠ p := hPB _ ((y3.trans z4).free e5)
      refine k q5 _ (mds.take at'.toNat ++ [xd] ++ mds.drop (at' + 1).toNat) _ upd_same n5 (nlive (y3.trans z4) e5) ((((DTs.same dmB y5).take _).append (.cons (DT.same dX (z2.trans (z3.trans (z4.trans z5)))) .nil)).append ((DTs.same dmB y5).drop _)) (fun d hd => ?_) ?_ (puB.keep y5) (sxB.trans y5.x)
      · rcases List.mem_append.mp hd with hd | hd
        · rcases List.mem_append.mp hd with hd | hd
          · exact okm d (List.mem_of_mem_take hd)
          · rw [List.mem_singleton.mp hd]; exact oX
        · exact okm d (List.mem_of_mem_drop hd)
      · rw [List.length_append, List.length_append, List.length_take, List.length_drop]; show _ + 1 + _ ≤ 401; omega
    refine ⟨_, rfl, rfl, _, rfl, ite2 (fun c => ?_) (fun c => ?_)⟩
    · -- 2
      refine ⟨_, rfl, _, rfl, at', rfl, lm, ws, rfl, SqL.of hmB, fun q1 e1 => ?_⟩
      rw [cutT9 a0 (by omega)]
      have z1 : Same HB (upd HB q1 (.lst (ws.take at'.toNat))) := Same.new e1
      have h1 : upd HB q1 (.lst (ws.take at'.toNat)) q1 = some (.lst (ws.take at'.toNat)) := upd_same
      generalize upd HB q1 (.lst (ws.take at'.toNat)) = G1 at z1 h1 ⊢
      refine ⟨_, rfl, _, rfl, two, fun tq fq => ?_⟩
      have zX : Same G1 (upd G1 tq (.tup [.int kx, .str tx])) := Same.new fq
      have dX : DT (upd G1 tq (.tup [.int kx, .str tx])) (· ≠ p) (.ref tq) (.tuple [.int kx, .str tx]) := .tup upd_same (hPB _ (z1.free fq)) (.cons (.int _) (.cons (.str _) .nil))
      have oX : OkE (.tuple [.int kx, .str tx]) := oke_tup (all2 fkx ftx) (by show 2 ≤ 3; decide)
      obtain ⟨xv, exv⟩ : ∃ xv, xv = V.ref tq := ⟨_, rfl⟩
      obtain ⟨xd, exd⟩ : ∃ xd, xd = PyData.tuple [.int kx, .str tx] := ⟨_, rfl⟩
      rw [← exd] at oX dX
      rw [← exv] at dX
      generalize upd G1 tq (.tup [.int kx, .str tx]) = GX at zX dX ⊢
      rw [← exv]
      refine ⟨one, fun q2 e2 => ?_⟩
      have z2 : Same GX (upd GX q2 (.lst [xv])) := Same.new e2
      have h2 : upd GX q2 (.lst [xv]) q2 = some (.lst [xv]) := upd_same
      generalize upd GX q2 (.lst [xv]) = G2 at z2 h2 ⊢
      refine ⟨q1, q2, _, _, rfl, rfl, z2 _ _ (zX _ _ h1), h2, by rw [List.length_take]; show _ + 1 ≤ _; omega, fun q3 e3 => ?_⟩
      have z3 : Same G2 (upd G2 q3 (.lst (ws.take at'.toNat ++ [xv]))) := Same.new e3
      have h3 : upd G2 q3 (.lst (ws.take at'.toNat ++ [xv])) q3 = some (.lst (ws.take at'.toNat ++ [xv])) := upd_same
      generalize upd G2 q3 (.lst (ws.take at'.toNat ++ [xv])) = G3 at z3 h3 ⊢
      have y3 := z1.trans (zX.trans (z2.trans z3))
      refine ⟨_, rfl, _, rfl, _, _, rfl, rfl, _, rfl, ?_⟩
      try unfold tNoPart
      refine ⟨lm, ws, rfl, SqL.of (y3 _ _ hmB), fun q4 e4 => ?_⟩
      rw [cutDg (by omega)]
      have z4 : Same G3 (upd G3 q4 (.lst (ws.drop (at' + 1).toNat))) := Same.new e4
      have h4 : upd G3 q4 (.lst (ws.drop (at' + 1).toNat)) q4 = some (.lst (ws.drop (at' + 1).toNat)) := upd_same
      generalize upd G3 q4 (.lst (ws.drop (at' + 1).toNat)) = G4 at z4 h4 ⊢
      refine ⟨q3, q4, _, _, rfl, rfl, z4 _ _ h3, h4, by rw [List.length_append, List.length_take, List.length_drop]; show _ + 1 + _ ≤ _; omega, fun q5 e5 => ?_⟩
      have z5 : Same G4 (upd G4 q5 (.lst (ws.take at'.toNat ++ [xv] ++ ws.drop (at' + 1).toNat))) := Same.new e5
      have y5 := y3.trans (z4.trans z5)
      have n5 : q5 ≠ p := hPB _ ((y3.trans z4).free e5)
      refine k q5 _ (mds.take at'.toNat ++ [xd] ++ mds.drop (at' + 1).toNat) _ upd_same n5 (nlive (y3.trans z4) e5) ((((DTs.same dmB y5).take _).append (.cons (DT.same dX (z2.trans (z3.trans (z4.trans z5)))) .nil)).append ((DTs.same dmB y5).drop _)) (fun d hd => ?_) ?_ (puB.keep y5) (sxB.trans y5.x)
      · rcases List.mem_append.mp hd with hd | hd
        · rcases List.mem_append.mp hd with hd | hd
          · exact okm d (List.mem_of_mem_take hd)
          · rw [List.mem_singleton.mp hd]; exact oX
        · exact okm d (List.mem_of_mem_drop hd)
      · rw [List.length_append, List.length_append, List.length_take, List.length_drop]; show _ + 1 + _ ≤ 401; omega
    refine ⟨_, rfl, rfl, _, rfl, ite2 (fun c => ?_) (fun c => ?_)⟩
    · -- 3
      refine ⟨_, rfl, _, rfl, at', rfl, lm, ws, rfl, SqL.of hmB, fun q1 e1 => ?_⟩
      rw [cutT9 a0 (by omega)]
      have z1 : Same HB (upd HB q1 (.lst (ws.take at'.toNat))) := Same.new e1
      have h1 : upd HB q1 (.lst (ws.take at'.toNat)) q1 = some (.lst (ws.take at'.toNat)) := upd_same
      generalize upd HB q1 (.lst (ws.take at'.toNat)) = G1 at z1 h1 ⊢
      refine ⟨_, rfl, _, rfl, two, fun tq fq => ?_⟩
      have zX : Same G1 (upd G1 tq (.tup [ov, .str old])) := Same.new fq
      have dX : DT (upd G1 tq (.tup [ov, .str old])) (· ≠ p) (.ref tq) (.tuple [od, .str old]) := .tup upd_same (hPB _ (z1.free fq)) (.cons (DT.same dod (z1.trans zX)) (.cons (.str _) .nil))
      have oX : OkE (.tuple [od, .str old]) := oke_tup2 (all2 fod (f1_of fold)) (by show 2 ≤ 2; decide)
      obtain ⟨xv, exv⟩ : ∃ xv, xv = V.ref tq := ⟨_, rfl⟩
      obtain ⟨xd, exd⟩ : ∃ xd, xd = PyData.tuple [od, .str old] := ⟨_, rfl⟩
      rw [← exd] at oX dX
      rw [← exv] at dX
      generalize upd G1 tq (.tup [ov, .str old]) = GX at zX dX ⊢
      rw [← exv]
      refine ⟨one, fun q2 e2 => ?_⟩
      have z2 : Same GX (upd GX q2 (.lst [xv])) := Same.new e2
      have h2 : upd GX q2 (.lst [xv]) q2 = some (.lst [xv]) := upd_same
      generalize upd GX q2 (.lst [xv]) = G2 at z2 h2 ⊢
      refine ⟨q1, q2, _, _, rfl, rfl, z2 _ _ (zX _ _ h1), h2, by rw [List.length_take]; show _ + 1 ≤ _; omega, fun q3 e3 => ?_⟩
      have z3 : Same G2 (upd G2 q3 (.lst (ws.take at'.toNat ++ [xv]))) := Same.new e3
      have h3 : upd G2 q3 (.lst (ws.take at'.toNat ++ [xv])) q3 = some (.lst (ws.take at'.toNat ++ [xv])) := upd_same
      generalize upd G2 q3 (.lst (ws.take at'.toNat ++ [xv])) = G3 at z3 h3 ⊢
      have y3 := z1.trans (zX.trans (z2.trans z3))
      refine ⟨_, rfl, _, rfl, _, _, rfl, rfl, _, rfl, ?_⟩
      try unfold tNoPart
      refine ⟨lm, ws, rfl, SqL.of (y3 _ _ hmB), fun q4 e4 => ?_⟩
      rw [cutDg (by omega)]
      have z4 : Same G3 (upd G3 q4 (.lst (ws.drop (at' + 1).toNat))) := Same.new e4
      have h4 : upd G3 q4 (.lst (ws.drop (at' + 1).toNat)) q4 = some (.lst (ws.drop (at' + 1).toNat)) := upd_same
      generalize upd G3 q4 (.lst (ws.drop (at' + 1).toNat)) = G4 at z4 h4 ⊢
      refine ⟨q3, q4, _, _, rfl, rfl, z4 _ _ h3, h4, by rw [List.length_append, List.length_take, List.length_drop]; show _ + 1 + _ ≤ _; omega, fun q5 e5 => ?_⟩
      have z5 : Same G4 (upd G4 q5 (.lst (ws.take at'.toNat ++ [xv] ++ ws.drop (at' + 1).toNat))) := Same.new e5
      have y5 := y3.trans (z4.trans z5)
      have n5 : q5 ≠ p := hPB _ ((y3.trans z4).free e5)
      refine k q5 _ (mds.take at'.toNat ++ [xd] ++ mds.drop (at' + 1).toNat) _ upd_same n5 (nlive (y3.trans z4) e5) ((((DTs.same dmB y5).take _).append (.cons (DT.same dX (z2.trans (z3.trans (z4.trans z5)))) .nil)).append ((DTs.same dmB y5).drop _)) (fun d hd => ?_) ?_ (puB.keep y5) (sxB.trans y5.x)
      · rcases List.mem_append.mp hd with hd | hd
        · rcases List.mem_append.mp hd with hd | hd
          · exact okm d (List.mem_of_mem_take hd)
          · rw [List.mem_singleton.mp hd]; exact oX
        · exact okm d (List.mem_of_mem_drop hd)
      · rw [List.length_append, List.length_append, List.length_take, List.length_drop]; show _ + 1 + _ ≤ 401; omega
    refine ⟨_, rfl, rfl, _, rfl, ite2 (fun c => ?_) (fun c => ?_)⟩
    · -- 4
      refine ⟨_, rfl, _, rfl, at', rfl, lm, ws, rfl, SqL.of hmB, fun q1 e1 => ?_⟩
      rw [cutT9 a0 (by omega)]
      have z1 : Same HB (upd HB q1 (.lst (ws.take at'.toNat))) := Same.new e1
      have h1 : upd HB q1 (.lst (ws.take at'.toNat)) q1 = some (.lst (ws.take at'.toNat)) := upd_same
      generalize upd HB q1 (.lst (ws.take at'.toNat)) = G1 at z1 h1 ⊢
      have hP1 : ∀ x, G1 x = none → x ≠ p := fun x hx => hPB x (z1.free hx)
      refine ⟨_, rfl, _, rfl, two, fun t1 f1 => ?_⟩
      obtain ⟨A1, S1⟩ := acc_lst hP1 (Same.refl _) .nil f1 (.cons (.int kx) (.cons (.str old) .nil))
      generalize upd G1 t1 (.lst [.int kx, .str old]) = J1 at A1 S1 ⊢
      refine ⟨_, rfl, _, rfl, _, rfl, (by show 3 ≤ sizeLine; decide), fun t2 f2 => ?_⟩
      obtain ⟨A2, S2⟩ := acc_tup hP1 S1 A1 f2 (.cons (.int kx) (.cons (.str old) (.cons (.str old) .nil)))
      generalize upd J1 t2 (.tup [.int kx, .str old, .str old]) = J2 at A2 S2 ⊢
      refine ⟨_, rfl, one, fun t3 f3 => ?_⟩
      obtain ⟨A3, S3⟩ := acc_tup hP1 S2 A2 f3 (.cons (.int kx) .nil)
      generalize upd J2 t3 (.tup [.int kx]) = J3 at A3 S3 ⊢
      have A4 := A3.snoc DT.non
      refine ⟨_, rfl, two, fun t4 f4 => ?_⟩
      obtain ⟨A5, S5⟩ := acc_tup hP1 S3 A4 f4 (.cons (.int kx) (.cons .non .nil))
      generalize upd J3 t4 (.tup [.int kx, .non]) = J4 at A5 S5 ⊢
      have A6 := A5.snoc (.str old)
      refine ⟨_, rfl, (by show 6 ≤ sizeLine; decide), fun l7 f7 => ?_⟩
      have z7 : Same J4 (upd J4 l7 (.lst [.ref t1, .ref t2, .ref t3, .non, .ref t4, .str old])) := Same.new f7
      have h7 : upd J4 l7 (.lst [.ref t1, .ref t2, .ref t3, .non, .ref t4, .str old]) l7 = some (.lst [.ref t1, .ref t2, .ref t3, .non, .ref t4, .str old]) := upd_same
      have A7 := DTs.same A6 z7
      have zX := S5.trans z7
      generalize upd J4 l7 (.lst [.ref t1, .ref t2, .ref t3, .non, .ref t4, .str old]) = GX at zX h7 A7 ⊢
      have m60 := Int.emod_nonneg ot (show (6 : Int) ≠ 0 by decide)
      have m61 := Int.emod_lt_of_pos ot (show (0 : Int) < 6 by decide)
      obtain ⟨xv, hxv⟩ : ∃ v, ([.ref t1, .ref t2, .ref t3, .non, .ref t4, .str old] : List V)[(ot % 6).toNat]? = some v := ⟨_, List.getElem?_eq_getElem (by show (ot % 6).toNat < 6; omega)⟩
      refine ⟨_, rfl, _, _, rfl, rfl, (show (0 : Int) < 6 by decide), l7, _, _, xv, rfl, rfl, SqL.of h7, at_refI m60 hxv, ?_⟩
      obtain ⟨xd, hxd, dX⟩ := A7.get hxv
      have oX : OkE xd := by
        have : (ot % 6).toNat = 0 ∨ (ot % 6).toNat = 1 ∨ (ot % 6).toNat = 2 ∨ (ot % 6).toNat = 3 ∨ (ot % 6).toNat = 4 ∨ (ot % 6).toNat = 5 := by omega
        rcases this with e | e | e | e | e | e <;> rw [e] at hxd <;> injection hxd with hxd <;> subst hxd
        · exact oke_lst (all2 fkx fold) (by show 2 ≤ 3; decide)
        · exact oke_tup (all3 fkx fold fold) (by show 3 ≤ 3; decide)
        · exact oke_tup (all1 fkx) (by show 1 ≤ 3; decide)
        · exact oke_of f0_none
        · exact oke_tup (all2 fkx f0_none) (by show 2 ≤ 3; decide)
        · exact oke_of fold
      refine ⟨one, fun q2 e2 => ?_⟩
      have z2 : Same GX (upd GX q2 (.lst [xv])) := Same.new e2
      have h2 : upd GX q2 (.lst [xv]) q2 = some (.lst [xv]) := upd_same
      generalize upd GX q2 (.lst [xv]) = G2 at z2 h2 ⊢
      refine ⟨q1, q2, _, _, rfl, rfl, z2 _ _ (zX _ _ h1), h2, by rw [List.length_take]; show _ + 1 ≤ _; omega, fun q3 e3 => ?_⟩
      have z3 : Same G2 (upd G2 q3 (.lst (ws.take at'.toNat ++ [xv]))) := Same.new e3
      have h3 : upd G2 q3 (.lst (ws.take at'.toNat ++ [xv])) q3 = some (.lst (ws.take at'.toNat ++ [xv])) := upd_same
      generalize upd G2 q3 (.lst (ws.take at'.toNat ++ [xv])) = G3 at z3 h3 ⊢
      have y3 := z1.trans (zX.trans (z2.trans z3))
      refine ⟨_, rfl, _, rfl, _, _, rfl, rfl, _, rfl, ?_⟩
      try unfold tNoPart
      refine ⟨lm, ws, rfl, SqL.of (y3 _ _ hmB), fun q4 e4 => ?_⟩
      rw [cutDg (by omega)]
      have z4 : Same G3 (upd G3 q4 (.lst (ws.drop (at' + 1).toNat))) := Same.new e4
      have h4 : upd G3 q4 (.lst (ws.drop (at' + 1).toNat)) q4 = some (.lst (ws.drop (at' + 1).toNat)) := upd_same
      generalize upd G3 q4 (.lst (ws.drop (at' + 1).toNat)) = G4 at z4 h4 ⊢
      refine ⟨q3, q4, _, _, rfl, rfl, z4 _ _ h3, h4, by rw [List.length_append, List.length_take, List.length_drop]; show _ + 1 + _ ≤ _; omega, fun q5 e5 => ?_⟩
      have z5 : Same G4 (upd G4 q5 (.lst (ws.take at'.toNat ++ [xv] ++ ws.drop (at' + 1).toNat))) := Same.new e5
      have y5 := y3.trans (z4.trans z5)
      have n5 : q5 ≠ p := hPB _ ((y3.trans z4).free e5)
      refine k q5 _ (mds.take at'.toNat ++ [xd] ++ mds.drop (at' + 1).toNat) _ upd_same n5 (nlive (y3.trans z4) e5) ((((DTs.same dmB y5).take _).append (.cons (DT.same dX (z2.trans (z3.trans (z4.trans z5)))) .nil)).append ((DTs.same dmB y5).drop _)) (fun d hd => ?_) ?_ (puB.keep y5) (sxB.trans y5.x)
      · rcases List.mem_append.mp hd with hd | hd
        · rcases List.mem_append.mp hd with hd | hd
          · exact okm d (List.mem_of_mem_take hd)
          · rw [List.mem_singleton.mp hd]; exact oX
        · exact okm d (List.mem_of_mem_drop hd)
      · rw [List.length_append, List.length_append, List.length_take, List.length_drop]; show _ + 1 + _ ≤ 401; omega
    refine ⟨_, rfl, rfl, _, rfl, ite2 (fun c => ?_) (fun c => ?_)⟩
    · -- 5
      refine ⟨_, rfl, _, rfl, at', rfl, lm, ws, rfl, SqL.of hmB, fun q1 e1 => ?_⟩
      rw [cutT9 a0 (by omega)]
      have z1 : Same HB (upd HB q1 (.lst (ws.take at'.toNat))) := Same.new e1
      have h1 : upd HB q1 (.lst (ws.take at'.toNat)) q1 = some (.lst (ws.take at'.toNat)) := upd_same
      generalize upd HB q1 (.lst (ws.take at'.toNat)) = G1 at z1 h1 ⊢
      refine ⟨_, rfl, _, rfl, _, _, rfl, rfl, _, rfl, ?_⟩
      try unfold tNoPart
      refine ⟨lm, ws, rfl, SqL.of (z1 _ _ hmB), fun q4 e4 => ?_⟩
      rw [cutDg (by omega)]
      have z4 : Same G1 (upd G1 q4 (.lst (ws.drop (at' + 1).toNat))) := Same.new e4
      have h4 : upd G1 q4 (.lst (ws.drop (at' + 1).toNat)) q4 = some (.lst (ws.drop (at' + 1).toNat)) := upd_same
      generalize upd G1 q4 (.lst (ws.drop (at' + 1).toNat)) = G4 at z4 h4 ⊢
      refine ⟨q1, q4, _, _, rfl, rfl, z4 _ _ h1, h4, by rw [List.length_take, List.length_drop]; omega, fun q5 e5 => ?_⟩
      have z5 : Same G4 (upd G4 q5 (.lst (ws.take at'.toNat ++ ws.drop (at' + 1).toNat))) := Same.new e5
      have y5 := z1.trans (z4.trans z5)
      have n5 : q5 ≠ p := hPB _ ((z1.trans z4).free e5)
      refine k q5 _ (mds.take at'.toNat ++ mds.drop (at' + 1).toNat) _ upd_same n5 (nlive (z1.trans z4) e5) (((DTs.same dmB y5).take _).append ((DTs.same dmB y5).drop _)) (fun d hd => ?_) ?_ (puB.keep y5) (sxB.trans y5.x)
      · rcases List.mem_append.mp hd with hd | hd
        · exact okm d (List.mem_of_mem_take hd)
        · exact okm d (List.mem_of_mem_drop hd)
      · rw [List.length_append, List.length_take, List.length_drop]; omega
    refine ⟨_, rfl, lm, _, rfl, .inl (SqL.of hmB), fun lb flb => ?_⟩
    have z1 : Same HB (upd HB lb (.lst ws)) := Same.new flb
    have h1 : upd HB lb (.lst ws) lb = some (.lst ws) := upd_same
    have nlb := hPB _ flb
    have flb0 : H lb = none := by
      cases e : H lb with
      | none => rfl
      | some ob => rw [sxB _ _ nlb e] at flb; cases flb
    generalize upd HB lb (.lst ws) = G1 at z1 h1 ⊢
    obtain ⟨v, hv⟩ : ∃ u, ws[ot.toNat]? = some u := ⟨_, List.getElem?_eq_getElem (by omega)⟩
    refine ⟨_, rfl, _, rfl, lb, _, _, _, rfl, rfl, SqL.of h1, at_refI o0 hv, _, rfl, _, rfl, lb, _, _, _, rfl, rfl, SqL.of h1, at_refI a0 hu, two, fun tt ftt => ?_⟩
    have z2 : Same G1 (upd G1 tt (.tup [v, .ref te])) := Same.new ftt
    have htt : upd G1 tt (.tup [v, .ref te]) tt = some (.tup [v, .ref te]) := upd_same
    generalize upd G1 tt (.tup [v, .ref te]) = G2 at z2 htt ⊢
    refine ⟨tt, _, rfl, SqT.of htt, rfl, _, _, rfl, _, rfl, _, rfl, lb, _, _, at'.toNat, rfl, rfl, z2 _ _ h1, ixN_lt a0 (by omega), ?_⟩
    refine ⟨_, _, rfl, _, rfl, _, rfl, lb, _, _, ot.toNat, rfl, rfl, upd_same, ixN_lt o0 (by rw [List.length_set]; omega), rfl, ?_⟩
    have y2 := z1.trans z2
    obtain ⟨da, hda, ddA⟩ := dmB.get hu
    obtain ⟨db, hdb, ddB⟩ := dmB.get hv
    have nlm : lb ≠ lm := (ne_of_none hmB flb).symm
    have kb : ∀ {us : List V} {ds : List PyData}, DTs G2 (fun a => a ≠ p ∧ a ≠ lb) us ds → DTs (upd (upd G2 lb (.lst (ws.set at'.toNat v))) lb (.lst ((ws.set at'.toNat v).set ot.toNat (.ref te)))) (· ≠ p) us ds := fun h => (h.keep fun b ob hb e => by rw [upd_ne hb.2, upd_ne hb.2]; exact e).imp fun a h => h.1
    have nb : ∀ a, H a ≠ none → a ≠ lb := fun a ha z => ha (by rw [z]; exact flb0)
    have dmH : DTs H (fun a => a ≠ p ∧ a ≠ lb) ws (ms.map mvD) := xm.dtP fun b zs e => ⟨ne_of e hp0 (by intro z; cases z), nb b (by rw [e]; intro z; cases z)⟩
    have dmG : DTs G2 (fun a => a ≠ p ∧ a ≠ lb) ws mds := by
      rw [← hmds]
      exact dmH.keep fun b ob hb e => y2 _ _ (sxB _ _ hb.1 e)
    obtain ⟨d1, hd1, e1⟩ := dmG.get hu
    obtain ⟨d2, hd2, e2⟩ := dmG.get hv
    refine ⟨_, rfl, ?_⟩
    refine k lb _ ((mds.set at'.toNat d2).set ot.toNat d1) _ upd_same nlb (nlive (Same.refl _) flb) (kb ((dmG.setP _ e2).setP _ e1)) (fun d hd => ?_) ?_ (((puB.keep y2).upd nlb.symm).upd nlb.symm) (SameX.put (SameX.put (sxB.trans y2.x) flb0) flb0)
    · rcases List.mem_or_eq_of_mem_set hd with hd | rfl
      · rcases List.mem_or_eq_of_mem_set hd with hd | rfl
        · exact okm d hd
        · exact okm _ (List.mem_of_getElem? hd2)
      · exact okm _ (List.mem_of_getElem? hd1)
    · rw [List.length_set, List.length_set]; omega
end
end Sw
namespace Sw
open PySem L2
theorem call_reprK {X : Cx} {K : PySem.W.Frag} (h : X.K = K) (hg : X.A.guards = some []) (hu : X.A.units + 64 < cLine) : CallR X (.builtin "repr") (rRepr K) := by subst h; exact call_repr hg hu
theorem exs_put {H : Hp} {a : Addr} {es fs : List V} (h : H a = some (.lst es)) {vs : List V} {r : List (Int × Int)} (x : Exs H vs r) : Exs (upd H a (.lst fs)) vs r := x.keep fun b zs e => by
  rw [upd_ne (ne_of e h (by intro z; cases z))]; exact e
theorem Exs.dtP5 {H : Hp} {P : Addr → Prop} (hP : ∀ b zs, H b = some (.tup zs) → P b) : ∀ {vs : List V} {r : List (Int × Int)}, Exs H vs r → DTs H P vs (r.map fun e => PyData.tuple [.int e.1, .int e.2])
  | _, _, .nil => .nil
  | _, _, .cons h x => .cons (.tup h (hP _ _ h) (.cons (.int _) (.cons (.int _) .nil))) (x.dtP5 hP)
theorem nop5 {y : Str} (h : numOf partsP y = none) (ds : List PyData) : isPaper (.tuple (.str y :: ds)) = false := decide_eq_false (by rw [h]; intro z; cases z)
structure TL (P : Program) (w : World) (K : PySem.W.Frag) (mg : Str → Option Value) (base : Heap) : Prop extends T1 mg K where
  b_repr : mg "repr" = none
  b_str : mg "str" = none
  f__law_pool : FnAt P w K mg base "_law_pool" 1 ["_law_script", "_law_at"] (spPool K)
  f__law_take : FnAt P w K mg base "_law_take" 1 ["_law_pool_here", "_law_many"] spTk
  f__law_row_by : FnAt P w K mg base "_law_row_by" 2 ["_law_pool_here", "_law_n", "_law_many"] spRb
  f__law_moved : FnAt P w K mg base "_law_moved" 2 ["_law_row", "_law_k", "_law_way"] spLm5
  f__law_spoilt_moves : FnAt P w K mg base "_law_spoilt_moves" 2 ["_law_pool_here", "_law_way", "_law_moves"] spSpm
  f__law_due : FnAt P w K mg base "_law_due" 4 ["_law_n", "_law_one", "_law_moves", "_law_other"] spWkH
  f_holds : FnAt P w K mg base "holds" 10 ["paper"] (spHolds g65 R65)
section
variable {P : Program} {w : World} {K : PySem.W.Frag} {mg : Str → Option Value} {base : Heap}
theorem sc_law : FnScope ["_law_script", "_law_pool_here", "_law_way", "_law_n", "_law_one", "_law_moves", "_law_other", "_law_many", "_law_turn", "_law_at", "_law_some", "_law_due_here", "_law_paper", "_law_kept", "_law_told"] ["_law_script"] (defScope (top 76)) := ⟨rfl, rfl, rfl, by decide +kernel, rfl, by decide +kernel, by decide +kernel⟩
theorem ok_law {f : Addr} {fd : FuncData} (F : Fun K "law" "law" (top 76) f fd) (T : TL P w K mg base) : FnOk P w K mg base CX0 11 f fd ["_law_script"] (spLaw K) := by
  refine F.ok sc_law (fun vs H Q E h => ?_) (fun cdv A outer s H vs Q E hr h => ?_)
  · obtain ⟨a, ns, rfl, _⟩ := h
    rfl
  · obtain ⟨a, ns, rfl, hS, hlen, k⟩ := h
    refine ⟨_, (@pss_cons _ _ _ _ _ (ps_set (i := 1) sc_law.nd rfl (Or.inl rfl) (pe_callF T.f__law_pool (hr.mono (by first | decide | omega)) rfl (pa_cons (pv 0) (pa_cons pe_int pa_nil))))
      (@pss_cons _ _ _ _ _ (ps_set (i := 2) sc_law.nd rfl (Or.inl rfl) (pe_callF T.f__law_take (hr.mono (by first | decide | omega)) rfl (pa_cons (pv 1) (pa_cons pe_int pa_nil))))
      (@pss_cons _ _ _ _ _ (ps_set (i := 3) sc_law.nd rfl (Or.inl rfl) (pe_op op_add pe_int (pe_callF T.f__law_take (hr.mono (by first | decide | omega)) rfl (pa_cons (pv 1) (pa_cons pe_int pa_nil)))))
      (@pss_cons _ _ _ _ _ (ps_set (i := 4) sc_law.nd rfl (Or.inl rfl) (pe_callF T.f__law_row_by (hr.mono (by first | decide | omega)) rfl (@pa_cons _ _ _ _ _ (pv 1) (@pa_cons _ _ _ _ _ (pv 3) (@pa_cons _ _ _ _ _ (pe_callF T.f__law_take (hr.mono (by first | decide | omega)) rfl (pa_cons (pv 1) (pa_cons (pe_ix (ix_listK (K := K) rfl) (pe_lst (pa_cons pe_int (pa_cons pe_int pa_nil))) (pe_callF T.f__law_take (hr.mono (by first | decide | omega)) rfl (pa_cons (pv 1) (pa_cons pe_int pa_nil))) (fun _ _ => rfl)) pa_nil))) pa_nil st_call) st_name) st_name)))
      (@pss_cons _ _ _ _ _ (ps_set (i := 5) sc_law.nd rfl (Or.inl rfl) (pe_lst pa_nil))
      (@pss_cons _ _ _ _ _ (ps_set (i := 6) sc_law.nd rfl (Or.inl rfl) (pe_callTy (call_list_ofK (K := K) rfl) rfl T.b_list (by decide +kernel) (pa_cons (pv 4) pa_nil)))
      (@pss_cons _ _ _ _ _ (ps_set (i := 7) sc_law.nd rfl (Or.inl rfl) (pe_callF T.f__law_take (hr.mono (by first | decide | omega)) rfl (pa_cons (pv 1) (pa_cons pe_int pa_nil))))
      (@pss_cons _ _ _ _ _ (ps_if (pt_cmpR op_eq (pe_callF T.f__law_take (hr.mono (by first | decide | omega)) rfl (pa_cons (pv 1) (pa_cons pe_int pa_nil))) pe_int (nomark _)) (pss_one (ps_set (i := 7) sc_law.nd rfl (Or.inl rfl) (pe_op op_add pe_int (pe_callF T.f__law_take (hr.mono (by first | decide | omega)) rfl (pa_cons (pv 1) (pa_cons pe_int pa_nil)))))) pss_nil)
      (@pss_cons _ _ _ _ _ (ps_for PassesOwn.never rfl (pi_range1 rfl T.b_range (pa_cons (pe_op op_mul (pv 7) (pe_callTy call_int1 rfl T.b_int (by decide +kernel) (pa_cons (pe_cmpR op_gt (pe_callB (call_lenK (K := K) rfl) rfl T.b_len (by decide +kernel) (pa_cons (pv 4) pa_nil)) pe_int (nomark _)) pa_nil))) pa_nil)) (pg_name (i := 8) sc_law.nd rfl (Or.inl rfl)) (pss_cons (ps_expr (pe_bmK (K := K) rfl PySem.F.plainAttrs_list PySem.F.slot_list_append PySem.F.type_list_append mt_append (pv 5) (pa_cons (pe_tup (pa_cons (pe_op op_add pe_int (pe_callF T.f__law_take (hr.mono (by first | decide | omega)) rfl (pa_cons (pv 1) (pa_cons (pe_op op_sub (pe_callB (call_lenK (K := K) rfl) rfl T.b_len (by decide +kernel) (pa_cons (pv 4) pa_nil)) pe_int) pa_nil)))) (pa_cons (pe_ix (ix_listK (K := K) rfl) (pe_lst (pa_cons pe_str (pa_cons pe_str pa_nil))) (pe_callF T.f__law_take (hr.mono (by first | decide | omega)) rfl (pa_cons (pv 1) (pa_cons pe_int pa_nil))) (fun _ _ => rfl)) pa_nil))) pa_nil)))
      (pss_one (ps_set (i := 6) sc_law.nd rfl (Or.inl rfl) (pe_callF T.f__law_moved (hr.mono (by first | decide | omega)) rfl (@pa_cons _ _ _ _ _ (pv 6) (@pa_cons _ _ _ _ _ (pe_ix (ix_tupK (K := K) rfl) (pe_ix (ix_listK (K := K) rfl) (pv 5) (pe_un un_neg pe_int) (fun _ _ => rfl)) pe_int (fun _ _ => rfl)) (@pa_cons _ _ _ _ _ (pe_ix (ix_tupK (K := K) rfl) (pe_ix (ix_listK (K := K) rfl) (pv 5) (pe_un un_neg pe_int) (fun _ _ => rfl)) pe_int (fun _ _ => rfl)) pa_nil st_sub) st_sub) st_name))))))
      (@pss_cons _ _ _ _ _ (ps_if (pt_cmpR op_lt (pv 2) pe_int (nomark _)) (pss_one (ps_set (i := 5) sc_law.nd rfl (Or.inl rfl) (pe_callF T.f__law_spoilt_moves (hr.mono (by first | decide | omega)) rfl (@pa_cons _ _ _ _ _ (pv 1) (@pa_cons _ _ _ _ _ (pv 2) (@pa_cons _ _ _ _ _ (pv 5) pa_nil st_name) st_name) st_name)))) pss_nil)
      (@pss_cons _ _ _ _ _ (ps_set (i := 9) sc_law.nd rfl (Or.inl rfl) (pe_callF T.f__law_take (hr.mono (by first | decide | omega)) rfl (pa_cons (pv 1) (pa_cons (pe_op op_add (pe_callB (call_lenK (K := K) rfl) rfl T.b_len (by decide +kernel) (pa_cons (pv 4) pa_nil)) pe_int) pa_nil))))
      (@pss_cons _ _ _ _ _ (@ps_set _ _ 10 _ _ _ _ sc_law.nd rfl (Or.inl rfl) (@pe_lst _ _ _ _ (@pa_cons _ _ _ _ _ (pv 3) (@pa_cons _ _ _ _ _ (pe_callTy (call_list_ofK (K := K) rfl) rfl T.b_list (by decide +kernel) (pa_cons (pv 4) pa_nil)) (@pa_cons _ _ _ _ _ (pv 5) (@pa_cons _ _ _ _ _ (pv 6) pa_nil st_name) st_name) st_call) st_name)) (by rfl) (by first | exact .inl rfl | exact .inr rfl))
      (@pss_cons _ _ _ _ _ (@ps_if _ _ _ _ _ _ _ _ (pt_cmpR op_eq (pv 2) pe_int (nomark _)) (@pss_one _ _ _ (ps_asg (@pe_ix _ _ _ _ _ _ _ (ix_listK (K := K) rfl) (@pe_lst _ _ _ _ (@pa_cons _ _ _ _ _ (pe_op op_add (pv 3) pe_int) (@pa_cons _ _ _ _ _ (pe_op op_sub (pv 3) pe_int) (@pa_cons _ _ _ _ _ pe_int (@pa_cons _ _ _ _ _ pe_int (@pa_cons _ _ _ _ _ pe_bl (@pa_cons _ _ _ _ _ pe_non (@pa_cons _ _ _ _ _ (pe_callTy call_str_int rfl T.b_str (by decide +kernel) (pa_cons (pv 3) pa_nil)) (@pa_cons _ _ _ _ _ (pe_un un_neg (pv 3)) pa_nil st_un) st_call) st_con) st_con) st_con) st_con) st_bin) st_bin)) (pe_callF T.f__law_take (hr.mono (by first | decide | omega)) rfl (pa_cons (pv 1) (pa_cons pe_int pa_nil))) (fun _ _ => rfl)) (pg_sub (pv 10) pe_int set_list))) pss_nil)
      (@pss_cons _ _ _ _ _ (@ps_if _ _ _ _ _ _ _ _ (PW.pt (pw_and (pt_cmpR op_eq (pv 2) pe_int (nomark _)) (pw_and1 (pt_cmpR op_lt (pv 9) (pe_callB (call_lenK (K := K) rfl) rfl T.b_len (by decide +kernel) (pa_cons (pv 4) pa_nil)) (nomark _))))) (@pss_one _ _ _ (ps_asg (@pe_ix _ _ _ _ _ _ _ (ix_listK (K := K) rfl) (@pe_lst _ _ _ _ (@pa_cons _ _ _ _ _ (pe_tup (pa_cons pe_int (pa_cons (pv 3) pa_nil))) (@pa_cons _ _ _ _ _ (pe_tup (pa_cons pe_int (pa_cons pe_int pa_nil))) (@pa_cons _ _ _ _ _ (pe_lst (pa_cons pe_int (pa_cons pe_int pa_nil))) (@pa_cons _ _ _ _ _ (pe_tup (pa_cons pe_int (pa_cons (pe_op op_add (pv 3) pe_int) pa_nil))) (@pa_cons _ _ _ _ _ pe_non pa_nil st_con) st_tup) st_list) st_tup) st_tup)) (pe_callF T.f__law_take (hr.mono (by first | decide | omega)) rfl (pa_cons (pv 1) (pa_cons pe_int pa_nil))) (fun _ _ => rfl)) (pg_sub (pe_ix (ix_listK (K := K) rfl) (pv 10) (pe_op op_add pe_int (pe_op op_mul pe_int (pe_callF T.f__law_take (hr.mono (by first | decide | omega)) rfl (pa_cons (pv 1) (pa_cons pe_int pa_nil))))) (fun _ _ => rfl)) (pv 9) set_list))) pss_nil)
      (@pss_cons _ _ _ _ _ (@ps_if _ _ _ _ _ _ _ _ (pt_cmpR op_eq (pv 2) pe_int (nomark _)) (@pss_one _ _ _ (ps_asg (@pe_ix _ _ _ _ _ _ _ (ix_listK (K := K) rfl) (@pe_lst _ _ _ _ (@pa_cons _ _ _ _ _ pe_non (@pa_cons _ _ _ _ _ (pe_callTy (call_tuple_ofK (K := K) rfl) rfl T.b_tuple (by decide +kernel) (pa_cons (pv 4) pa_nil)) (@pa_cons _ _ _ _ _ (pe_callTy (call_tuple_ofK (K := K) rfl) rfl T.b_tuple (by decide +kernel) (pa_cons (pv 5) pa_nil)) (@pa_cons _ _ _ _ _ (pe_tup pa_nil) (@pa_cons _ _ _ _ _ pe_str (@pa_cons _ _ _ _ _ pe_int pa_nil st_con) st_con) st_tup) st_call) st_call) st_con)) (pe_callF T.f__law_take (hr.mono (by first | decide | omega)) rfl (pa_cons (pv 1) (pa_cons pe_int pa_nil))) (fun _ _ => rfl)) (pg_sub (pv 10) (pe_op op_add pe_int (pe_callF T.f__law_take (hr.mono (by first | decide | omega)) rfl (pa_cons (pv 1) (pa_cons pe_int pa_nil)))) set_list))) pss_nil)
      (@pss_cons _ _ _ _ _ (ps_set (i := 11) sc_law.nd rfl (Or.inl rfl) (pe_callF T.f__law_due (hr.mono (by first | decide | omega)) rfl (@pa_cons _ _ _ _ _ (pe_ix (ix_listK (K := K) rfl) (pv 10) pe_int (fun _ _ => rfl)) (@pa_cons _ _ _ _ _ (pe_ix (ix_listK (K := K) rfl) (pv 10) pe_int (fun _ _ => rfl)) (@pa_cons _ _ _ _ _ (pe_ix (ix_listK (K := K) rfl) (pv 10) pe_int (fun _ _ => rfl)) (@pa_cons _ _ _ _ _ (pe_ix (ix_listK (K := K) rfl) (pv 10) pe_int (fun _ _ => rfl)) pa_nil st_sub) st_sub) st_sub) st_sub)))
      (@pss_cons _ _ _ _ _ (@ps_set _ _ 12 _ _ _ _ sc_law.nd rfl (Or.inl rfl) (pe_tup (@pa_cons _ _ _ _ _ pe_str (@pa_cons _ _ _ _ _ (pe_ix (ix_listK (K := K) rfl) (pv 10) pe_int (fun _ _ => rfl)) (@pa_cons _ _ _ _ _ (pe_ix (ix_listK (K := K) rfl) (pv 10) pe_int (fun _ _ => rfl)) (@pa_cons _ _ _ _ _ (pe_ix (ix_listK (K := K) rfl) (pv 10) pe_int (fun _ _ => rfl)) (@pa_cons _ _ _ _ _ (pe_ix (ix_listK (K := K) rfl) (pv 10) pe_int (fun _ _ => rfl)) pa_nil st_sub) st_sub) st_sub) st_sub) st_con)) (by rfl) (by first | exact .inl rfl | exact .inr rfl))
      (@pss_cons _ _ _ _ _ (@ps_if _ _ _ _ _ _ _ _ (pt_cmpR op_eq (pv 2) pe_int (nomark _)) (@pss_cons _ _ _ _ _ (@ps_set _ _ 12 _ _ _ _ sc_law.nd rfl (Or.inl rfl) (@pe_ix _ _ _ _ _ _ _ (ix_listK (K := K) rfl) (@pe_lst _ _ _ _ (@pa_cons _ _ _ _ _ (pe_op (op_catTK (K := K) rfl) (pe_tup (pa_cons pe_str pa_nil)) (pe_slice (sl_tupK (K := K) rfl) (pv 12) (po_some pe_int) po_none)) (@pa_cons _ _ _ _ _ (pe_slice (sl_tupK (K := K) rfl) (pv 12) po_none (po_some pe_int)) (@pa_cons _ _ _ _ _ (pe_op (op_catTK (K := K) rfl) (pv 12) (pe_tup (pa_cons (pv 4) pa_nil))) (@pa_cons _ _ _ _ _ (pe_callTy (call_list_ofK (K := K) rfl) rfl T.b_list (by decide +kernel) (pa_cons (pv 12) pa_nil)) pa_nil st_call) st_bin) st_sub) st_bin)) (pe_callF T.f__law_take (hr.mono (by first | decide | omega)) rfl (pa_cons (pv 1) (pa_cons pe_int pa_nil))) (fun _ _ => rfl)) (by rfl) (by first | exact .inl rfl | exact .inr rfl))
      (pss_one (ps_set (i := 11) sc_law.nd rfl (Or.inl rfl) pe_bl))) pss_nil)
      (pss_cons (ps_set (i := 13) sc_law.nd rfl (Or.inl rfl) (pe_callB (call_reprK (K := K) rfl hr.gd hr.units) rfl T.b_repr (by decide +kernel) (pa_cons (pv 12) pa_nil)))
      (pss_cons (ps_set (i := 14) sc_law.nd rfl (Or.inl rfl) (pe_callF T.f_holds (hr.mono (by first | decide | omega)) rfl (pa_cons (pv 12) pa_nil)))
      (pss_one (ps_ret (pe_and (pe_callB (call_isiK (K := K) rfl) rfl T.b_isinstance (by decide +kernel) (pa_cons (pv 14) (pa_cons (pe_bltn (v := .ty "bool") rfl T.b_bool (by decide +kernel) rfl) pa_nil))) (pe_and (pe_cmpR op_eq (pv 14) (pv 11) (nomark _)) (pe_one (pe_cmpR op_eq (pe_callB (call_reprK (K := K) rfl hr.gd hr.units) rfl T.b_repr (by decide +kernel) (pa_cons (pv 12) pa_nil)) (pv 13) (nomark _))))))))))))))))))))))))))), ?_⟩
    have big : (10000000 : Nat) ≤ sizeLine := by decide
    have two : 2 ≤ sizeLine := by decide
    have one : 1 ≤ sizeLine := by decide
    refine ⟨_, rfl, a, ns, 0, rfl, hS, by decide, by decide, fun p H1 fp pu1 s1 => ?_⟩
    refine ⟨_, rfl, p, 16, rfl, pu1, by decide, by decide, fun wy H2 w0 w1 pu2 s2 => ?_⟩
    refine ⟨_, rfl, p, 12, rfl, pu2, by decide, by decide, fun r5 H5 r50 r51 pu5 s5 => ?_⟩
    obtain ⟨n, hn⟩ : ∃ n : Int, 1 + r5 = n := ⟨_, rfl⟩
    refine add_at hn ?_
    have n1 : 1 ≤ n := by omega
    have n12 : n ≤ 12 := by omega
    -- the row
    refine ⟨_, rfl, _, rfl, _, rfl, two, fun l6 f6 => ?_⟩
    have z6 : Same H5 (upd H5 l6 (.lst [.int 13, .int 61])) := Same.new f6
    have h6 : upd H5 l6 (.lst [.int 13, .int 61]) l6 = some (.lst [.int 13, .int 61]) := upd_same
    have nl6 : l6 ≠ p := (pu5.ne f6).symm
    generalize upd H5 l6 (.lst [.int 13, .int 61]) = H6 at z6 h6 ⊢
    refine ⟨_, rfl, p, 2, rfl, pu5.keep z6, by decide, by decide, fun r7 H7 r70 r71 pu7 s7 => ?_⟩
    obtain ⟨m, hm, m6, m61⟩ : ∃ m : Int, ([.int 13, .int 61] : List V)[r7.toNat]? = some (.int m) ∧ 13 ≤ m ∧ m ≤ 61 := by
      have : r7.toNat = 0 ∨ r7.toNat = 1 := by omega
      rcases this with e | e <;> rw [e]
      · exact ⟨_, rfl, by decide, by decide⟩
      · exact ⟨_, rfl, by decide, by decide⟩
    refine ⟨l6, _, r7, _, rfl, rfl, SqL.of (s7 _ _ nl6 h6), at_refI r70 hm, p, m, rfl, pu7, by omega, by omega, fun r8 H8 r80 r81 pu8 s8 => ?_⟩
    refine ⟨p, n, r8, rfl, pu8, n1, n12, r80, by omega, fun lo eo row H9 flo hlo xo gr rl pu9 s9 => ?_⟩
    have nop : lo ≠ p := (pu8.ne flo).symm
    have eol := xo.length
    -- moves, other
    refine ⟨Nat.zero_le _, fun lm flm => ?_⟩
    have z10 : Same H9 (upd H9 lm (.lst [])) := Same.new flm
    have h10 : upd H9 lm (.lst []) lm = some (.lst []) := upd_same
    have nmp : lm ≠ p := (pu9.ne flm).symm
    have nmo : lm ≠ lo := (ne_of_none hlo flm).symm
    generalize upd H9 lm (.lst []) = H10 at z10 h10 ⊢
    have hlo10 := z10 _ _ hlo
    refine ⟨_, rfl, lo, _, rfl, .inl (SqL.of hlo10), fun lt flt => ?_⟩
    have z11 : Same H10 (upd H10 lt (.lst eo)) := Same.new flt
    have h11 : upd H10 lt (.lst eo) lt = some (.lst eo) := upd_same
    have ntp : lt ≠ p := ((pu9.keep z10).ne flt).symm
    have ntm : lt ≠ lm := (ne_of_none h10 flt).symm
    generalize upd H10 lt (.lst eo) = H11 at z11 h11 ⊢
    have z911 := z10.trans z11
    have pu11 := pu9.keep z911
    refine ⟨_, rfl, p, 13, rfl, pu11, by decide, by decide, fun r12 H12 r120 r121 pu12 s12 => ?_⟩
    have hlo12 := s12 _ _ nop (z11 _ _ hlo10)
    have hlm12 := s12 _ _ nmp (z11 _ _ h10)
    have hlt12 := s12 _ _ ntp h11
    obtain ⟨_, hp11⟩ := pu11.at
    have xo12 := (xo.keep (Same.tups z911)).keep (SameX.tups s12 hp11)
    refine gNJ ?_
    dsimp only
    refine seq_byJ (t := tIfS _ _ _) (fun σ' H' => ∃ mn : Int, 0 ≤ mn ∧ mn ≤ 400 ∧ σ' = [some (.ref a), some (.ref p), some (.int wy), some (.int n), some (.ref lo), some (.ref lm), some (.ref lt), some (.int mn), none, none, none, none, none, none, none] ∧ Pool H' p ∧ SameX p H12 H') (fun D' hD => ?_) ?_
    · refine ⟨_, rfl, p, 8, rfl, pu12, by decide, by decide, fun r13 H13 r130 r131 pu13 s13 => ⟨rfl, _, rfl, ite2 (fun c => ?_) (fun c => ?_)⟩⟩
      · refine ⟨_, rfl, p, 341, rfl, pu13, by decide, by decide, fun r14 H14 r140 r141 pu14 s14 => ⟨_, _, rfl, rfl, ?_⟩⟩
        exact hD _ _ ⟨60 + r14, by omega, by omega, rfl, pu14, s13.trans s14⟩
      · exact hD _ _ ⟨r12, by omega, by omega, rfl, pu13, s13⟩
    rintro σ H15 ⟨mn, mn0, mn400, rfl, pu15, s15⟩
    have hlo15 := s15 _ _ nop hlo12
    have hlm15 := s15 _ _ nmp hlm12
    have hlt15 := s15 _ _ ntp hlt12
    obtain ⟨_, hp12⟩ := pu12.at
    have xo15 := xo12.keep (SameX.tups s15 hp12)
    obtain ⟨c, hc⟩ : ∃ c : Int, (if decide (1 < (eo.length : Int)) = true then (1 : Int) else 0) = c := ⟨_, rfl⟩
    have cb : (c = 1 ∧ 1 < eo.length) ∨ c = 0 := by
      by_cases z : 1 < (eo.length : Int)
      · rw [if_pos (decide_eq_true z)] at hc; omega
      · rw [if_neg (by simpa using z)] at hc; omega
    have mc : (mn * c = mn ∧ 1 < eo.length) ∨ mn * c = 0 := by
      rcases cb with ⟨rfl, z⟩ | rfl
      · exact .inl ⟨Int.mul_one mn, z⟩
      · exact .inr (Int.mul_zero mn)
    refine ⟨_, rfl, _, rfl, lo, _, rfl, .inl (SqL.of hlo15), _, _, rfl, rfl, .inr ⟨_, rfl, ?_⟩⟩
    rw [hc]
    refine ⟨_, _, rfl, rfl, .inr ⟨by omega, by omega⟩, _, rfl, by omega, by omega, for_range (fun i σ H' => i ≤ 400 ∧ ∃ lt v8 ws ms et rt, σ = [some (.ref a), some (.ref p), some (.int wy), some (.int n), some (.ref lo), some (.ref lm), some (.ref lt), some (.int mn), v8, none, none, none, none, none, none] ∧ H' lo = some (.lst eo) ∧ Exs H' eo row ∧ H' lm = some (.lst ws) ∧ Mvs H' ws ms ∧ MvG ms ∧ ms.length = i ∧ H' lt = some (.lst et) ∧ Exs H' et rt ∧ Good n rt ∧ rt.length = row.length ∧ lt ≠ p ∧ lt ≠ lm ∧ lt ≠ lo ∧ Pool H' p) ⟨by decide, lt, _, [], [], eo, row, rfl, hlo15, xo15, hlm15, .nil, (fun e he => by cases he), rfl, hlt15, xo15, gr, rfl, ntp, ntm, ?_, pu15⟩ ?_ ?_⟩
    · intro z
      subst z
      rw [hlo10] at flt; cases flt
    · rintro i σ H16 hi ⟨i4, lt, v8, ws, ms, et, rt, rfl, hlo16, xo16, hlm16, xm16, gm, ml, hlt16, xt16, gt, rtl, ntp, ntm, nto, pu16⟩
      have e2 : 1 < eo.length := by omega
      have wl := xm16.length
      refine ⟨_, rfl, .inl ⟨rfl, _, SqL.of hlm16⟩, _, rfl, _, rfl, lo, _, rfl, .inl (SqL.of hlo16), _, _, rfl, rfl, p, _, rfl, pu16, by omega, by omega, fun r17 H17 r170 r171 pu17 s17 => ?_⟩
      refine ⟨_, _, rfl, rfl, two, fun l18 f18 => ?_⟩
      have z18 : Same H17 (upd H17 l18 (.lst [.str "forth", .str "back"])) := Same.new f18
      have h18 : upd H17 l18 (.lst [.str "forth", .str "back"]) l18 = some (.lst [.str "forth", .str "back"]) := upd_same
      have n18 : l18 ≠ p := (pu17.ne f18).symm
      generalize upd H17 l18 (.lst [.str "forth", .str "back"]) = H18 at z18 h18 ⊢
      refine ⟨_, rfl, p, 2, rfl, pu17.keep z18, by decide, by decide, fun r19 H19 r190 r191 pu19 s19 => ?_⟩
      obtain ⟨fw, hfw⟩ : ∃ fw : Bool, ([.str "forth", .str "back"] : List V)[r19.toNat]? = some (.str (wayS fw)) := by
        have : r19.toNat = 0 ∨ r19.toNat = 1 := by omega
        rcases this with e | e <;> rw [e]
        · exact ⟨true, rfl⟩
        · exact ⟨false, rfl⟩
      refine ⟨l18, _, r19, _, rfl, rfl, SqL.of (s19 _ _ n18 h18), at_refI r190 hfw, two, fun te fte => ?_⟩
      have z20 : Same H19 (upd H19 te (.tup [.int (1 + r17), .str (wayS fw)])) := Same.new fte
      have h20 : upd H19 te (.tup [.int (1 + r17), .str (wayS fw)]) te = some (.tup [.int (1 + r17), .str (wayS fw)]) := upd_same
      generalize upd H19 te (.tup [.int (1 + r17), .str (wayS fw)]) = H20 at z20 h20 ⊢
      obtain ⟨_, hp16⟩ := pu16.at
      obtain ⟨_, hp18⟩ := (pu17.keep z18).at
      have q20 : SameX p H16 H20 := s17.trans (z18.x.trans (s19.trans z20.x))
      have k20 : ∀ b zs, H16 b = some (.tup zs) → H20 b = some (.tup zs) := SameX.tups q20 hp16
      have hlm20 := q20 _ _ nmp hlm16
      have hlo20 := q20 _ _ nop hlo16
      have hlt20 := q20 _ _ ntp hlt16
      have pu20 := pu19.keep z20
      refine ⟨lm, _, _, rfl, rfl, hlm20, by omega, ?_⟩
      have k21 : ∀ b zs, H20 b = some (.tup zs) → upd H20 lm (.lst (ws ++ [.ref te])) b = some (.tup zs) := fun b zs e => by
        rw [upd_ne (ne_of e hlm20 (by intro z; cases z))]; exact e
      have hlm21 : upd H20 lm (.lst (ws ++ [.ref te])) lm = some (.lst (ws ++ [.ref te])) := upd_same
      have hlo21 : upd H20 lm (.lst (ws ++ [.ref te])) lo = some (.lst eo) := by rw [upd_ne nmo.symm]; exact hlo20
      have hlt21 : upd H20 lm (.lst (ws ++ [.ref te])) lt = some (.lst et) := by rw [upd_ne ntm]; exact hlt20
      have hte21 := k21 _ _ h20
      have pu21 := pu20.upd nmp.symm (o := .lst (ws ++ [.ref te]))
      have xo21 := (xo16.keep k20).keep k21
      have xt21 := (xt16.keep k20).keep k21
      have xm21 := ((xm16.keep k20).keep k21).append (.cons hte21 .nil)
      generalize upd H20 lm (.lst (ws ++ [.ref te])) = H21 at k21 hlm21 hlo21 hlt21 hte21 pu21 xo21 xt21 xm21 ⊢
      have etl := xt21.length
      refine ⟨_, rfl, _, rfl, _, rfl, lm, _, _, _, rfl, rfl, SqL.of hlm21, atI_last ws (.ref te), te, _, 0, _, rfl, rfl, SqT.of hte21, rfl, _, rfl, _, rfl, lm, _, _, _, rfl, rfl, SqL.of hlm21, atI_last ws (.ref te), te, _, 1, _, rfl, rfl, SqT.of hte21, rfl, lt, et, rt, 1 + r17, n, wayS fw, rfl, hlt21, xt21, by omega, gt, fun f2 hf2 k1 k2 l2 e2' H22 f22 h22 x22 s22 => ?_, fun bad => absurd ⟨by omega, by omega, fw, rfl⟩ bad⟩
      have nn : ∀ b (ob : HO), H21 b = some ob → l2 ≠ b := fun b ob e z => by rw [z, e] at f22; cases f22
      refine ⟨by omega, l2, _, _, ms ++ [(1 + r17, wayS fw)], e2', _, rfl, s22 _ _ hlo21, xo21.keep (Same.tups s22), s22 _ _ hlm21, xm21.keep (Same.tups s22), fun e he => ?_, by rw [List.length_append, ml]; rfl, h22, x22, mv_good gt (by omega) _, ?_, fun z => (pu21.ne f22) z.symm, nn _ _ hlm21, nn _ _ hlo21, pu21.keep s22⟩
      · rcases List.mem_append.mp he with he | he
        · exact gm e he
        · rw [List.mem_singleton.mp he]; exact ⟨by show 1 ≤ 1 + r17; omega, by show 1 + r17 ≤ 60; omega, fw, rfl⟩
      · have := step_len (step_some (f := f2) k1 k2)
        omega
    clear hlo15 hlm15 hlt15 xo15 hlo12 hlm12 hlt12 xo12 h11 h10
    rintro σ H16 ⟨i4, lt, v8, ws, ms, et, rt, rfl, hlo16, xo16, hlm16, xm16, gm, ml, hlt16, xt16, gt, rtl, ntp, ntm, nto, pu16⟩
    have ml4 : ms.length ≤ 400 := by omega
    have rtd : ∀ (rr : List (Int × Int)), Good n rr → ∀ d ∈ rr.map (fun e => PyData.tuple [.int e.1, .int e.2]), OkE d := fun rr g d hd => by
      obtain ⟨e, he, rfl⟩ := List.mem_map.mp hd
      have := g e he
      exact oke_tup (all2 (f0_int (by omega)) (f0_int (by omega))) (by show 2 ≤ 3; decide)
    dsimp only
    refine seq_byJ (t := tIfS _ _ _) (fun σ' H' => ∃ lm us mds, ∃ P6 : Addr → Prop, σ' = [some (.ref a), some (.ref p), some (.int wy), some (.int n), some (.ref lo), some (.ref lm), some (.ref lt), some (.int mn), v8, none, none, none, none, none, none] ∧ H' lo = some (.lst eo) ∧ Exs H' eo row ∧ H' lt = some (.lst et) ∧ Exs H' et rt ∧ H' lm = some (.lst us) ∧ lm ≠ p ∧ lm ≠ lt ∧ DTs H' P6 us mds ∧ (∀ b, P6 b → b ≠ p) ∧ (7 ≤ wy → ∀ b, P6 b → b ≠ lt) ∧ (∀ d ∈ mds, OkE d) ∧ mds.length ≤ 401 ∧ Pool H' p) (fun D' hD => ?_) ?_
    · refine ⟨_, rfl, _, _, rfl, rfl, _, rfl, ite2 (fun c => ?_) (fun c => ?_)⟩
      · have c : wy < 7 := of_decide_eq_true c
        refine ⟨_, rfl, _, rfl, _, rfl, p, wy, lm, ws, ms, rfl, pu16, w0, c, hlm16, nmp, xm16, gm, ml4, fun l us ds H17 hl nl nll dus oks dsl pu17 s17 => ?_⟩
        obtain ⟨_, hp16⟩ := pu16.at
        exact hD _ _ ⟨l, us, ds, (· ≠ p), rfl, s17 _ _ nop hlo16, xo16.keep (SameX.tups s17 hp16), s17 _ _ ntp hlt16, xt16.keep (SameX.tups s17 hp16), hl, nl, nll _ (by rw [hlt16]; intro z; cases z), dus, fun b h => h, (fun z => by omega), oks, dsl, pu17⟩
      · obtain ⟨_, hp16⟩ := pu16.at
        refine hD _ _ ⟨lm, ws, ms.map mvD, (fun b => b ≠ p ∧ b ≠ lt), rfl, hlo16, xo16, hlt16, xt16, hlm16, nmp, ntm.symm, xm16.dtP (fun b zs e => ⟨ne_of e hp16 (by intro z; cases z), ne_of e hlt16 (by intro z; cases z)⟩), fun b h => h.1, fun _ b h => h.2, fun d hd => ?_, by rw [List.length_map]; omega, pu16⟩
        obtain ⟨e, he, rfl⟩ := List.mem_map.mp hd
        obtain ⟨g1, g2, fw, g3⟩ := gm e he
        unfold mvD
        rw [g3]
        exact oke_tup (all2 (f0_int (by omega)) (f0_way fw)) (by show 2 ≤ 3; decide)
    clear hlo16 xo16 hlm16 xm16 gm hlt16 xt16 pu16 nmp ntm nmo
    rintro σ H17 ⟨lm, us, mds, P6, rfl, hlo17, xo17, hlt17, xt17, hlm17, nmp, nmt, dus17, p6p, p6t, okm, dml, pu17⟩
    refine ⟨_, rfl, _, rfl, lo, _, rfl, .inl (SqL.of hlo17), _, _, rfl, rfl, p, _, rfl, pu17, by omega, by omega, fun at' H18 a0 a1 pu18 s18 => ?_⟩
    obtain ⟨_, hp17⟩ := pu17.at
    have hlo18 := s18 _ _ nop hlo17
    have hlt18 := s18 _ _ ntp hlt17
    have hlm18 := s18 _ _ nmp hlm17
    have xo18 := xo17.keep (SameX.tups s18 hp17)
    have xt18 := xt17.keep (SameX.tups s18 hp17)
    have dus18 := (dus17.keep fun b ob hb e => s18 b ob (p6p b hb) e).alive
    have etl := xt18.length
    refine ⟨_, rfl, _, rfl, lo, _, rfl, .inl (SqL.of hlo18), fun lc flc => ?_⟩
    have z19 : Same H18 (upd H18 lc (.lst eo)) := Same.new flc
    have hlc19 : upd H18 lc (.lst eo) lc = some (.lst eo) := upd_same
    generalize upd H18 lc (.lst eo) = H19 at z19 hlc19 ⊢
    refine ⟨_, rfl, _, rfl, (by show 4 ≤ sizeLine; decide), fun ls fls => ?_⟩
    have fls18 : H18 ls = none := z19.free fls
    have z20 : Same H19 (upd H19 ls (.lst [.int n, .ref lc, .ref lm, .ref lt])) := Same.new fls
    have hls20 : upd H19 ls (.lst [.int n, .ref lc, .ref lm, .ref lt]) ls = some (.lst [.int n, .ref lc, .ref lm, .ref lt]) := upd_same
    have nsc : ls ≠ lc := (ne_of_none hlc19 fls).symm
    have nso : ls ≠ lo := (ne_of_none hlo18 fls18).symm
    have nst : ls ≠ lt := (ne_of_none hlt18 fls18).symm
    have nsm : ls ≠ lm := (ne_of_none hlm18 fls18).symm
    have nsp : ls ≠ p := (pu18.ne fls18).symm
    have nco : lc ≠ lo := (ne_of_none hlo18 flc).symm
    have nct : lc ≠ lt := (ne_of_none hlt18 flc).symm
    have ncm : lc ≠ lm := (ne_of_none hlm18 flc).symm
    have ncp : lc ≠ p := (pu18.ne flc).symm
    generalize upd H19 ls (.lst [.int n, .ref lc, .ref lm, .ref lt]) = H20 at z20 hls20 ⊢
    have z1820 := z19.trans z20
    obtain ⟨PX, hPX⟩ : ∃ PX : Addr → Prop, PX = fun b => P6 b ∧ H18 b ≠ none := ⟨_, rfl⟩
    rw [← hPX] at dus18
    have pxp : ∀ b, PX b → b ≠ p := fun b h => by rw [hPX] at h; exact p6p b h.1
    have pxs : ∀ b, PX b → b ≠ ls := fun b h z => by rw [hPX] at h; exact h.2 (by rw [z]; exact fls18)
    have pxc : ∀ b, PX b → b ≠ lc := fun b h z => by rw [hPX] at h; exact h.2 (by rw [z]; exact flc)
    have pxt : 7 ≤ wy → ∀ b, PX b → b ≠ lt := fun w b h => by rw [hPX] at h; exact p6t w b h.1
    have hlo20 := z1820 _ _ hlo18
    have hlt20 := z1820 _ _ hlt18
    have hlm20 := z1820 _ _ hlm18
    have hlc20 := z20 _ _ hlc19
    have xo20 := xo18.keep (Same.tups z1820)
    have xt20 := xt18.keep (Same.tups z1820)
    have dus20 := DTs.same dus18 z1820
    have pu20 := pu18.keep z1820
    clear hlo18 hlt18 hlm18 hlc19 xo18 xt18 dus18 xo17 xt17 dus17 hlo17 hlt17 hlm17
    refine gNJ ?_
    dsimp only
    refine seq_byJ (t := tIfS _ _ _) (fun σ' H' => ∃ u0 d0, σ' = [some (.ref a), some (.ref p), some (.int wy), some (.int n), some (.ref lo), some (.ref lm), some (.ref lt), some (.int mn), v8, some (.int at'), some (.ref ls), none, none, none, none] ∧ H' ls = some (.lst [u0, .ref lc, .ref lm, .ref lt]) ∧ (∀ (G : Hp) (P : Addr → Prop), DT G P u0 d0) ∧ OkL d0 ∧ H' lo = some (.lst eo) ∧ Exs H' eo row ∧ H' lc = some (.lst eo) ∧ H' lt = some (.lst et) ∧ Exs H' et rt ∧ H' lm = some (.lst us) ∧ DTs H' PX us mds ∧ Pool H' p) (fun D' hD => ?_) ?_
    · have intL : ∀ {i : Int}, i.natAbs < 1000 → OkL (.int i) := fun h => okl_flat (f0_int h) (fun _ z => by cases z) (fun _ z => by cases z)
      refine ⟨_, rfl, rfl, _, rfl, ite2 (fun c => ?_) (fun c => ?_)⟩
      · have nlog : n.natAbs.log2 < 1920 := by
          have : n.natAbs < 2 ^ 4 := by omega
          by_cases z : n.natAbs = 0
          · rw [z]; decide
          · have := (Nat.log2_lt z).mpr this; omega
        refine ⟨_, rfl, _, _, rfl, rfl, _, rfl, _, _, rfl, rfl, _, rfl, n, rfl, nlog, _, rfl, _, rfl, (by show 8 ≤ sizeLine; decide), fun l21 f21 => ?_⟩
        have z21 : Same H20 (upd H20 l21 (.lst [.int (n + 1), .int (n - 1), .int 0, .int 13, .bl true, .non, .str (Str.ofString (toString n)), .int (-n)])) := Same.new f21
        have h21 : upd H20 l21 (.lst [.int (n + 1), .int (n - 1), .int 0, .int 13, .bl true, .non, .str (Str.ofString (toString n)), .int (-n)]) l21 = some (.lst [.int (n + 1), .int (n - 1), .int 0, .int 13, .bl true, .non, .str (Str.ofString (toString n)), .int (-n)]) := upd_same
        have n21 : l21 ≠ p := (pu20.ne f21).symm
        generalize upd H20 l21 (.lst [.int (n + 1), .int (n - 1), .int 0, .int 13, .bl true, .non, .str (Str.ofString (toString n)), .int (-n)]) = H21 at z21 h21 ⊢
        refine ⟨_, rfl, p, 8, rfl, pu20.keep z21, by decide, by decide, fun r22 H22 r220 r221 pu22 s22 => ?_⟩
        obtain ⟨u0, d0, hu0, du0, ou0⟩ : ∃ u0 d0, ([.int (n + 1), .int (n - 1), .int 0, .int 13, .bl true, .non, .str (Str.ofString (toString n)), .int (-n)] : List V)[r22.toNat]? = some u0 ∧ (∀ (G : Hp) (P : Addr → Prop), DT G P u0 d0) ∧ OkL d0 := by
          have : r22.toNat = 0 ∨ r22.toNat = 1 ∨ r22.toNat = 2 ∨ r22.toNat = 3 ∨ r22.toNat = 4 ∨ r22.toNat = 5 ∨ r22.toNat = 6 ∨ r22.toNat = 7 := by omega
          rcases this with e | e | e | e | e | e | e | e <;> rw [e]
          · exact ⟨_, _, rfl, fun _ _ => .int _, intL (by omega)⟩
          · exact ⟨_, _, rfl, fun _ _ => .int _, intL (by omega)⟩
          · exact ⟨_, _, rfl, fun _ _ => .int _, intL (by decide)⟩
          · exact ⟨_, _, rfl, fun _ _ => .int _, intL (by decide)⟩
          · exact ⟨_, _, rfl, fun _ _ => .bl _, okl_flat (f0_bool _) (fun _ z => by cases z) (fun _ z => by cases z)⟩
          · exact ⟨_, _, rfl, fun _ _ => .non, okl_flat f0_none (fun _ z => by cases z) (fun _ z => by cases z)⟩
          · exact ⟨_, _, rfl, fun _ _ => .str _, (fit_str (i := n) (Nat.lt_of_lt_of_le (show n.natAbs < 100 by omega) (by decide))).mono (by decide), by unfold PyData.depth; omega, fun _ z => (by cases z), fun _ z => (by cases z)⟩
          · exact ⟨_, _, rfl, fun _ _ => .int _, intL (by omega)⟩
        refine ⟨l21, _, r22, u0, rfl, rfl, SqL.of (s22 _ _ n21 h21), at_refI r220 hu0, ?_⟩
        have q22 : SameX p H20 H22 := z21.x.trans s22
        obtain ⟨_, hp20⟩ := pu20.at
        have hls22 := q22 _ _ nsp hls20
        refine ⟨_, rfl, ls, _, _, 0, rfl, rfl, hls22, rfl, ?_⟩
        refine hD _ _ ⟨u0, d0, rfl, upd_same, du0, ou0, by rw [upd_ne nso.symm]; exact q22 _ _ nop hlo20, exs_put hls22 (xo20.keep (SameX.tups q22 hp20)), by rw [upd_ne nsc.symm]; exact q22 _ _ ncp hlc20, by rw [upd_ne nst.symm]; exact q22 _ _ ntp hlt20, exs_put hls22 (xt20.keep (SameX.tups q22 hp20)), by rw [upd_ne nsm.symm]; exact q22 _ _ nmp hlm20, (dus20.keep fun b ob hb e => by rw [upd_ne (pxs b hb)]; exact q22 _ _ (pxp b hb) e), pu22.upd nsp.symm⟩
      · exact hD _ _ ⟨.int n, .int n, rfl, hls20, fun _ _ => .int n, intL (by omega), hlo20, xo20, hlc20, hlt20, xt20, hlm20, dus20, pu20⟩
    clear hls20 hlo20 xo20 hlc20 hlt20 xt20 hlm20 dus20 pu20
    rintro σ H21 ⟨u0, d0, rfl, hls21, du0, ou0, hlo21, xo21, hlc21, hlt21, xt21, hlm21, dus21, pu21⟩
    obtain ⟨PZ, hPZ⟩ : ∃ PZ : Addr → Prop, PZ = fun b => b ≠ p ∧ b ≠ ls := ⟨_, rfl⟩
    have pz1 : ∀ b, PZ b → b ≠ p := fun b h => by rw [hPZ] at h; exact h.1
    have pz2 : ∀ b, PZ b → b ≠ ls := fun b h => by rw [hPZ] at h; exact h.2
    have pzI : ∀ b, b ≠ p → b ≠ ls → PZ b := fun b h1 h2 => by rw [hPZ]; exact ⟨h1, h2⟩
    have rowZ : ∀ {G : Hp} {ev : List V} {rr : List (Int × Int)}, Exs G ev rr → (∃ xs, G p = some (.lst xs)) → (∃ xs, G ls = some (.lst xs)) → DTs G PZ ev (rr.map fun e => PyData.tuple [.int e.1, .int e.2]) := fun x ⟨_, h1⟩ ⟨_, h2⟩ => x.dtP5 fun b zs e => pzI b (ne_of e h1 (by intro z; cases z)) (ne_of e h2 (by intro z; cases z))
    refine seq_byJ (t := tIfS _ _ _) (fun σ' H' => ∃ ec dc et' dt', σ' = [some (.ref a), some (.ref p), some (.int wy), some (.int n), some (.ref lo), some (.ref lm), some (.ref lt), some (.int mn), v8, some (.int at'), some (.ref ls), none, none, none, none] ∧ H' ls = some (.lst [u0, .ref lc, .ref lm, .ref lt]) ∧ H' lo = some (.lst eo) ∧ Exs H' eo row ∧ H' lc = some (.lst ec) ∧ DTs H' PZ ec dc ∧ (∀ d ∈ dc, OkE d) ∧ dc.length ≤ 401 ∧ H' lt = some (.lst et') ∧ DTs H' PZ et' dt' ∧ (∀ d ∈ dt', OkE d) ∧ dt'.length ≤ 401 ∧ H' lm = some (.lst us) ∧ DTs H' PZ us mds ∧ Pool H' p) (fun D' hD => ?_) ?_
    · have base : ∀ {G : Hp}, SameX p H21 G → Pool G p → D'.nx [some (.ref a), some (.ref p), some (.int wy), some (.int n), some (.ref lo), some (.ref lm), some (.ref lt), some (.int mn), v8, some (.int at'), some (.ref ls), none, none, none, none] G := fun {G} q pu => by
        obtain ⟨_, hp21⟩ := pu21.at
        have hg := q _ _ nsp hls21
        refine hD _ _ ⟨eo, _, et, _, rfl, hg, q _ _ nop hlo21, xo21.keep (SameX.tups q hp21), q _ _ ncp hlc21, rowZ (xo21.keep (SameX.tups q hp21)) pu.at ⟨_, hg⟩, rtd _ gr, by rw [List.length_map]; omega, q _ _ ntp hlt21, rowZ (xt21.keep (SameX.tups q hp21)) pu.at ⟨_, hg⟩, rtd _ gt, by rw [List.length_map]; omega, q _ _ nmp hlm21, (dus21.keep fun b ob hb e => q _ _ (pxp b hb) e).imp fun b hb => pzI b (pxp b hb) (pxs b hb), pu⟩
      refine ifB (decide (wy = 8) && decide (at' < (eo.length : Int))) (fun kk hk => ?_) (fun c => ?_) (fun c => ?_)
      · refine ⟨_, rfl, rfl, _, rfl, ?_⟩
        have ew : decide (V.int wy = V.int 8) = decide (wy = 8) := by rw [Bool.eq_iff_iff, decide_eq_true_eq, decide_eq_true_eq]; exact ⟨fun z => V.int.inj z, fun z => by rw [z]⟩
        rw [ew]
        cases c1 : decide (wy = 8) with
        | false => rw [c1] at hk; exact iteF hk
        | true =>
          rw [c1, Bool.true_and] at hk
          exact iteT ⟨_, rfl, _, rfl, lo, _, rfl, .inl (SqL.of hlo21), _, _, rfl, rfl, _, rfl, hk⟩
      · obtain ⟨c1, c2⟩ := Bool.and_eq_true_iff.mp c
        have c1 := of_decide_eq_true c1
        have c2 := of_decide_eq_true c2
        have hP21 : ∀ x, H21 x = none → x ≠ p ∧ x ≠ ls ∧ x ≠ lc ∧ x ≠ lt := fun x hx => ⟨(pu21.ne hx).symm, (ne_of_none hls21 hx).symm, (ne_of_none hlc21 hx).symm, (ne_of_none hlt21 hx).symm⟩
        refine ⟨_, rfl, two, fun t1 f1 => ?_⟩
        obtain ⟨A1, S1⟩ := acc_tup hP21 (Same.refl _) .nil f1 (.cons (.int 1) (.cons (.int n) .nil))
        generalize upd H21 t1 (.tup [.int 1, .int n]) = J1 at A1 S1 ⊢
        refine ⟨two, fun t2 f2 => ?_⟩
        obtain ⟨A2, S2⟩ := acc_tup hP21 S1 A1 f2 (.cons (.int 2) (.cons (.int 1) .nil))
        generalize upd J1 t2 (.tup [.int 2, .int 1]) = J2 at A2 S2 ⊢
        refine ⟨two, fun t3 f3 => ?_⟩
        obtain ⟨A3, S3⟩ := acc_lst hP21 S2 A2 f3 (.cons (.int 1) (.cons (.int 2) .nil))
        generalize upd J2 t3 (.lst [.int 1, .int 2]) = J3 at A3 S3 ⊢
        refine ⟨_, rfl, _, _, rfl, rfl, two, fun t4 f4 => ?_⟩
        obtain ⟨A4, S4⟩ := acc_tup hP21 S3 A3 f4 (.cons (.int 1) (.cons (.int (n + 1)) .nil))
        generalize upd J3 t4 (.tup [.int 1, .int (n + 1)]) = J4 at A4 S4 ⊢
        have A5 := A4.snoc DT.non
        refine ⟨(by show 5 ≤ sizeLine; decide), fun l5 f5 => ?_⟩
        have z5 : Same J4 (upd J4 l5 (.lst [.ref t1, .ref t2, .ref t3, .ref t4, .non])) := Same.new f5
        have h5 : upd J4 l5 (.lst [.ref t1, .ref t2, .ref t3, .ref t4, .non]) l5 = some (.lst [.ref t1, .ref t2, .ref t3, .ref t4, .non]) := upd_same
        have n5 : l5 ≠ p := (hP21 _ (S4.free f5)).1
        have A6 := DTs.same A5 z5
        have S6 := S4.trans z5
        generalize upd J4 l5 (.lst [.ref t1, .ref t2, .ref t3, .ref t4, .non]) = J5 at A6 S6 h5 ⊢
        refine ⟨_, rfl, p, 5, rfl, pu21.keep S6, by decide, by decide, fun r6 J6 r60 r61 pu6 s6 => ?_⟩
        obtain ⟨xv, hxv⟩ : ∃ v, ([.ref t1, .ref t2, .ref t3, .ref t4, .non] : List V)[r6.toNat]? = some v := ⟨_, List.getElem?_eq_getElem (by show r6.toNat < 5; omega)⟩
        refine ⟨l5, _, r6, xv, rfl, rfl, SqL.of (s6 _ _ n5 h5), at_refI r60 hxv, ?_⟩
        obtain ⟨xd, hxd, dX⟩ := (A6.keep fun b ob hb e => s6 b ob hb.1 e).get hxv
        have oX : OkE xd := by
          have sm : ∀ {x : Int}, 0 ≤ x → x ≤ 13 → Fit 10 (.int x) ∧ (PyData.int x).depth ≤ 0 := fun h1 h2 => f0_int (by omega)
          have : r6.toNat = 0 ∨ r6.toNat = 1 ∨ r6.toNat = 2 ∨ r6.toNat = 3 ∨ r6.toNat = 4 := by omega
          rcases this with e | e | e | e | e <;> rw [e] at hxd <;> injection hxd with hxd <;> subst hxd
          · exact oke_tup (all2 (sm (by decide) (by decide)) (sm (by omega) (by omega))) (by show 2 ≤ 3; decide)
          · exact oke_tup (all2 (sm (by decide) (by decide)) (sm (by decide) (by decide))) (by show 2 ≤ 3; decide)
          · exact oke_lst (all2 (sm (by decide) (by decide)) (sm (by decide) (by decide))) (by show 2 ≤ 3; decide)
          · exact oke_tup (all2 (sm (by decide) (by decide)) (sm (by omega) (by omega))) (by show 2 ≤ 3; decide)
          · exact oke_of f0_none
        have q6 : SameX p H21 J6 := S6.x.trans s6
        refine ⟨_, rfl, _, rfl, p, 2, rfl, pu6, by decide, by decide, fun r7 J7 r70 r71 pu7 s7 => ?_⟩
        have q7 := q6.trans s7
        obtain ⟨_, hp21⟩ := pu21.at
        have hls7 := q7 _ _ nsp hls21
        have hlo7 := q7 _ _ nop hlo21
        have hlc7 := q7 _ _ ncp hlc21
        have hlt7 := q7 _ _ ntp hlt21
        have hlm7 := q7 _ _ nmp hlm21
        have xo7 := xo21.keep (SameX.tups q7 hp21)
        have xt7 := xt21.keep (SameX.tups q7 hp21)
        have dX7 := dX.keep fun b ob hb e => s7 b ob hb.1 e
        have dus7 : DTs J7 PX us mds := dus21.keep fun b ob hb e => q7 _ _ (pxp b hb) e
        have setOk : ∀ {rr : List (Int × Int)}, Good n rr → ∀ d ∈ (rr.map fun e => PyData.tuple [.int e.1, .int e.2]).set at'.toNat xd, OkE d := fun g d hd => by
          rcases List.mem_or_eq_of_mem_set hd with hd | rfl
          · exact rtd _ g d hd
          · exact oX
        refine ⟨_, _, rfl, rfl, .inl ⟨by decide, by decide⟩, _, _, rfl, rfl, ?_⟩
        have rc : r7 = 0 ∨ r7 = 1 := by omega
        rcases rc with rfl | rfl
        · refine ⟨ls, _, _, .ref lc, rfl, rfl, SqL.of hls7, rfl, _, rfl, lc, _, _, at'.toNat, rfl, rfl, hlc7, ixN_lt a0 (by omega), ?_⟩
          have kc : ∀ {evs : List V} {dds : List PyData} {PP : Addr → Prop}, (∀ b, PP b → b ≠ lc) → DTs J7 PP evs dds → DTs (upd J7 lc (.lst (eo.set at'.toNat xv))) PP evs dds := fun hh h => h.keep fun b ob hb e => by rw [upd_ne (hh b hb)]; exact e
          have hls8 : upd J7 lc (.lst (eo.set at'.toNat xv)) ls = some (.lst [u0, .ref lc, .ref lm, .ref lt]) := by rw [upd_ne nsc]; exact hls7
          have pu8' := pu7.upd ncp.symm (o := .lst (eo.set at'.toNat xv))
          refine hD _ _ ⟨_, _, et, _, rfl, hls8, by rw [upd_ne nco.symm]; exact hlo7, exs_put hlc7 xo7, upd_same, (rowZ (exs_put hlc7 xo7) pu8'.at ⟨_, hls8⟩).setP at'.toNat ((dX7.keep fun b ob hb e => by rw [upd_ne hb.2.2.1]; exact e).imp fun b hb => pzI b hb.1 hb.2.1), setOk gr, by rw [List.length_set, List.length_map]; omega, by rw [upd_ne nct.symm]; exact hlt7, rowZ (exs_put hlc7 xt7) pu8'.at ⟨_, hls8⟩, rtd _ gt, by rw [List.length_map]; omega, by rw [upd_ne ncm.symm]; exact hlm7, (kc pxc dus7).imp fun b hb => pzI b (pxp b hb) (pxs b hb), pu8'⟩
        · refine ⟨ls, _, _, .ref lt, rfl, rfl, SqL.of hls7, rfl, _, rfl, lt, _, _, at'.toNat, rfl, rfl, hlt7, ixN_lt a0 (by omega), ?_⟩
          have kc : ∀ {evs : List V} {dds : List PyData} {PP : Addr → Prop}, (∀ b, PP b → b ≠ lt) → DTs J7 PP evs dds → DTs (upd J7 lt (.lst (et.set at'.toNat xv))) PP evs dds := fun hh h => h.keep fun b ob hb e => by rw [upd_ne (hh b hb)]; exact e
          have hls8 : upd J7 lt (.lst (et.set at'.toNat xv)) ls = some (.lst [u0, .ref lc, .ref lm, .ref lt]) := by rw [upd_ne nst]; exact hls7
          have pu8' := pu7.upd ntp.symm (o := .lst (et.set at'.toNat xv))
          refine hD _ _ ⟨eo, _, _, _, rfl, hls8, by rw [upd_ne nto.symm]; exact hlo7, exs_put hlt7 xo7, by rw [upd_ne nct]; exact hlc7, rowZ (exs_put hlt7 xo7) pu8'.at ⟨_, hls8⟩, rtd _ gr, by rw [List.length_map]; omega, upd_same, (rowZ (exs_put hlt7 xt7) pu8'.at ⟨_, hls8⟩).setP at'.toNat ((dX7.keep fun b ob hb e => by rw [upd_ne hb.2.2.2]; exact e).imp fun b hb => pzI b hb.1 hb.2.1), setOk gt, by rw [List.length_set, List.length_map]; omega, by rw [upd_ne nmt]; exact hlm7, (kc (pxt (by omega)) dus7).imp fun b hb => pzI b (pxp b hb) (pxs b hb), pu8'⟩
      · exact base (SameX.refl _ _) pu21
    clear hls21 hlo21 xo21 hlc21 hlt21 xt21 hlm21 dus21 pu21
    rintro σ H22 ⟨ec, dc, et', dt', rfl, hls22, hlo22, xo22, hlc22, dc22, odc, ldc, hlt22, dt22, odt, ldt, hlm22, dus22, pu22⟩
    refine seq_byJ (t := tIfS _ _ _) (fun σ' H' => ∃ us4 ds4, σ' = [some (.ref a), some (.ref p), some (.int wy), some (.int n), some (.ref lo), some (.ref lm), some (.ref lt), some (.int mn), v8, some (.int at'), some (.ref ls), none, none, none, none] ∧ H' ls = some (.lst us4) ∧ DTs H' PZ us4 ds4 ∧ (∀ d ∈ ds4, OkL d) ∧ us4.length = 4 ∧ H' lo = some (.lst eo) ∧ Exs H' eo row ∧ Pool H' p) (fun D' hD => ?_) ?_
    · have dls : DTs H22 PZ [u0, .ref lc, .ref lm, .ref lt] [d0, .list dc, .list mds, .list dt'] := .cons (du0 _ _) (.cons (.lst hlc22 (pzI _ ncp nsc.symm) dc22) (.cons (.lst hlm22 (pzI _ nmp nsm.symm) dus22) (.cons (.lst hlt22 (pzI _ ntp nst.symm) dt22) .nil)))
      have okls : ∀ d ∈ [d0, .list dc, .list mds, .list dt'], OkL d := fun d hd => by
        rcases List.mem_cons.mp hd with rfl | hd
        · exact ou0
        · exact all3 (okl_lst odc (by omega)) (okl_lst okm (by omega)) (okl_lst odt (by omega)) d hd
      refine ⟨_, rfl, rfl, _, rfl, ite2 (fun c => ?_) (fun c => ?_)⟩
      · have hP22 : ∀ x, H22 x = none → PZ x := fun x hx => pzI x (pu22.ne hx).symm (ne_of_none hls22 hx).symm
        refine ⟨_, rfl, lo, _, rfl, .inl ⟨SqL.of hlo22, fun t1 f1 => ?_⟩⟩
        have dro : DTs H22 PZ eo (row.map fun e => PyData.tuple [.int e.1, .int e.2]) := rowZ xo22 pu22.at ⟨_, hls22⟩
        obtain ⟨A1, S1⟩ := acc_tup hP22 (Same.refl _) (.cons DT.non .nil) f1 dro
        generalize upd H22 t1 (.tup eo) = J1 at A1 S1 ⊢
        refine ⟨_, rfl, lm, _, rfl, .inl ⟨SqL.of (S1 _ _ hlm22), fun t2 f2 => ?_⟩⟩
        obtain ⟨A2, S2⟩ := acc_tup hP22 S1 A1 f2 (DTs.same dus22 S1)
        generalize upd J1 t2 (.tup us) = J2 at A2 S2 ⊢
        refine ⟨by decide, fun t3 f3 => ?_⟩
        obtain ⟨A3, S3⟩ := acc_tup hP22 S2 A2 f3 .nil
        generalize upd J2 t3 (.tup []) = J3 at A3 S3 ⊢
        have A4 := (A3.snoc (.str "none")).snoc (.int 0)
        refine ⟨(by show 6 ≤ sizeLine; decide), fun l5 f5 => ?_⟩
        have z5 : Same J3 (upd J3 l5 (.lst [.non, .ref t1, .ref t2, .ref t3, .str "none", .int 0])) := Same.new f5
        have h5 : upd J3 l5 (.lst [.non, .ref t1, .ref t2, .ref t3, .str "none", .int 0]) l5 = some (.lst [.non, .ref t1, .ref t2, .ref t3, .str "none", .int 0]) := upd_same
        have n5 : l5 ≠ p := pz1 _ (hP22 _ (S3.free f5))
        have A6 := DTs.same A4 z5
        have S6 := S3.trans z5
        generalize upd J3 l5 (.lst [.non, .ref t1, .ref t2, .ref t3, .str "none", .int 0]) = J5 at A6 S6 h5 ⊢
        refine ⟨_, rfl, p, 6, rfl, pu22.keep S6, by decide, by decide, fun r6 J6 r60 r61 pu6 s6 => ?_⟩
        obtain ⟨xv, hxv⟩ : ∃ v, ([.non, .ref t1, .ref t2, .ref t3, .str "none", .int 0] : List V)[r6.toNat]? = some v := ⟨_, List.getElem?_eq_getElem (by show r6.toNat < 6; omega)⟩
        refine ⟨l5, _, r6, xv, rfl, rfl, SqL.of (s6 _ _ n5 h5), at_refI r60 hxv, ?_⟩
        obtain ⟨xd, hxd, dX⟩ := (A6.keep fun b ob hb e => s6 b ob (pz1 b hb) e).get hxv
        have oX : OkL xd := by
          have : r6.toNat = 0 ∨ r6.toNat = 1 ∨ r6.toNat = 2 ∨ r6.toNat = 3 ∨ r6.toNat = 4 ∨ r6.toNat = 5 := by omega
          rcases this with e | e | e | e | e | e <;> rw [e] at hxd <;> injection hxd with hxd <;> subst hxd
          · exact okl_flat f0_none (fun _ z => by cases z) (fun _ z => by cases z)
          · exact okl_tup (rtd _ gr) (by rw [List.length_map]; omega)
          · exact okl_tup okm (by omega)
          · exact okl_tup (fun d hd => by cases hd) (by show 0 ≤ 402; decide)
          · exact okl_flat (f0_str (by decide +kernel)) (fun _ z => by cases z) (fun _ z => by cases z)
          · exact okl_flat (f0_int (by decide)) (fun _ z => by cases z) (fun _ z => by cases z)
        have q6 : SameX p H22 J6 := S6.x.trans s6
        refine ⟨_, rfl, _, rfl, p, 3, rfl, pu6, by decide, by decide, fun r7 J7 r70 r71 pu7 s7 => ?_⟩
        have q7 := q6.trans s7
        obtain ⟨_, hp22⟩ := pu22.at
        have hls7 := q7 _ _ nsp hls22
        have dX7 := dX.keep fun b ob hb e => s7 b ob (pz1 b hb) e
        have dls7 : DTs J7 PZ _ _ := dls.keep fun b ob hb e => q7 _ _ (pz1 b hb) e
        refine ⟨_, _, rfl, rfl, ls, _, _, (1 + r7).toNat, rfl, rfl, hls7, ixN_lt (by omega) (by show 1 + r7 < 4; omega), ?_⟩
        refine hD _ _ ⟨_, _, rfl, upd_same, (dls7.setP (1 + r7).toNat dX7).keep fun b ob hb e => by rw [upd_ne (pz2 b hb)]; exact e, fun d hd => ?_, by rw [List.length_set]; rfl, by rw [upd_ne nso.symm]; exact q7 _ _ nop hlo22, exs_put hls7 (xo22.keep (SameX.tups q7 hp22)), pu7.upd nsp.symm⟩
        rcases List.mem_or_eq_of_mem_set hd with hd | rfl
        · exact okls d hd
        · exact oX
      · exact hD _ _ ⟨_, _, rfl, hls22, dls, okls, rfl, hlo22, xo22, pu22⟩
    clear hls22 hlo22 xo22 hlc22 dc22 hlt22 dt22 hlm22 dus22 pu22
    rintro σ H23 ⟨us4, ds4, rfl, hls23, d4, ok4, l4, hlo23, xo23, pu23⟩
    have d4l := d4.length
    match us4, ds4, d4, l4 with
    | [v0, v1, v2, v3], [e0, e1, e2, e3], .cons y0 (.cons y1 (.cons y2 (.cons y3 .nil))), _ =>
    have o0 := ok4 e0 (by simp)
    have o1 := ok4 e1 (by simp)
    have o2 := ok4 e2 (by simp)
    have o3 := ok4 e3 (by simp)
    refine ⟨_, rfl, ls, _, 0, _, rfl, rfl, SqL.of hls23, rfl, _, rfl, ls, _, 1, _, rfl, rfl, SqL.of hls23, rfl, _, rfl, ls, _, 2, _, rfl, rfl, SqL.of hls23, rfl, _, rfl, ls, _, 3, _, rfl, rfl, SqL.of hls23, rfl, v0, v1, v2, v3, PZ, e0, e1, e2, e3, rfl, y0, y1, y2, y3, o1.2.2, o2.2.2, o3.2.2, fun b H24 hb s24 => ?_⟩
    have hls24 := s24 _ _ hls23
    refine ⟨_, rfl, ls, _, 0, _, rfl, rfl, SqL.of hls24, rfl, _, rfl, ls, _, 1, _, rfl, rfl, SqL.of hls24, rfl, _, rfl, ls, _, 2, _, rfl, rfl, SqL.of hls24, rfl, _, rfl, ls, _, 3, _, rfl, rfl, SqL.of hls24, rfl, (by show 5 ≤ sizeLine; decide), fun tp ftp => ?_⟩
    have z25 : Same H24 (upd H24 tp (.tup [.str "walk", v0, v1, v2, v3])) := Same.new ftp
    have htp : upd H24 tp (.tup [.str "walk", v0, v1, v2, v3]) tp = some (.tup [.str "walk", v0, v1, v2, v3]) := upd_same
    have pu24 := pu23.keep s24
    have ptp : PZ tp := pzI tp (pu24.ne ftp).symm (ne_of_none hls24 ftp).symm
    generalize upd H24 tp (.tup [.str "walk", v0, v1, v2, v3]) = H25 at z25 htp ⊢
    have s25 := s24.trans z25
    have t0 := DT.same y0 s25
    have t1 := DT.same y1 s25
    have t2 := DT.same y2 s25
    have t3 := DT.same y3 s25
    have pu25 := pu23.keep s25
    have hlo25 := s25 _ _ hlo23
    have hls25 := s25 _ _ hls23
    have dlo25 : DT H25 PZ (.ref lo) (.list (row.map fun e => PyData.tuple [.int e.1, .int e.2])) := .lst hlo25 (pzI lo nop nso.symm) (rowZ (xo23.keep (Same.tups s25)) pu25.at ⟨_, hls25⟩)
    have olo := okl_lst (rtd _ gr) (by rw [List.length_map]; omega)
    have fw : ∀ {x : Str}, Fit 10 (.str x) ∧ (PyData.str x).depth ≤ 0 → Fit 14000 (.str x) ∧ (PyData.str x).depth ≤ 3 := fun h => ⟨h.1.mono (by decide), by omega⟩
    have f0 : Fit 14000 e0 ∧ e0.depth ≤ 3 := ⟨o0.1, o0.2.1⟩
    have f1 : Fit 14000 e1 ∧ e1.depth ≤ 3 := ⟨o1.1, o1.2.1⟩
    have f2 : Fit 14000 e2 ∧ e2.depth ≤ 3 := ⟨o2.1, o2.2.1⟩
    have f3 : Fit 14000 e3 ∧ e3.depth ≤ 3 := ⟨o3.1, o3.2.1⟩
    have f4 : Fit 14000 (.list (row.map fun e => PyData.tuple [.int e.1, .int e.2])) ∧ _ := ⟨olo.1, olo.2.1⟩
    have fwalk := fw (x := "walk") (f0_str (by decide +kernel))
    have fWalk := fw (x := "Walk") (f0_str (by decide +kernel))
    have few : ∀ ds : List PyData, ds.length ≤ 6 → (14000 + 1) * ds.length ≤ 100000 := fun ds h => by omega
    refine gNJ ?_
    dsimp only
    refine seq_byJ (t := tIfS _ _ _) (fun σ' H' => ∃ pv d b', σ' = [some (.ref a), some (.ref p), some (.int wy), some (.int n), some (.ref lo), some (.ref lm), some (.ref lt), some (.int mn), v8, some (.int at'), some (.ref ls), some (.bl b'), some pv, none, none] ∧ DT H' PZ pv d ∧ Fit 100000 d ∧ (isPaper d = true → R65 d) ∧ (isPaper d && g65 d) = b') (fun D' hD => ?_) ?_
    · refine ⟨_, rfl, rfl, _, rfl, ite2 (fun c => ?_) (fun c => ?_)⟩
      · refine ⟨one, fun tw ftw => ?_⟩
        have hP25 : ∀ x, H25 x = none → PZ x := fun x hx => pzI x (pu25.ne hx).symm (ne_of_none hls25 hx).symm
        have zw : Same H25 (upd H25 tw (.tup [.str "Walk"])) := Same.new ftw
        have hw : upd H25 tw (.tup [.str "Walk"]) tw = some (.tup [.str "Walk"]) := upd_same
        generalize upd H25 tw (.tup [.str "Walk"]) = J1 at zw hw ⊢
        refine ⟨_, rfl, 1, rfl, ?_⟩
        unfold tNoPart
        refine ⟨tp, _, rfl, SqT.of (zw _ _ htp), (by show ¬ (1 = 0 ∧ _); omega), fun q1 fq1 => ?_⟩
        have zq : Same J1 (upd J1 q1 (.tup [v0, v1, v2, v3])) := Same.new fq1
        have hq1 : upd J1 q1 (.tup [v0, v1, v2, v3]) q1 = some (.tup [v0, v1, v2, v3]) := upd_same
        rw [show cutV [.str "walk", v0, v1, v2, v3] (some 1) none = [v0, v1, v2, v3] from rfl]
        generalize upd J1 q1 (.tup [v0, v1, v2, v3]) = J2 at zq hq1 ⊢
        refine ⟨tw, q1, _, _, rfl, rfl, SqT.of (zq _ _ hw), SqT.of hq1, (by intro z; cases z), (by show 1 + 4 ≤ sizeLine; decide), (fun z => by cases z), fun _ r1 fr1 => ?_⟩
        have S2 := zw.trans zq
        obtain ⟨A3, S3⟩ := acc_tup hP25 S2 .nil fr1 (.cons (.str "Walk") (.cons (DT.same t0 S2) (.cons (DT.same t1 S2) (.cons (DT.same t2 S2) (.cons (DT.same t3 S2) .nil)))))
        have er1 : ([V.str "Walk"] ++ [v0, v1, v2, v3]) = [.str "Walk", v0, v1, v2, v3] := rfl
        rw [er1]
        generalize upd J2 r1 (.tup [.str "Walk", v0, v1, v2, v3]) = J3 at A3 S3 ⊢
        refine ⟨_, rfl, 4, rfl, tp, _, rfl, SqT.of (S3 _ _ htp), (by show ¬ (_ ∧ 4 = 5); omega), fun q2 fq2 => ?_⟩
        rw [show cutV [.str "walk", v0, v1, v2, v3] none (some 4) = [.str "walk", v0, v1, v2] from rfl]
        obtain ⟨A4, S4⟩ := acc_tup hP25 S3 A3 fq2 (.cons (.str "walk") (.cons (DT.same t0 S3) (.cons (DT.same t1 S3) (.cons (DT.same t2 S3) .nil))))
        generalize upd J3 q2 (.tup [.str "walk", v0, v1, v2]) = J4 at A4 S4 ⊢
        refine ⟨_, rfl, _, rfl, one, fun to fto => ?_⟩
        have z5 : Same J4 (upd J4 to (.tup [.ref lo])) := Same.new fto
        have h5 : upd J4 to (.tup [.ref lo]) to = some (.tup [.ref lo]) := upd_same
        generalize upd J4 to (.tup [.ref lo]) = J5 at z5 h5 ⊢
        have S5 := S4.trans z5
        refine ⟨tp, to, _, _, rfl, rfl, SqT.of (S5 _ _ htp), SqT.of h5, (by intro z; cases z), (by show 5 + 1 ≤ sizeLine; decide), (fun z => by cases z), fun _ r2 fr2 => ?_⟩
        have er2 : ([V.str "walk", v0, v1, v2, v3] ++ [.ref lo]) = [.str "walk", v0, v1, v2, v3, .ref lo] := rfl
        rw [er2]
        obtain ⟨A6, S6⟩ := acc_tup hP25 S5 (DTs.same A4 z5) fr2 (.cons (.str "walk") (.cons (DT.same t0 S5) (.cons (DT.same t1 S5) (.cons (DT.same t2 S5) (.cons (DT.same t3 S5) (.cons (DT.same dlo25 S5) .nil))))))
        generalize upd J5 r2 (.tup [.str "walk", v0, v1, v2, v3, .ref lo]) = J6 at A6 S6 ⊢
        refine ⟨_, rfl, tp, _, rfl, .inr (SqT.of (S6 _ _ htp)), fun r3 fr3 => ?_⟩
        obtain ⟨A7, S7⟩ := acc_lst hP25 S6 A6 fr3 (.cons (.str "walk") (.cons (DT.same t0 S6) (.cons (DT.same t1 S6) (.cons (DT.same t2 S6) (.cons (DT.same t3 S6) .nil)))))
        generalize upd J6 r3 (.lst [.str "walk", v0, v1, v2, v3]) = J7 at A7 S7 ⊢
        refine ⟨(by show 4 ≤ sizeLine; decide), fun l8 f8 => ?_⟩
        have z8 : Same J7 (upd J7 l8 (.lst [.ref r1, .ref q2, .ref r2, .ref r3])) := Same.new f8
        have h8 : upd J7 l8 (.lst [.ref r1, .ref q2, .ref r2, .ref r3]) l8 = some (.lst [.ref r1, .ref q2, .ref r2, .ref r3]) := upd_same
        have n8 : l8 ≠ p := pz1 _ (hP25 _ (S7.free f8))
        have A8 := DTs.same A7 z8
        have S8 := S7.trans z8
        generalize upd J7 l8 (.lst [.ref r1, .ref q2, .ref r2, .ref r3]) = J8 at A8 S8 h8 ⊢
        refine ⟨_, rfl, p, 4, rfl, pu25.keep S8, by decide, by decide, fun r9 J9 r90 r91 pu9 s9 => ?_⟩
        obtain ⟨u, hu⟩ : ∃ v, ([.ref r1, .ref q2, .ref r2, .ref r3] : List V)[r9.toNat]? = some v := ⟨_, List.getElem?_eq_getElem (by show r9.toNat < 4; omega)⟩
        refine ⟨l8, _, r9, u, rfl, rfl, SqL.of (s9 _ _ n8 h8), at_refI r90 hu, ?_⟩
        obtain ⟨d, hd, hdt⟩ := (A8.keep fun b ob hb e => s9 b ob (pz1 b hb) e).get hu
        have fin : ∀ {d : PyData}, DT J9 PZ u d → Fit 100000 d → isPaper d = false → D'.nx [some (.ref a), some (.ref p), some (.int wy), some (.int n), some (.ref lo), some (.ref lm), some (.ref lt), some (.int mn), v8, some (.int at'), some (.ref ls), some (.bl false), some u, none, none] J9 := fun {d} h1 h2 h3 => hD _ _ ⟨u, d, false, rfl, h1, h2, (fun z => (by rw [h3] at z; cases z)), (by rw [h3]; rfl)⟩
        have w5 : numOf partsP "walk" = some 5 := by decide +kernel
        have nlen : ∀ (ds : List PyData), ds.length ≠ 4 → isPaper (.tuple (.str "walk" :: ds)) = false := fun ds h => decide_eq_false (by rw [w5]; intro z; have := Option.some.inj z; omega)
        have W5 : numOf partsP "Walk" = none := by decide +kernel
        have noW : ∀ (ds : List PyData), isPaper (.tuple (.str "Walk" :: ds)) = false := fun ds => nop5 W5 ds
        have qq : ∀ d ∈ [e1, e2, e3], Fit 14000 d ∧ d.depth ≤ 3 := all3 (Q := fun d => Fit 14000 d ∧ d.depth ≤ 3) f1 f2 f3
        have c4 : r9.toNat = 0 ∨ r9.toNat = 1 ∨ r9.toNat = 2 ∨ r9.toNat = 3 := by omega
        rcases c4 with e | e | e | e <;> rw [e] at hd <;> injection hd with hd <;> subst hd
        · refine fin hdt ((fit_tuple (k := 3) (by decide) (fun d hd => ?_)).1.mono (few _ (by show 5 ≤ 6; decide))) (noW _)
          rcases List.mem_cons.mp hd with rfl | hd
          · exact fWalk
          · rcases List.mem_cons.mp hd with rfl | hd
            · exact f0
            · exact qq d hd
        · refine fin hdt ((fit_tuple (k := 3) (by decide) (fun d hd => ?_)).1.mono (few _ (by show 4 ≤ 6; decide))) (nlen _ (by show 3 ≠ 4; decide))
          rcases List.mem_cons.mp hd with rfl | hd
          · exact fwalk
          · exact all3 (Q := fun d => Fit 14000 d ∧ d.depth ≤ 3) f0 f1 f2 d hd
        · refine fin hdt ((fit_tuple (k := 3) (by decide) (fun d hd => ?_)).1.mono (few _ (by show 6 ≤ 6; decide))) (nlen _ (by show 5 ≠ 4; decide))
          rcases List.mem_cons.mp hd with rfl | hd
          · exact fwalk
          · rcases List.mem_cons.mp hd with rfl | hd
            · exact f0
            · rcases List.mem_cons.mp hd with rfl | hd
              · exact f1
              · exact all3 (Q := fun d => Fit 14000 d ∧ d.depth ≤ 3) f2 f3 f4 d hd
        · refine fin hdt ((fit_list (k := 3) (by decide) (fun d hd => ?_)).1.mono (few _ (by show 5 ≤ 6; decide))) rfl
          rcases List.mem_cons.mp hd with rfl | hd
          · exact fwalk
          · rcases List.mem_cons.mp hd with rfl | hd
            · exact f0
            · exact qq d hd
      · refine hD _ _ ⟨.ref tp, .tuple [.str "walk", e0, e1, e2, e3], b, rfl, .tup htp ptp (.cons (.str _) (.cons t0 (.cons t1 (.cons t2 (.cons t3 .nil))))), (fit_tuple (k := 3) (by decide) (fun d hd => ?_)).1.mono (few _ (by show 5 ≤ 6; decide)), fun _ => ⟨e0, e1, e2, e3, rfl, o1.2.2, o2.2.2, o3.2.2⟩, ?_⟩
        · rcases List.mem_cons.mp hd with rfl | hd
          · exact fwalk
          · rcases List.mem_cons.mp hd with rfl | hd
            · exact f0
            · exact all3 (Q := fun d => Fit 14000 d ∧ d.depth ≤ 3) f1 f2 f3 d hd
        · have ip : isPaper (.tuple [.str "walk", e0, e1, e2, e3]) = true := decide_eq_true (show numOf partsP "walk" = some 5 by decide +kernel)
          rw [ip, Bool.true_and]
          unfold g65
          rw [Bool.eq_iff_iff, @decide_eq_true_eq _ (Classical.propDecidable _)]
          exact hb.symm
    rintro σ H26 ⟨pv, d, b', rfl, dt, ft', hR, hg⟩
    refine ⟨_, rfl, pv, _, d, 100000, rfl, dt.dat, ft', Nat.le_refl _, ?_⟩
    refine ⟨_, rfl, pv, _, d, rfl, dt, hR, fun H27 s27 => ?_⟩
    rw [hg]
    refine ⟨_, rfl, _, _, "bool", _, rfl, (DT.bl (H := H27) (P := fun _ => True) b').ty, kit_self _ _, true, rfl, iteT ?_⟩
    refine ⟨_, rfl, _, rfl, rfl, _, rfl, iteP (decide_eq_true rfl) ?_⟩
    refine ⟨_, rfl, pv, _, d, 100000, rfl, (DT.same dt s27).dat, ft', Nat.le_refl _, _, rfl, rfl, ?_⟩
    rw [decide_eq_true rfl]
    exact k H27
end
end Sw
namespace Sw
open PySem L2
theorem all_mk {l : PySem.W.OpenLaw} {w : World} {K : PySem.W.Frag} {h : Heap} {mg : Str → Option Value} {fa : Addr} {tk_MOST_THINGS tk_MOST_EXCHANGES : Tok} {U UU : Addr} {tc0 td0 tc1 td1 : Tok} {ep2 : Nat} {ta0 tb0 ta1 tb1 ta2 tb2 ta3 tb3 ta4 tb4 ta5 tb5 : Tok} {ep : Nat} (X : K.In h) (G : h.Ns mainGlobals mg) (hfa : mg "law" = some (.ref fa))
    {f0 : Addr} {od0 an0 : Option Addr} {sl0 : Array (Option Value)} {oc0 kV0 dc0 pm0 cd0 ct0 : Value}
    {f1 : Addr} {od1 an1 : Option Addr} {sl1 : Array (Option Value)} {oc1 kV1 dc1 pm1 cd1 ct1 : Value}
    {f2 : Addr} {od2 an2 : Option Addr} {sl2 : Array (Option Value)} {oc2 kV2 dc2 pm2 cd2 ct2 : Value}
    {f3 : Addr} {od3 an3 : Option Addr} {sl3 : Array (Option Value)} {oc3 kV3 dc3 pm3 cd3 ct3 : Value}
    {f4 : Addr} {od4 an4 : Option Addr} {sl4 : Array (Option Value)} {oc4 kV4 dc4 pm4 cd4 ct4 : Value}
    {f5 : Addr} {od5 an5 : Option Addr} {sl5 : Array (Option Value)} {oc5 kV5 dc5 pm5 cd5 ct5 : Value}
    {f6 : Addr} {od6 an6 : Option Addr} {sl6 : Array (Option Value)} {oc6 kV6 dc6 pm6 cd6 ct6 : Value}
    {f7 : Addr} {od7 an7 : Option Addr} {sl7 : Array (Option Value)} {oc7 kV7 dc7 pm7 cd7 ct7 : Value}
    {f8 : Addr} {od8 an8 : Option Addr} {sl8 : Array (Option Value)} {oc8 kV8 dc8 pm8 cd8 ct8 : Value}
    {f9 : Addr} {od9 an9 : Option Addr} {sl9 : Array (Option Value)} {oc9 kV9 dc9 pm9 cd9 ct9 : Value}
    {f10 : Addr} {od10 an10 : Option Addr} {sl10 : Array (Option Value)} {oc10 kV10 dc10 pm10 cd10 ct10 : Value}
    {f11 : Addr} {od11 an11 : Option Addr} {sl11 : Array (Option Value)} {oc11 kV11 dc11 pm11 cd11 ct11 : Value}
    {f12 : Addr} {od12 an12 : Option Addr} {sl12 : Array (Option Value)} {oc12 kV12 dc12 pm12 cd12 ct12 : Value}
    {f13 : Addr} {od13 an13 : Option Addr} {sl13 : Array (Option Value)} {oc13 kV13 dc13 pm13 cd13 ct13 : Value}
    {f14 : Addr} {od14 an14 : Option Addr} {sl14 : Array (Option Value)} {oc14 kV14 dc14 pm14 cd14 ct14 : Value}
    {f15 : Addr} {od15 an15 : Option Addr} {sl15 : Array (Option Value)} {oc15 kV15 dc15 pm15 cd15 ct15 : Value}
    {f16 : Addr} {od16 an16 : Option Addr} {sl16 : Array (Option Value)} {oc16 kV16 dc16 pm16 cd16 ct16 : Value}
    {f17 : Addr} {od17 an17 : Option Addr} {sl17 : Array (Option Value)} {oc17 kV17 dc17 pm17 cd17 ct17 : Value}
    {f18 : Addr} {od18 an18 : Option Addr} {sl18 : Array (Option Value)} {oc18 kV18 dc18 pm18 cd18 ct18 : Value}
    {f19 : Addr} {od19 an19 : Option Addr} {sl19 : Array (Option Value)} {oc19 kV19 dc19 pm19 cd19 ct19 : Value}
    {f20 : Addr} {od20 an20 : Option Addr} {sl20 : Array (Option Value)} {oc20 kV20 dc20 pm20 cd20 ct20 : Value}
    {f21 : Addr} {od21 an21 : Option Addr} {sl21 : Array (Option Value)} {oc21 kV21 dc21 pm21 cd21 ct21 : Value}
    {f22 : Addr} {od22 an22 : Option Addr} {sl22 : Array (Option Value)} {oc22 kV22 dc22 pm22 cd22 ct22 : Value}
    {f23 : Addr} {od23 an23 : Option Addr} {sl23 : Array (Option Value)} {oc23 kV23 dc23 pm23 cd23 ct23 : Value}
    {f24 : Addr} {od24 an24 : Option Addr} {sl24 : Array (Option Value)} {oc24 kV24 dc24 pm24 cd24 ct24 : Value}
    {f25 : Addr} {od25 an25 : Option Addr} {sl25 : Array (Option Value)} {oc25 kV25 dc25 pm25 cd25 ct25 : Value}
    {f26 : Addr} {od26 an26 : Option Addr} {sl26 : Array (Option Value)} {oc26 kV26 dc26 pm26 cd26 ct26 : Value}
    {f27 : Addr} {od27 an27 : Option Addr} {sl27 : Array (Option Value)} {oc27 kV27 dc27 pm27 cd27 ct27 : Value}
    {f28 : Addr} {od28 an28 : Option Addr} {sl28 : Array (Option Value)} {oc28 kV28 dc28 pm28 cd28 ct28 : Value}
    {f29 : Addr} {od29 an29 : Option Addr} {sl29 : Array (Option Value)} {oc29 kV29 dc29 pm29 cd29 ct29 : Value}
    {f30 : Addr} {od30 an30 : Option Addr} {sl30 : Array (Option Value)} {oc30 kV30 dc30 pm30 cd30 ct30 : Value}
    (a0 : PySem.W.nsIn K mainGlobals "is_whole" = some (some (.ref f0))) (l0 : K.lookup f0 = some ⟨oc0, od0, .func (PySem.W.fnOf "is_whole" "is_whole" (defArgs (top 6)) (defBody (top 6)) (defScope (top 6)) .none kV0 dc0 pm0 an0 cd0 ct0), sl0⟩) (c0 : PySem.W.codeIn K cd0 "is_whole" = true) (k0 : PySem.W.keepIn K (.ref f0) = true)
    (a1 : PySem.W.nsIn K mainGlobals "is_between" = some (some (.ref f1))) (l1 : K.lookup f1 = some ⟨oc1, od1, .func (PySem.W.fnOf "is_between" "is_between" (defArgs (top 7)) (defBody (top 7)) (defScope (top 7)) .none kV1 dc1 pm1 an1 cd1 ct1), sl1⟩) (c1 : PySem.W.codeIn K cd1 "is_between" = true) (k1 : PySem.W.keepIn K (.ref f1) = true)
    (a2 : PySem.W.nsIn K mainGlobals "is_exchange" = some (some (.ref f2))) (l2 : K.lookup f2 = some ⟨oc2, od2, .func (PySem.W.fnOf "is_exchange" "is_exchange" (defArgs (top 20)) (defBody (top 20)) (defScope (top 20)) .none kV2 dc2 pm2 an2 cd2 ct2), sl2⟩) (c2 : PySem.W.codeIn K cd2 "is_exchange" = true) (k2 : PySem.W.keepIn K (.ref f2) = true)
    (a3 : PySem.W.nsIn K mainGlobals "is_row" = some (some (.ref f3))) (l3 : K.lookup f3 = some ⟨oc3, od3, .func (PySem.W.fnOf "is_row" "is_row" (defArgs (top 21)) (defBody (top 21)) (defScope (top 21)) .none kV3 dc3 pm3 an3 cd3 ct3), sl3⟩) (c3 : PySem.W.codeIn K cd3 "is_row" = true) (k3 : PySem.W.keepIn K (.ref f3) = true)
    (a4 : PySem.W.nsIn K mainGlobals "exchanged" = some (some (.ref f4))) (l4 : K.lookup f4 = some ⟨oc4, od4, .func (PySem.W.fnOf "exchanged" "exchanged" (defArgs (top 22)) (defBody (top 22)) (defScope (top 22)) .none kV4 dc4 pm4 an4 cd4 ct4), sl4⟩) (c4 : PySem.W.codeIn K cd4 "exchanged" = true) (k4 : PySem.W.keepIn K (.ref f4) = true)
    (a5 : PySem.W.nsIn K mainGlobals "carried" = some (some (.ref f5))) (l5 : K.lookup f5 = some ⟨oc5, od5, .func (PySem.W.fnOf "carried" "carried" (defArgs (top 36)) (defBody (top 36)) (defScope (top 36)) .none kV5 dc5 pm5 an5 cd5 ct5), sl5⟩) (c5 : PySem.W.codeIn K cd5 "carried" = true) (k5 : PySem.W.keepIn K (.ref f5) = true)
    (a6 : PySem.W.nsIn K mainGlobals "moved" = some (some (.ref f6))) (l6 : K.lookup f6 = some ⟨oc6, od6, .func (PySem.W.fnOf "moved" "moved" (defArgs (top 37)) (defBody (top 37)) (defScope (top 37)) .none kV6 dc6 pm6 an6 cd6 ct6), sl6⟩) (c6 : PySem.W.codeIn K cd6 "moved" = true) (k6 : PySem.W.keepIn K (.ref f6) = true)
    (a7 : PySem.W.nsIn K mainGlobals "walked" = some (some (.ref f7))) (l7 : K.lookup f7 = some ⟨oc7, od7, .func (PySem.W.fnOf "walked" "walked" (defArgs (top 38)) (defBody (top 38)) (defScope (top 38)) .none kV7 dc7 pm7 an7 cd7 ct7), sl7⟩) (c7 : PySem.W.codeIn K cd7 "walked" = true) (k7 : PySem.W.keepIn K (.ref f7) = true)
    (a8 : PySem.W.nsIn K mainGlobals "row_holds" = some (some (.ref f8))) (l8 : K.lookup f8 = some ⟨oc8, od8, .func (PySem.W.fnOf "row_holds" "row_holds" (defArgs (top 52)) (defBody (top 52)) (defScope (top 52)) .none kV8 dc8 pm8 an8 cd8 ct8), sl8⟩) (c8 : PySem.W.codeIn K cd8 "row_holds" = true) (k8 : PySem.W.keepIn K (.ref f8) = true)
    (a9 : PySem.W.nsIn K mainGlobals "least_holds" = some (some (.ref f9))) (l9 : K.lookup f9 = some ⟨oc9, od9, .func (PySem.W.fnOf "least_holds" "least_holds" (defArgs (top 53)) (defBody (top 53)) (defScope (top 53)) .none kV9 dc9 pm9 an9 cd9 ct9), sl9⟩) (c9 : PySem.W.codeIn K cd9 "least_holds" = true) (k9 : PySem.W.keepIn K (.ref f9) = true)
    (a10 : PySem.W.nsIn K mainGlobals "is_move" = some (some (.ref f10))) (l10 : K.lookup f10 = some ⟨oc10, od10, .func (PySem.W.fnOf "is_move" "is_move" (defArgs (top 54)) (defBody (top 54)) (defScope (top 54)) .none kV10 dc10 pm10 an10 cd10 ct10), sl10⟩) (c10 : PySem.W.codeIn K cd10 "is_move" = true) (k10 : PySem.W.keepIn K (.ref f10) = true)
    (a11 : PySem.W.nsIn K mainGlobals "is_walk" = some (some (.ref f11))) (l11 : K.lookup f11 = some ⟨oc11, od11, .func (PySem.W.fnOf "is_walk" "is_walk" (defArgs (top 55)) (defBody (top 55)) (defScope (top 55)) .none kV11 dc11 pm11 an11 cd11 ct11), sl11⟩) (c11 : PySem.W.codeIn K cd11 "is_walk" = true) (k11 : PySem.W.keepIn K (.ref f11) = true)
    (a12 : PySem.W.nsIn K mainGlobals "walk_holds" = some (some (.ref f12))) (l12 : K.lookup f12 = some ⟨oc12, od12, .func (PySem.W.fnOf "walk_holds" "walk_holds" (defArgs (top 56)) (defBody (top 56)) (defScope (top 56)) .none kV12 dc12 pm12 an12 cd12 ct12), sl12⟩) (c12 : PySem.W.codeIn K cd12 "walk_holds" = true) (k12 : PySem.W.keepIn K (.ref f12) = true)
    (a13 : PySem.W.nsIn K mainGlobals "half_holds" = some (some (.ref f13))) (l13 : K.lookup f13 = some ⟨oc13, od13, .func (PySem.W.fnOf "half_holds" "half_holds" (defArgs (top 57)) (defBody (top 57)) (defScope (top 57)) .none kV13 dc13 pm13 an13 cd13 ct13), sl13⟩) (c13 : PySem.W.codeIn K cd13 "half_holds" = true) (k13 : PySem.W.keepIn K (.ref f13) = true)
    (a14 : PySem.W.nsIn K mainGlobals "chain_holds" = some (some (.ref f14))) (l14 : K.lookup f14 = some ⟨oc14, od14, .func (PySem.W.fnOf "chain_holds" "chain_holds" (defArgs (top 58)) (defBody (top 58)) (defScope (top 58)) .none kV14 dc14 pm14 an14 cd14 ct14), sl14⟩) (c14 : PySem.W.codeIn K cd14 "chain_holds" = true) (k14 : PySem.W.keepIn K (.ref f14) = true)
    (a15 : PySem.W.nsIn K mainGlobals "counts_hold" = some (some (.ref f15))) (l15 : K.lookup f15 = some ⟨oc15, od15, .func (PySem.W.fnOf "counts_hold" "counts_hold" (defArgs (top 60)) (defBody (top 60)) (defScope (top 60)) .none kV15 dc15 pm15 an15 cd15 ct15), sl15⟩) (c15 : PySem.W.codeIn K cd15 "counts_hold" = true) (k15 : PySem.W.keepIn K (.ref f15) = true)
    (a16 : PySem.W.nsIn K mainGlobals "paper_holds" = some (some (.ref f16))) (l16 : K.lookup f16 = some ⟨oc16, od16, .func (PySem.W.fnOf "paper_holds" "paper_holds" (defArgs (top 61)) (defBody (top 61)) (defScope (top 61)) .none kV16 dc16 pm16 an16 cd16 ct16), sl16⟩) (c16 : PySem.W.codeIn K cd16 "paper_holds" = true) (k16 : PySem.W.keepIn K (.ref f16) = true)
    (a17 : PySem.W.nsIn K mainGlobals "holds" = some (some (.ref f17))) (l17 : K.lookup f17 = some ⟨oc17, od17, .func (PySem.W.fnOf "holds" "holds" (defArgs (top 62)) (defBody (top 62)) (defScope (top 62)) .none kV17 dc17 pm17 an17 cd17 ct17), sl17⟩) (c17 : PySem.W.codeIn K cd17 "holds" = true) (k17 : PySem.W.keepIn K (.ref f17) = true)
    (a18 : PySem.W.nsIn K mainGlobals "_law_pool" = some (some (.ref f18))) (l18 : K.lookup f18 = some ⟨oc18, od18, .func (PySem.W.fnOf "_law_pool" "_law_pool" (defArgs (top 64)) (defBody (top 64)) (defScope (top 64)) .none kV18 dc18 pm18 an18 cd18 ct18), sl18⟩) (c18 : PySem.W.codeIn K cd18 "_law_pool" = true) (k18 : PySem.W.keepIn K (.ref f18) = true)
    (a19 : PySem.W.nsIn K mainGlobals "_law_take" = some (some (.ref f19))) (l19 : K.lookup f19 = some ⟨oc19, od19, .func (PySem.W.fnOf "_law_take" "_law_take" (defArgs (top 65)) (defBody (top 65)) (defScope (top 65)) .none kV19 dc19 pm19 an19 cd19 ct19), sl19⟩) (c19 : PySem.W.codeIn K cd19 "_law_take" = true) (k19 : PySem.W.keepIn K (.ref f19) = true)
    (a20 : PySem.W.nsIn K mainGlobals "_law_whole" = some (some (.ref f20))) (l20 : K.lookup f20 = some ⟨oc20, od20, .func (PySem.W.fnOf "_law_whole" "_law_whole" (defArgs (top 66)) (defBody (top 66)) (defScope (top 66)) .none kV20 dc20 pm20 an20 cd20 ct20), sl20⟩) (c20 : PySem.W.codeIn K cd20 "_law_whole" = true) (k20 : PySem.W.keepIn K (.ref f20) = true)
    (a21 : PySem.W.nsIn K mainGlobals "_law_is_pair" = some (some (.ref f21))) (l21 : K.lookup f21 = some ⟨oc21, od21, .func (PySem.W.fnOf "_law_is_pair" "_law_is_pair" (defArgs (top 67)) (defBody (top 67)) (defScope (top 67)) .none kV21 dc21 pm21 an21 cd21 ct21), sl21⟩) (c21 : PySem.W.codeIn K cd21 "_law_is_pair" = true) (k21 : PySem.W.keepIn K (.ref f21) = true)
    (a22 : PySem.W.nsIn K mainGlobals "_law_is_row" = some (some (.ref f22))) (l22 : K.lookup f22 = some ⟨oc22, od22, .func (PySem.W.fnOf "_law_is_row" "_law_is_row" (defArgs (top 68)) (defBody (top 68)) (defScope (top 68)) .none kV22 dc22 pm22 an22 cd22 ct22), sl22⟩) (c22 : PySem.W.codeIn K cd22 "_law_is_row" = true) (k22 : PySem.W.keepIn K (.ref f22) = true)
    (a23 : PySem.W.nsIn K mainGlobals "_law_row_by" = some (some (.ref f23))) (l23 : K.lookup f23 = some ⟨oc23, od23, .func (PySem.W.fnOf "_law_row_by" "_law_row_by" (defArgs (top 69)) (defBody (top 69)) (defScope (top 69)) .none kV23 dc23 pm23 an23 cd23 ct23), sl23⟩) (c23 : PySem.W.codeIn K cd23 "_law_row_by" = true) (k23 : PySem.W.keepIn K (.ref f23) = true)
    (a24 : PySem.W.nsIn K mainGlobals "_law_is_size" = some (some (.ref f24))) (l24 : K.lookup f24 = some ⟨oc24, od24, .func (PySem.W.fnOf "_law_is_size" "_law_is_size" (defArgs (top 70)) (defBody (top 70)) (defScope (top 70)) .none kV24 dc24 pm24 an24 cd24 ct24), sl24⟩) (c24 : PySem.W.codeIn K cd24 "_law_is_size" = true) (k24 : PySem.W.keepIn K (.ref f24) = true)
    (a25 : PySem.W.nsIn K mainGlobals "_law_carried" = some (some (.ref f25))) (l25 : K.lookup f25 = some ⟨oc25, od25, .func (PySem.W.fnOf "_law_carried" "_law_carried" (defArgs (top 71)) (defBody (top 71)) (defScope (top 71)) .none kV25 dc25 pm25 an25 cd25 ct25), sl25⟩) (c25 : PySem.W.codeIn K cd25 "_law_carried" = true) (k25 : PySem.W.keepIn K (.ref f25) = true)
    (a26 : PySem.W.nsIn K mainGlobals "_law_moved" = some (some (.ref f26))) (l26 : K.lookup f26 = some ⟨oc26, od26, .func (PySem.W.fnOf "_law_moved" "_law_moved" (defArgs (top 72)) (defBody (top 72)) (defScope (top 72)) .none kV26 dc26 pm26 an26 cd26 ct26), sl26⟩) (c26 : PySem.W.codeIn K cd26 "_law_moved" = true) (k26 : PySem.W.keepIn K (.ref f26) = true)
    (a27 : PySem.W.nsIn K mainGlobals "_law_is_move" = some (some (.ref f27))) (l27 : K.lookup f27 = some ⟨oc27, od27, .func (PySem.W.fnOf "_law_is_move" "_law_is_move" (defArgs (top 73)) (defBody (top 73)) (defScope (top 73)) .none kV27 dc27 pm27 an27 cd27 ct27), sl27⟩) (c27 : PySem.W.codeIn K cd27 "_law_is_move" = true) (k27 : PySem.W.keepIn K (.ref f27) = true)
    (a28 : PySem.W.nsIn K mainGlobals "_law_due" = some (some (.ref f28))) (l28 : K.lookup f28 = some ⟨oc28, od28, .func (PySem.W.fnOf "_law_due" "_law_due" (defArgs (top 74)) (defBody (top 74)) (defScope (top 74)) .none kV28 dc28 pm28 an28 cd28 ct28), sl28⟩) (c28 : PySem.W.codeIn K cd28 "_law_due" = true) (k28 : PySem.W.keepIn K (.ref f28) = true)
    (a29 : PySem.W.nsIn K mainGlobals "_law_spoilt_moves" = some (some (.ref f29))) (l29 : K.lookup f29 = some ⟨oc29, od29, .func (PySem.W.fnOf "_law_spoilt_moves" "_law_spoilt_moves" (defArgs (top 75)) (defBody (top 75)) (defScope (top 75)) .none kV29 dc29 pm29 an29 cd29 ct29), sl29⟩) (c29 : PySem.W.codeIn K cd29 "_law_spoilt_moves" = true) (k29 : PySem.W.keepIn K (.ref f29) = true)
    (a30 : PySem.W.nsIn K mainGlobals "law" = some (some (.ref f30))) (l30 : K.lookup f30 = some ⟨oc30, od30, .func (PySem.W.fnOf "law" "law" (defArgs (top 76)) (defBody (top 76)) (defScope (top 76)) .none kV30 dc30 pm30 an30 cd30 ct30), sl30⟩) (c30 : PySem.W.codeIn K cd30 "law" = true) (k30 : PySem.W.keepIn K (.ref f30) = true)
    (z_len : PySem.W.nsIn K mainGlobals "len" = some none)
    (z_abs : PySem.W.nsIn K mainGlobals "abs" = some none)
    (z_int : PySem.W.nsIn K mainGlobals "int" = some none)
    (z_all : PySem.W.nsIn K mainGlobals "all" = some none)
    (z_isinstance : PySem.W.nsIn K mainGlobals "isinstance" = some none)
    (z_bool : PySem.W.nsIn K mainGlobals "bool" = some none)
    (z_tuple : PySem.W.nsIn K mainGlobals "tuple" = some none)
    (z_list : PySem.W.nsIn K mainGlobals "list" = some none)
    (z_range : PySem.W.nsIn K mainGlobals "range" = some none)
    (z_min : PySem.W.nsIn K mainGlobals "min" = some none)
    (z_max : PySem.W.nsIn K mainGlobals "max" = some none)
    (z_sorted : PySem.W.nsIn K mainGlobals "sorted" = some none)
    (z_str : PySem.W.nsIn K mainGlobals "str" = some none)
    (z_repr : PySem.W.nsIn K mainGlobals "repr" = some none)
    {C_NoMove : Addr}
    (ac_NoMove : PySem.W.nsIn K mainGlobals "NoMove" = some (some (.ref C_NoMove)))
    (xc_NoMove : ExcC K C_NoMove)
    (ei_NoMove : ExcI K C_NoMove)
    (kv_NoMove : PySem.W.kitOne K (.ref C_NoMove) (.type "ValueError") = some true)
    (kx_NoMove_NoMove : PySem.W.kitOne K (.ref C_NoMove) (.ref C_NoMove) = some true)
    (em_NoMove_NoMove : ExcM K C_NoMove C_NoMove true)
    (ag_MOST_THINGS : PySem.W.nsIn K mainGlobals "MOST_THINGS" = some (some (.int 12 tk_MOST_THINGS)))
    (ag_MOST_EXCHANGES : PySem.W.nsIn K mainGlobals "MOST_EXCHANGES" = some (some (.int 60 tk_MOST_EXCHANGES)))
    (au : PySem.W.nsIn K mainGlobals "PARTS_OF_PAPERS" = some (some (.ref U)))
    (lu : K.lookup U = some { cls := .type "dict", data := .dict [{ hash := PyData.keyHash w.params (Str.ofString "row"), key := .str (Str.ofString "row") ta0, val := .int 3 tb0 }, { hash := PyData.keyHash w.params (Str.ofString "least"), key := .str (Str.ofString "least") ta1, val := .int 3 tb1 }, { hash := PyData.keyHash w.params (Str.ofString "walk"), key := .str (Str.ofString "walk") ta2, val := .int 5 tb2 }, { hash := PyData.keyHash w.params (Str.ofString "half"), key := .str (Str.ofString "half") ta3, val := .int 4 tb3 }, { hash := PyData.keyHash w.params (Str.ofString "chain"), key := .str (Str.ofString "chain") ta4, val := .int 3 tb4 }, { hash := PyData.keyHash w.params (Str.ofString "counts"), key := .str (Str.ofString "counts") ta5, val := .int 3 tb5 }].toArray ep })
    (au2 : PySem.W.nsIn K mainGlobals "UNDOING" = some (some (.ref UU)))
    (lu2 : K.lookup UU = some { cls := .type "dict", data := .dict [{ hash := PyData.keyHash w.params (Str.ofString "forth"), key := .str (Str.ofString "forth") tc0, val := .str (Str.ofString "back") td0 }, { hash := PyData.keyHash w.params (Str.ofString "back"), key := .str (Str.ofString "back") tc1, val := .str (Str.ofString "forth") td1 }].toArray ep2 })
    (su2 : (UU == sysModules) = false)
    (su : (U == sysModules) = false)
    (kib : PySem.W.kitOne K (.type "int") (.type "bool") = some false) :
    ∃ fd : FuncData, (∀ (s : Shared) (v : Value), BindsTo s fd ⟨[v], []⟩ [("_law_script", v)]) ∧ ∀ base : Heap, K.In base → base.Ns mainGlobals mg → FnOk l.prog w K mg base CX0 11 fa fd ["_law_script"] (spLaw K) := by
  have F_is_whole := fun_mk (st := top 6) l0 c0 k0
  have b_is_whole := F_is_whole.binds (ps := ["thing"]) fun _ _ _ _ _ _ us hl => match us, hl with | [_], _ => rfl
  have m_is_whole := PySem.W.mg_of X G a0
  have F_is_between := fun_mk (st := top 7) l1 c1 k1
  have b_is_between := F_is_between.binds (ps := ["thing", "low", "high"]) fun _ _ _ _ _ _ us hl => match us, hl with | [_, _, _], _ => rfl
  have m_is_between := PySem.W.mg_of X G a1
  have F_is_exchange := fun_mk (st := top 20) l2 c2 k2
  have b_is_exchange := F_is_exchange.binds (ps := ["n", "thing"]) fun _ _ _ _ _ _ us hl => match us, hl with | [_, _], _ => rfl
  have m_is_exchange := PySem.W.mg_of X G a2
  have F_is_row := fun_mk (st := top 21) l3 c3 k3
  have b_is_row := F_is_row.binds (ps := ["n", "thing"]) fun _ _ _ _ _ _ us hl => match us, hl with | [_, _], _ => rfl
  have m_is_row := PySem.W.mg_of X G a3
  have F_exchanged := fun_mk (st := top 22) l4 c4 k4
  have b_exchanged := F_exchanged.binds (ps := ["exchange", "thing"]) fun _ _ _ _ _ _ us hl => match us, hl with | [_, _], _ => rfl
  have m_exchanged := PySem.W.mg_of X G a4
  have F_carried := fun_mk (st := top 36) l5 c5 k5
  have b_carried := F_carried.binds (ps := ["exchange", "other"]) fun _ _ _ _ _ _ us hl => match us, hl with | [_, _], _ => rfl
  have m_carried := PySem.W.mg_of X G a5
  have F_moved := fun_mk (st := top 37) l6 c6 k6
  have b_moved := F_moved.binds (ps := ["row", "k", "way"]) fun _ _ _ _ _ _ us hl => match us, hl with | [_, _, _], _ => rfl
  have m_moved := PySem.W.mg_of X G a6
  have F_walked := fun_mk (st := top 38) l7 c7 k7
  have b_walked := F_walked.binds (ps := ["row", "moves"]) fun _ _ _ _ _ _ us hl => match us, hl with | [_, _], _ => rfl
  have m_walked := PySem.W.mg_of X G a7
  have F_row_holds := fun_mk (st := top 52) l8 c8 k8
  have b_row_holds := F_row_holds.binds (ps := ["order", "row"]) fun _ _ _ _ _ _ us hl => match us, hl with | [_, _], _ => rfl
  have m_row_holds := PySem.W.mg_of X G a8
  have F_least_holds := fun_mk (st := top 53) l9 c9 k9
  have b_least_holds := F_least_holds.binds (ps := ["order", "row"]) fun _ _ _ _ _ _ us hl => match us, hl with | [_, _], _ => rfl
  have m_least_holds := PySem.W.mg_of X G a9
  have F_is_move := fun_mk (st := top 54) l10 c10 k10
  have b_is_move := F_is_move.binds (ps := ["thing"]) fun _ _ _ _ _ _ us hl => match us, hl with | [_], _ => rfl
  have m_is_move := PySem.W.mg_of X G a10
  have F_is_walk := fun_mk (st := top 55) l11 c11 k11
  have b_is_walk := F_is_walk.binds (ps := ["thing"]) fun _ _ _ _ _ _ us hl => match us, hl with | [_], _ => rfl
  have m_is_walk := PySem.W.mg_of X G a11
  have F_walk_holds := fun_mk (st := top 56) l12 c12 k12
  have b_walk_holds := F_walk_holds.binds (ps := ["n", "one", "moves", "other"]) fun _ _ _ _ _ _ us hl => match us, hl with | [_, _, _, _], _ => rfl
  have m_walk_holds := PySem.W.mg_of X G a12
  have F_half_holds := fun_mk (st := top 57) l13 c13 k13
  have b_half_holds := F_half_holds.binds (ps := ["n", "one", "other"]) fun _ _ _ _ _ _ us hl => match us, hl with | [_, _, _], _ => rfl
  have m_half_holds := PySem.W.mg_of X G a13
  have F_chain_holds := fun_mk (st := top 58) l14 c14 k14
  have b_chain_holds := F_chain_holds.binds (ps := ["n", "sharings"]) fun _ _ _ _ _ _ us hl => match us, hl with | [_, _], _ => rfl
  have m_chain_holds := PySem.W.mg_of X G a14
  have F_counts_hold := fun_mk (st := top 60) l15 c15 k15
  have b_counts_hold := F_counts_hold.binds (ps := ["n", "lists"]) fun _ _ _ _ _ _ us hl => match us, hl with | [_, _], _ => rfl
  have m_counts_hold := PySem.W.mg_of X G a15
  have F_paper_holds := fun_mk (st := top 61) l16 c16 k16
  have b_paper_holds := F_paper_holds.binds (ps := ["word", "paper"]) fun _ _ _ _ _ _ us hl => match us, hl with | [_, _], _ => rfl
  have m_paper_holds := PySem.W.mg_of X G a16
  have F_holds := fun_mk (st := top 62) l17 c17 k17
  have b_holds := F_holds.binds (ps := ["paper"]) fun _ _ _ _ _ _ us hl => match us, hl with | [_], _ => rfl
  have m_holds := PySem.W.mg_of X G a17
  have F__law_pool := fun_mk (st := top 64) l18 c18 k18
  have b__law_pool := F__law_pool.binds (ps := ["_law_script", "_law_at"]) fun _ _ _ _ _ _ us hl => match us, hl with | [_, _], _ => rfl
  have m__law_pool := PySem.W.mg_of X G a18
  have F__law_take := fun_mk (st := top 65) l19 c19 k19
  have b__law_take := F__law_take.binds (ps := ["_law_pool_here", "_law_many"]) fun _ _ _ _ _ _ us hl => match us, hl with | [_, _], _ => rfl
  have m__law_take := PySem.W.mg_of X G a19
  have F__law_whole := fun_mk (st := top 66) l20 c20 k20
  have b__law_whole := F__law_whole.binds (ps := ["_law_thing"]) fun _ _ _ _ _ _ us hl => match us, hl with | [_], _ => rfl
  have m__law_whole := PySem.W.mg_of X G a20
  have F__law_is_pair := fun_mk (st := top 67) l21 c21 k21
  have b__law_is_pair := F__law_is_pair.binds (ps := ["_law_n", "_law_thing"]) fun _ _ _ _ _ _ us hl => match us, hl with | [_, _], _ => rfl
  have m__law_is_pair := PySem.W.mg_of X G a21
  have F__law_is_row := fun_mk (st := top 68) l22 c22 k22
  have b__law_is_row := F__law_is_row.binds (ps := ["_law_n", "_law_thing"]) fun _ _ _ _ _ _ us hl => match us, hl with | [_, _], _ => rfl
  have m__law_is_row := PySem.W.mg_of X G a22
  have F__law_row_by := fun_mk (st := top 69) l23 c23 k23
  have b__law_row_by := F__law_row_by.binds (ps := ["_law_pool_here", "_law_n", "_law_many"]) fun _ _ _ _ _ _ us hl => match us, hl with | [_, _, _], _ => rfl
  have m__law_row_by := PySem.W.mg_of X G a23
  have F__law_is_size := fun_mk (st := top 70) l24 c24 k24
  have b__law_is_size := F__law_is_size.binds (ps := ["_law_thing"]) fun _ _ _ _ _ _ us hl => match us, hl with | [_], _ => rfl
  have m__law_is_size := PySem.W.mg_of X G a24
  have F__law_carried := fun_mk (st := top 71) l25 c25 k25
  have b__law_carried := F__law_carried.binds (ps := ["_law_pair", "_law_by"]) fun _ _ _ _ _ _ us hl => match us, hl with | [_, _], _ => rfl
  have m__law_carried := PySem.W.mg_of X G a25
  have F__law_moved := fun_mk (st := top 72) l26 c26 k26
  have b__law_moved := F__law_moved.binds (ps := ["_law_row", "_law_k", "_law_way"]) fun _ _ _ _ _ _ us hl => match us, hl with | [_, _, _], _ => rfl
  have m__law_moved := PySem.W.mg_of X G a26
  have F__law_is_move := fun_mk (st := top 73) l27 c27 k27
  have b__law_is_move := F__law_is_move.binds (ps := ["_law_thing"]) fun _ _ _ _ _ _ us hl => match us, hl with | [_], _ => rfl
  have m__law_is_move := PySem.W.mg_of X G a27
  have F__law_due := fun_mk (st := top 74) l28 c28 k28
  have b__law_due := F__law_due.binds (ps := ["_law_n", "_law_one", "_law_moves", "_law_other"]) fun _ _ _ _ _ _ us hl => match us, hl with | [_, _, _, _], _ => rfl
  have m__law_due := PySem.W.mg_of X G a28
  have F__law_spoilt_moves := fun_mk (st := top 75) l29 c29 k29
  have b__law_spoilt_moves := F__law_spoilt_moves.binds (ps := ["_law_pool_here", "_law_way", "_law_moves"]) fun _ _ _ _ _ _ us hl => match us, hl with | [_, _, _], _ => rfl
  have m__law_spoilt_moves := PySem.W.mg_of X G a29
  have F_law := fun_mk (st := top 76) l30 c30 k30
  have b_law := F_law.binds (ps := ["_law_script"]) fun _ _ _ _ _ _ us hl => match us, hl with | [_], _ => rfl
  have m_law := PySem.W.mg_of X G a30
  have z_len := PySem.W.mg_none_of X G z_len
  have z_abs := PySem.W.mg_none_of X G z_abs
  have z_int := PySem.W.mg_none_of X G z_int
  have z_all := PySem.W.mg_none_of X G z_all
  have z_isinstance := PySem.W.mg_none_of X G z_isinstance
  have z_bool := PySem.W.mg_none_of X G z_bool
  have z_tuple := PySem.W.mg_none_of X G z_tuple
  have z_list := PySem.W.mg_none_of X G z_list
  have z_range := PySem.W.mg_none_of X G z_range
  have z_min := PySem.W.mg_none_of X G z_min
  have z_max := PySem.W.mg_none_of X G z_max
  have z_sorted := PySem.W.mg_none_of X G z_sorted
  have z_str := PySem.W.mg_none_of X G z_str
  have z_repr := PySem.W.mg_none_of X G z_repr
  have mc_NoMove := PySem.W.mg_of X G ac_NoMove
  have mg_MOST_THINGS := PySem.W.mg_of X G ag_MOST_THINGS
  have mg_MOST_EXCHANGES := PySem.W.mg_of X G ag_MOST_EXCHANGES
  have e := hfa.symm.trans m_law
  cases e
  refine ⟨PySem.W.fnOf "law" "law" (defArgs (top 76)) (defBody (top 76)) (defScope (top 76)) .none kV30 dc30 pm30 an30 cd30 ct30, fun s v => .of_eq rfl, fun base _ _ => ?_⟩
  have t0 : TPurse mg := ⟨z_len, z_abs, z_int⟩
  have t1 : T1 mg K := { t0 with b_all := z_all, b_isinstance := z_isinstance, b_bool := z_bool, b_tuple := z_tuple, b_list := z_list, b_range := z_range, k_ib := kib }
  have m_und := PySem.W.mg_of X G au
  have m_und2 := PySem.W.mg_of X G au2
  have ku : KNum K w.params U partsP := ⟨su, by decide, _, _, lu, .cons (.cons (.cons (.cons (.cons (.cons .nil)))))⟩
  have ku2 : KTxt K w.params UU undoing := ⟨su2, by decide, _, _, lu2, .cons (.cons .nil)⟩
  have fiw : FnAt l.prog w K mg base "is_whole" 1 ["thing"] spIwD := ⟨⟨_, _, ok_iwD F_is_whole t1, m_is_whole, k0, b_is_whole⟩⟩
  have td : TD l.prog w K mg base := { t1 with f_is_whole := fiw }
  have fbt : FnAt l.prog w K mg base "is_between" 2 ["thing", "low", "high"] spBtD := ⟨⟨_, _, ok_btD F_is_between td, m_is_between, k1, b_is_between⟩⟩
  have fbi : FnAt l.prog w K mg base "is_between" 2 ["thing", "low", "high"] spBt := ⟨⟨_, _, FnOk.weak (fun _ H _ _ z => by obtain ⟨x, lo, hi, e, q⟩ := z; exact ⟨.int x, fun _ => True, .int x, lo, hi, e, .int x, q⟩) (ok_btD F_is_between td), m_is_between, k1, b_is_between⟩⟩
  have td2 : TD2 l.prog w K mg base := { t1 with f_is_between := fbt }
  have td3 : TD3 l.prog w K mg base (.int 60 tk_MOST_EXCHANGES) := { t1 with g_MOST_EXCHANGES := mg_MOST_EXCHANGES, r_MOST_EXCHANGES := ⟨_, rfl⟩, f_is_exchange := ⟨⟨_, _, ok_isex F_is_exchange td2, m_is_exchange, k2, b_is_exchange⟩⟩ }
  have tca : TCa l.prog w K mg base := { t1 with b_sorted := z_sorted, f_exchanged := ⟨⟨_, _, ok_ex F_exchanged, m_exchanged, k4, b_exchanged⟩⟩ }
  have tmv : TMv l.prog w K mg base UU C_NoMove := { t1 with
    f_is_between := fbi
    f_carried := ⟨⟨_, _, ok_car F_carried tca, m_carried, k5, b_carried⟩⟩
    g_UNDOING := m_und2
    r_UNDOING := rfl
    k_UNDOING := ku2
    c_NoMove := mc_NoMove
    x_NoMove := xc_NoMove }
  have fmv : FnAtX l.prog w K mg base "moved" 3 ["row", "k", "way"] (spMvX C_NoMove) := ⟨⟨_, _, ok_mvX F_moved tmv, m_moved, k6, b_moved⟩⟩
  have twk : TWk l.prog w K mg base C_NoMove := { t1 with f_moved := fmv }
  have tim : TIm l.prog w K mg base := { t1 with b_str := z_str, f_is_whole := fiw }
  have tik : TIk l.prog w K mg base := { t1 with f_is_move := ⟨⟨_, _, ok_ismv F_is_move tim, m_is_move, k10, b_is_move⟩⟩ }
  have twh : TWh l.prog w K mg base (.int 12 tk_MOST_THINGS) C_NoMove := { t1 with
    g_MOST_THINGS := mg_MOST_THINGS
    r_MOST_THINGS := ⟨_, rfl⟩
    f_is_between := fbt
    f_is_row := ⟨⟨_, _, ok_isrow F_is_row td3, m_is_row, k3, b_is_row⟩⟩
    f_is_walk := ⟨⟨_, _, ok_iswk F_is_walk tik, m_is_walk, k11, b_is_walk⟩⟩
    f_walked := ⟨⟨_, _, ok_wkX F_walked twk, m_walked, k7, b_walked⟩⟩
    c_NoMove := mc_NoMove
    e1 := em_NoMove_NoMove }
  have tph : TPh5 l.prog w K mg base := { t1 with
    f_walk_holds := ⟨⟨_, _, ok_wkh F_walk_holds twh, m_walk_holds, k12, b_walk_holds⟩⟩
    f_row_holds := ⟨⟨_, _, ok_nev F_row_holds fun _ _ _ _ h => h, m_row_holds, k8, b_row_holds⟩⟩
    f_least_holds := ⟨⟨_, _, ok_nev F_least_holds fun _ _ _ _ h => h, m_least_holds, k9, b_least_holds⟩⟩
    f_half_holds := ⟨⟨_, _, ok_nev F_half_holds fun _ _ _ _ h => h, m_half_holds, k13, b_half_holds⟩⟩
    f_chain_holds := ⟨⟨_, _, ok_nev F_chain_holds fun _ _ _ _ h => h, m_chain_holds, k14, b_chain_holds⟩⟩
    f_counts_hold := ⟨⟨_, _, ok_nev F_counts_hold fun _ _ _ _ h => h, m_counts_hold, k15, b_counts_hold⟩⟩ }
  have thd : THd l.prog w K mg base U g65 R65 9 := { t1 with b_str := z_str, g_PARTS := m_und, r_PARTS := rfl, k_PARTS := ku, f_paper_holds := ⟨⟨_, _, ok_ph5 F_paper_holds tph, m_paper_holds, k16, b_paper_holds⟩⟩ }
  have ftake : FnAt l.prog w K mg base "_law_take" 1 ["_law_pool_here", "_law_many"] spTk := ⟨⟨_, _, ok_tk F__law_take, m__law_take, k19, b__law_take⟩⟩
  have flw : FnAt l.prog w K mg base "_law_whole" 1 ["_law_thing"] spIwD := ⟨⟨_, _, ok_lwD F__law_whole t1, m__law_whole, k20, b__law_whole⟩⟩
  have tlp : TLp l.prog w K mg base := { t1 with f__law_whole := flw }
  have tli : TLi l.prog w K mg base := { t1 with f__law_is_pair := ⟨⟨_, _, ok_lpr F__law_is_pair tlp, m__law_is_pair, k21, b__law_is_pair⟩⟩ }
  have ttk : TTk l.prog w K mg base := { t1 with f__law_take := ftake }
  have tcr5 : TCr5 mg K := { t1 with b_min := z_min, b_max := z_max }
  have tmv5 : TMv5 l.prog w K mg base := { t1 with f__law_carried := ⟨⟨_, _, ok_car5 F__law_carried tcr5, m__law_carried, k25, b__law_carried⟩⟩ }
  have flm : FnAt l.prog w K mg base "_law_moved" 2 ["_law_row", "_law_k", "_law_way"] spLm5 := ⟨⟨_, _, ok_lm5 F__law_moved tmv5, m__law_moved, k26, b__law_moved⟩⟩
  have tim5 : TIm5 l.prog w K mg base := { t1 with b_str := z_str, f__law_whole := flw }
  have tdu : TDu5 l.prog w K mg base := { t1 with
    f__law_is_size := ⟨⟨_, _, ok_sz5 F__law_is_size tlp, m__law_is_size, k24, b__law_is_size⟩⟩
    f__law_is_row := ⟨⟨_, _, ok_lisrP F__law_is_row tli, m__law_is_row, k22, b__law_is_row⟩⟩
    f__law_is_move := ⟨⟨_, _, ok_lmv5 F__law_is_move tim5, m__law_is_move, k27, b__law_is_move⟩⟩
    f__law_moved := flm }
  have tl : TL l.prog w K mg base := { t1 with
    b_repr := z_repr
    b_str := z_str
    f__law_pool := ⟨⟨_, _, ok_pool F__law_pool t0, m__law_pool, k18, b__law_pool⟩⟩
    f__law_take := ftake
    f__law_row_by := ⟨⟨_, _, ok_rb4 F__law_row_by ttk, m__law_row_by, k23, b__law_row_by⟩⟩
    f__law_moved := flm
    f__law_spoilt_moves := ⟨⟨_, _, ok_spm F__law_spoilt_moves ttk, m__law_spoilt_moves, k29, b__law_spoilt_moves⟩⟩
    f__law_due := ⟨⟨_, _, ok_due5 F__law_due tdu, m__law_due, k28, b__law_due⟩⟩
    f_holds := ⟨⟨_, _, ok_holds F_holds thd, m_holds, k17, b_holds⟩⟩ }
  exact ok_law F_law tl
theorem walk {l : PySem.W.OpenLaw} {q : Program} {loose : List Str} {XP : (Str → Option Value) → Heap → Prop} {YP : World → Heap → Prop} {d : DefRec} {K : Params → PySem.W.Frag} (hn : l.most = some 63) (hdf : d.params.defaults = [])
    (hY : ∀ (w : World) (h : Heap), YP w h → (K w.params).In h)
    (F : ∀ (w : World) (mg : Str → Option Value) (fa : Addr) (h : Heap), (K w.params).In h → h.Ns mainGlobals mg → mg d.name = some (.ref fa) →
      ∃ fd : FuncData, (∀ (s : Shared) (u : Value), BindsTo s fd ⟨[u], []⟩ [("_law_script", u)]) ∧ ∀ base : Heap, (K w.params).In base → base.Ns mainGlobals mg → FnOk l.prog w (K w.params) mg base CX0 11 fa fd ["_law_script"] (spLaw (K w.params))) :
    PySem.W.WalkO q loose XP YP l.row.toRowW d [] (fun f vs => PySem.call f vs) :=
  L2.walk_of (n := 63) (k := 11) (x := "_law_script") (CX := fun _ => CX0) (sp := fun w => spLaw (K w.params)) hn (by decide) hdf ⟨rfl, rfl, by decide, by decide⟩ hY F (fun _ _ a ns hl _ hS => ⟨a, ns, rfl, hS, hl, fun _ => rfl⟩) fun _ _ _ _ _ z => z
end Sw
def PySem.W.Fast.tw7370252512563360954 : Nat := 0
def PySem.W.Fast.tw17437695868745383924 : Nat := 0
def PySem.W.Fast.tw10742184286442907089 : Nat := 0
def PySem.W.Fast.tw2800429192880960399 : Nat := 0
def PySem.W.Fast.tw9707366986301865129 : Nat := 0
def PySem.W.Fast.tw16336256227430340978 : Nat := 0
def PySem.W.Fast.tw15655521226215155593 : Nat := 0
def PySem.W.Fast.tw5582911150370301248 : Nat := 0
def PySem.W.Fast.tw13889214847603125033 : Nat := 0
def PySem.W.Fast.tw6919163509605822934 : Nat := 0
def PySem.W.Fast.tw17766960304801387361 : Nat := 0
def PySem.W.Fast.tw8382622843203592850 : Nat := 0
def PySem.W.Fast.tw3603629958919554358 : Nat := 0
def PySem.W.Fast.tw12061648326722781816 : Nat := 0
def PySem.W.Fast.tw18240939727113628678 : Nat := 0
def PySem.W.Fast.tw2578095286985270897 : Nat := 0
def PySem.W.Fast.tw11612332707458697007 : Nat := 0
def PySem.W.Fast.tw13190059155090470592 : Nat := 0
def PySem.W.Fast.tw18055549086569947408 : Nat := 0
def PySem.W.Fast.tw3822277423859770040 : Nat := 0
def PySem.W.Fast.tw576310104988568455 : Nat := 0
def PySem.W.Fast.tw2964933737843707932 : Nat := 0
def PySem.W.Fast.tw10945437786688493522 : Nat := 0
def PySem.W.Fast.tw16061226077841414070 : Nat := 0
def PySem.W.Fast.tw8980927062555496427 : Nat := 0
def PySem.W.Fast.tw12539202003474402983 : Nat := 0
open PySem PySem.W PyProof.Rows
set_option maxRecDepth 100000 in
set_option maxHeartbeats 0 in
theorem PySem.Challenge.cw_swapstars_k65_papers_of_walks_holds : PySem.Challenge.rw_swapstars_k65_papers_of_walks.Holds := by
  w_on; o_law; k_head; (case hw => w_witness2)
  k_fill
  refine Sw.walk (l := PySem.Challenge.rw_swapstars_k65_papers_of_walks) rfl rfl (fun w h Y => PySem.W.kIn_of Y) ?F
  case F =>
    intro w mg fa h KX G hmg
    refine' Sw.all_mk KX G hmg ?a0 ?l0 ?c0 ?k0 ?a1 ?l1 ?c1 ?k1 ?a2 ?l2 ?c2 ?k2 ?a3 ?l3 ?c3 ?k3 ?a4 ?l4 ?c4 ?k4 ?a5 ?l5 ?c5 ?k5 ?a6 ?l6 ?c6 ?k6 ?a7 ?l7 ?c7 ?k7 ?a8 ?l8 ?c8 ?k8 ?a9 ?l9 ?c9 ?k9 ?a10 ?l10 ?c10 ?k10 ?a11 ?l11 ?c11 ?k11 ?a12 ?l12 ?c12 ?k12 ?a13 ?l13 ?c13 ?k13 ?a14 ?l14 ?c14 ?k14 ?a15 ?l15 ?c15 ?k15 ?a16 ?l16 ?c16 ?k16 ?a17 ?l17 ?c17 ?k17 ?a18 ?l18 ?c18 ?k18 ?a19 ?l19 ?c19 ?k19 ?a20 ?l20 ?c20 ?k20 ?a21 ?l21 ?c21 ?k21 ?a22 ?l22 ?c22 ?k22 ?a23 ?l23 ?c23 ?k23 ?a24 ?l24 ?c24 ?k24 ?a25 ?l25 ?c25 ?k25 ?a26 ?l26 ?c26 ?k26 ?a27 ?l27 ?c27 ?k27 ?a28 ?l28 ?c28 ?k28 ?a29 ?l29 ?c29 ?k29 ?a30 ?l30 ?c30 ?k30 ?z_len ?z_abs ?z_int ?z_all ?z_isinstance ?z_bool ?z_tuple ?z_list ?z_range ?z_min ?z_max ?z_sorted ?z_str ?z_repr ?ac_NoMove ?xc_NoMove ?ei_NoMove ?kv_NoMove ?kx_NoMove_NoMove ?em_NoMove_NoMove ?ag_MOST_THINGS ?ag_MOST_EXCHANGES ?au ?lu ?au2 ?lu2 ?su2 ?su ?kib
    (case a0 => k_is); (case l0 => k_is); (case c0 => k_is); (case k0 => k_is)
    (case a1 => k_is); (case l1 => k_is); (case c1 => k_is); (case k1 => k_is)
    (case a2 => k_is); (case l2 => k_is); (case c2 => k_is); (case k2 => k_is)
    (case a3 => k_is); (case l3 => k_is); (case c3 => k_is); (case k3 => k_is)
    (case a4 => k_is); (case l4 => k_is); (case c4 => k_is); (case k4 => k_is)
    (case a5 => k_is); (case l5 => k_is); (case c5 => k_is); (case k5 => k_is)
    (case a6 => k_is); (case l6 => k_is); (case c6 => k_is); (case k6 => k_is)
    (case a7 => k_is); (case l7 => k_is); (case c7 => k_is); (case k7 => k_is)
    (case a8 => k_is); (case l8 => k_is); (case c8 => k_is); (case k8 => k_is)
    (case a9 => k_is); (case l9 => k_is); (case c9 => k_is); (case k9 => k_is)
    (case a10 => k_is); (case l10 => k_is); (case c10 => k_is); (case k10 => k_is)
    (case a11 => k_is); (case l11 => k_is); (case c11 => k_is); (case k11 => k_is)
    (case a12 => k_is); (case l12 => k_is); (case c12 => k_is); (case k12 => k_is)
    (case a13 => k_is); (case l13 => k_is); (case c13 => k_is); (case k13 => k_is)
    (case a14 => k_is); (case l14 => k_is); (case c14 => k_is); (case k14 => k_is)
    (case a15 => k_is); (case l15 => k_is); (case c15 => k_is); (case k15 => k_is)
    (case a16 => k_is); (case l16 => k_is); (case c16 => k_is); (case k16 => k_is)
    (case a17 => k_is); (case l17 => k_is); (case c17 => k_is); (case k17 => k_is)
    (case a18 => k_is); (case l18 => k_is); (case c18 => k_is); (case k18 => k_is)
    (case a19 => k_is); (case l19 => k_is); (case c19 => k_is); (case k19 => k_is)
    (case a20 => k_is); (case l20 => k_is); (case c20 => k_is); (case k20 => k_is)
    (case a21 => k_is); (case l21 => k_is); (case c21 => k_is); (case k21 => k_is)
    (case a22 => k_is); (case l22 => k_is); (case c22 => k_is); (case k22 => k_is)
    (case a23 => k_is); (case l23 => k_is); (case c23 => k_is); (case k23 => k_is)
    (case a24 => k_is); (case l24 => k_is); (case c24 => k_is); (case k24 => k_is)
    (case a25 => k_is); (case l25 => k_is); (case c25 => k_is); (case k25 => k_is)
    (case a26 => k_is); (case l26 => k_is); (case c26 => k_is); (case k26 => k_is)
    (case a27 => k_is); (case l27 => k_is); (case c27 => k_is); (case k27 => k_is)
    (case a28 => k_is); (case l28 => k_is); (case c28 => k_is); (case k28 => k_is)
    (case a29 => k_is); (case l29 => k_is); (case c29 => k_is); (case k29 => k_is)
    (case a30 => k_is); (case l30 => k_is); (case c30 => k_is); (case k30 => k_is)
    (case z_len => k_is); (case z_abs => k_is); (case z_int => k_is); (case z_all => k_is); (case z_isinstance => k_is); (case z_bool => k_is); (case z_tuple => k_is); (case z_list => k_is); (case z_range => k_is); (case z_min => k_is); (case z_max => k_is); (case z_sorted => k_is); (case z_str => k_is); (case z_repr => k_is)
    (case ac_NoMove => k_is)
    (case xc_NoMove => kernel_rfl)
    (case ei_NoMove => exact ⟨by k_is, by k_is, by k_is, by k_is, by k_is, by k_is, by k_is, by kernel_rfl⟩)
    (case kv_NoMove => kit_is)
    (case kx_NoMove_NoMove => kit_is)
    (case em_NoMove_NoMove => exact ⟨by k_is, by kernel_rfl, by k_is, by k_is⟩)
    (case ag_MOST_THINGS => k_is)
    (case ag_MOST_EXCHANGES => k_is)
    (case au => k_is)
    (case lu => k_is)
    (case su => rfl)
    (case au2 => k_is)
    (case lu2 => k_is)
    (case su2 => rfl)
    (case kib => exact L2.kit_int_bool _)
